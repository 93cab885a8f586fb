package reverse_test

import (
	"cmp"
	"maps"
	"math/rand"
	"slices"
	"strings"
	"testing"

	"syllabary/api"
	"syllabary/reverse"
	"syllabary/route"
	"syllabary/scheme"
)

// The functions here say again, in other ways than the package does, what the inputs of a text and the route of a pair are.

func accepting(s api.Scheme, mode int) bool {
	return int(s.Accept)/(1<<mode)%2 == 1
}

// ordered returns the first k inputs with their costs, by cost, length and bytes.
func ordered(costs map[string]int, k int) []api.Result {
	var l []api.Result
	for in, cost := range costs {
		l = append(l, api.Result{Text: in, Cost: cost})
	}
	slices.SortFunc(l, func(a, b api.Result) int {
		return cmp.Or(cmp.Compare(a.Cost, b.Cost), cmp.Compare(len(a.Text), len(b.Text)), cmp.Compare(a.Text, b.Text))
	})
	return l[:min(k, len(l))]
}

// cheaper enters an input with a cost, unless it is there for no more.
func cheaper(costs map[string]int, in string, cost int) {
	if old, is := costs[in]; !is || old > cost {
		costs[in] = cost
	}
}

// routes yields all routes whose runs go on, shorter ones before those that they are the beginnings of, until yield returns false. It reports whether it has never done so.
func routes(s api.Scheme, goesOn func(l []int, run api.Run) bool, yield func(l []int, run api.Run) bool) bool {
	var grow func(l []int) bool
	grow = func(l []int) bool {
		run := route.Run(s, l)
		if !run.Ok || !goesOn(l, run) {
			return true
		}
		if !yield(l, run) {
			return false
		}
		for i, r := range s.Rules {
			if r.From == run.Mode && !grow(append(slices.Clone(l), i)) {
				return false
			}
		}
		return true
	}
	return grow(nil)
}

// isDirect compares all beginnings of a route.
func isDirect(s api.Scheme, l []int) bool {
	for i := range l {
		for j := range i + 1 {
			a, b := route.Run(s, l[:j]), route.Run(s, l[:i+1])
			if a.Mode == b.Mode && a.Out == b.Out {
				return false
			}
		}
	}
	return true
}

// enumerated returns the inputs of all texts of at most so many bytes, by going through all direct routes, and false if there are more than so many of these.
func enumerated(s api.Scheme, bytes, most int) (map[string]map[string]int, bool) {
	inputs := map[string]map[string]int{}
	n := 0
	few := routes(s, func(l []int, run api.Run) bool {
		return len(run.In) <= 40 && len(run.Out) <= bytes && isDirect(s, l)
	}, func(l []int, run api.Run) bool {
		if accepting(s, run.Mode) {
			if inputs[run.Out] == nil {
				inputs[run.Out] = map[string]int{}
			}
			cheaper(inputs[run.Out], run.In, run.Cost)
		}
		n++
		return n <= most
	})
	return inputs, few
}

// table finds the inputs of a text from its end, so that it can be done where there are many routes: what may follow where a route stands does not depend on what it has taken.
type table struct {
	s     api.Scheme
	known map[string]map[string]int
}

func tabled(s api.Scheme, out string) map[string]int {
	t := table{s: s, known: map[string]map[string]int{}}
	return t.follow(0, out, "0")
}

// follow returns what a direct route may still take, if it is in a mode, has to put out a text, and has been in some modes (one digit for each, in order) since it last put out something. Of what has the same length, the first 50 are enough: whatever is taken before, these come first.
func (t table) follow(mode int, out, been string) map[string]int {
	at := string(rune('0'+mode)) + out + "/" + been
	if l, is := t.known[at]; is {
		return l
	}
	l := map[string]int{}
	if out == "" && accepting(t.s, mode) {
		l[""] = 0
	}
	for _, r := range t.s.Rules {
		to := string(rune('0' + r.To))
		rest, fits := strings.CutPrefix(out, r.Out)
		if r.From != mode || !fits || r.Out == "" && strings.Contains(been, to) {
			continue
		}
		if r.Out == "" {
			digits := []byte(been + to)
			slices.Sort(digits)
			to = string(digits)
		}
		for in, cost := range t.follow(r.To, rest, to) {
			if len(r.In)+len(in) <= 40 {
				cheaper(l, r.In+in, r.Cost+cost)
			}
		}
	}
	t.known[at] = firstOfEachLength(l)
	return t.known[at]
}

func firstOfEachLength(costs map[string]int) map[string]int {
	var of [41]map[string]int
	for in, cost := range costs {
		if of[len(in)] == nil {
			of[len(in)] = map[string]int{}
		}
		of[len(in)][in] = cost
	}
	l := map[string]int{}
	for _, some := range of {
		for _, a := range ordered(some, 50) {
			l[a.Text] = a.Cost
		}
	}
	return l
}

// searchedPair goes through all routes that take a beginning of in and put out one of out. It returns the first whole one that takes and puts out all, and whether there is one, and false if there are more than so many routes.
func searchedPair(s api.Scheme, in, out string, most int) (first []int, is, few bool) {
	n, cost := 0, 0
	few = routes(s, func(_ []int, run api.Run) bool {
		return strings.HasPrefix(in, run.In) && strings.HasPrefix(out, run.Out)
	}, func(l []int, run api.Run) bool {
		if run.In == in && run.Out == out && accepting(s, run.Mode) {
			if !is || cmp.Or(cmp.Compare(run.Cost, cost), cmp.Compare(len(l), len(first)), slices.Compare(l, first)) < 0 {
				first, is, cost = l, true, run.Cost
			}
		}
		n++
		return n <= most
	})
	return first, is, few
}

// point is how far a route has come in two texts, and its mode.
type point struct{ Taken, Put, Mode int }

// listed is a list of rules with its cost.
type listed struct {
	Cost  int
	Rules []int
}

// tabledPair finds, for each number of rules, the first routes to each point that have exactly so many, and returns the first one of these that is whole.
func tabledPair(s api.Scheme, in, out string) (first []int, is bool) {
	cost := 0
	exactly := map[point]listed{{}: {}}
	for len(exactly) > 0 {
		for mode := range s.Modes {
			if a, found := exactly[point{len(in), len(out), mode}]; found && accepting(s, mode) {
				if !is || a.Cost < cost || a.Cost == cost && len(a.Rules) == len(first) && slices.Compare(a.Rules, first) < 0 {
					first, is, cost = a.Rules, true, a.Cost
				}
			}
		}
		next := map[point]listed{}
		for at, a := range exactly {
			for i, r := range s.Rules {
				to := point{at.Taken + len(r.In), at.Put + len(r.Out), r.To}
				if r.From != at.Mode || to.Taken > len(in) || to.Put > len(out) || in[at.Taken:to.Taken] != r.In || out[at.Put:to.Put] != r.Out {
					continue
				}
				b := listed{a.Cost + r.Cost, append(slices.Clone(a.Rules), i)}
				if c, found := next[to]; !found || b.Cost < c.Cost || b.Cost == c.Cost && slices.Compare(b.Rules, c.Rules) < 0 {
					next[to] = b
				}
			}
		}
		exactly = next
	}
	return first, is
}

// bestIs checks a result of Best.
func bestIs(t *testing.T, s api.Scheme, out string, k int, want []api.Result, err api.Errno) {
	t.Helper()
	if l, e := reverse.Best(s, out, k); !slices.Equal(l, want) || e != err {
		t.Fatalf("Best(%+v, %q, %d) = %v, %v; it should be %v, %v", s, out, k, l, e, want, err)
	}
}

// cheapestIs checks a result of Cheapest.
func cheapestIs(t *testing.T, s api.Scheme, out, want string, cost int, err api.Errno) {
	t.Helper()
	if in, c, e := reverse.Cheapest(s, out); in != want || c != cost || e != err {
		t.Fatalf("Cheapest(%+v, %q) = %q, %d, %v; it should be %q, %d, %v", s, out, in, c, e, want, cost, err)
	}
}

// inputsAre checks the results of Best for several k, and of Cheapest, if all inputs of a text are known, or the first 50 of them.
func inputsAre(t *testing.T, s api.Scheme, out string, costs map[string]int) {
	t.Helper()
	if len(costs) == 0 {
		for _, k := range []int{1, 2, 50} {
			bestIs(t, s, out, k, nil, api.ErrNone)
		}
		cheapestIs(t, s, out, "", 0, api.ErrNone)
		return
	}
	all := ordered(costs, 50)
	for _, k := range []int{1, 2, 3, 7, 49, 50} {
		bestIs(t, s, out, k, all[:min(k, len(all))], api.OK)
	}
	cheapestIs(t, s, out, all[0].Text, all[0].Cost, api.OK)
}

// pairIs checks a result of Pair.
func pairIs(t *testing.T, s api.Scheme, in, out string, want []int, is bool) {
	t.Helper()
	err := api.OK
	if !is {
		want, err = nil, api.ErrNone
	}
	if l, e := reverse.Pair(s, in, out); !slices.Equal(l, want) || e != err {
		t.Fatalf("Pair(%+v, %q, %q) = %v, %v; it should be %v, %v", s, in, out, l, e, want, err)
	}
}

// found makes a list of results from inputs and costs.
func found(pairs ...any) []api.Result {
	var l []api.Result
	for i := 0; i < len(pairs); i += 2 {
		l = append(l, api.Result{Text: pairs[i].(string), Cost: pairs[i+1].(int)})
	}
	return l
}

// ends reports whether s is not endless: the rules that take nothing can be removed one by one, each when no other one follows it.
func ends(s api.Scheme) bool {
	var l []api.Rule
	for _, r := range s.Rules {
		if r.In == "" {
			l = append(l, r)
		}
	}
	for {
		rest := slices.DeleteFunc(slices.Clone(l), func(r api.Rule) bool {
			return !slices.ContainsFunc(l, func(next api.Rule) bool { return next.From == r.To })
		})
		if len(rest) == len(l) {
			return len(l) == 0
		}
		l = rest
	}
}

// parsedScheme parses the text of a scheme, whose newlines may be commas, and checks that it is not endless.
func parsedScheme(t *testing.T, text string) api.Scheme {
	t.Helper()
	s, _, err := scheme.Parse(strings.ReplaceAll(text, ",", "\n") + "\n")
	if err != api.OK || !ends(s) {
		t.Fatalf("%q: %v", text, err)
	}
	return s
}

func pick[T any](r *rand.Rand, l []T) T { return l[r.Intn(len(l))] }

// shape says how random schemes look: so many modes, so many rules at most, one rule in so many takes nothing, and what rules take, put out and cost.
type shape struct {
	Modes, Most, OneIn int
	Ins, Outs          []string
	Costs              []int
}

// anyShape has two letters, and short outputs, so that many routes take the same input or put out the same text.
func anyShape(r *rand.Rand, modes int) shape {
	ins := []string{"a", "b", "a", "b", "ab", "aa", "ba", "bb", "aba", "baa", "abab", "aabb"}
	return shape{
		Modes: modes, Most: pick(r, []int{3, 6, 2 * modes, 3 * modes}), OneIn: 2 + r.Intn(4), Ins: ins[:1+r.Intn(len(ins))],
		Outs:  pick(r, [][]string{{"", "A"}, {"", "", "A", "B"}, {"", "A", "AA", "AAA"}, {"", "A", "B", "AB", "BA", "ABA"}, {"A", "AA", "B"}}),
		Costs: pick(r, [][]int{{0}, {1}, {0, 1}, {1, 2, 3}, {0, 1, 2, 3, 5, 8}, {0, 1, 999, 1000}}),
	}
}

// random returns a valid scheme that is not endless, sound or not. Rules that take nothing lead to modes that come later in a random order, and half of the other ones to the mode that comes next.
func (h shape) random(r *rand.Rand) api.Scheme {
	order := r.Perm(h.Modes)
	s := api.Scheme{Modes: h.Modes, Accept: uint8(1 + r.Intn(1<<h.Modes-1))}
	for range h.Most/2 + r.Intn(h.Most/2+1) {
		next := api.Rule{From: r.Intn(h.Modes), To: r.Intn(h.Modes), In: pick(r, h.Ins), Out: pick(r, h.Outs), Cost: pick(r, h.Costs)}
		if r.Intn(2) == 0 {
			next.To = (next.From + 1) % h.Modes
		}
		if r.Intn(h.OneIn) == 0 && order[next.From] < order[next.To] {
			next.In = ""
		}
		if !slices.Contains(s.Rules, next) {
			s.Rules = append(s.Rules, next)
		}
	}
	return s
}

// randomRoute returns a route with so many rules, or fewer if no rule leads on.
func randomRoute(r *rand.Rand, s api.Scheme, n int) []int {
	var l []int
	for mode := 0; len(l) < n; {
		var next []int
		for i, rule := range s.Rules {
			if rule.From == mode {
				next = append(next, i)
			}
		}
		if next == nil {
			break
		}
		i := pick(r, next)
		l, mode = append(l, i), s.Rules[i].To
	}
	return l
}

// wholeRoute returns a random route that was ended, its run, and whether there is such an end, and its texts are not too long.
func wholeRoute(r *rand.Rand, s api.Scheme, n int) ([]int, api.Run, bool) {
	l := randomRoute(r, s, n)
	end, _, err := route.Least(s, route.Run(s, l).Mode)
	if err != api.OK {
		return nil, api.Run{}, false
	}
	l = slices.Concat(l, end)
	run := route.Run(s, l)
	return l, run, len(run.In) <= 40 && len(run.Out) <= 20
}

// randomText returns what a random route puts out at its beginning, or now and then any bytes.
func randomText(r *rand.Rand, s api.Scheme, most int) string {
	n := r.Intn(most + 1)
	if r.Intn(6) == 0 {
		b := make([]byte, n)
		for i := range b {
			b[i] = "ABC"[r.Intn(3)]
		}
		return string(b)
	}
	out := route.Run(s, randomRoute(r, s, 2*n)).Out
	return out[:min(len(out), n)]
}

// texts returns the texts for which there are inputs, in order.
func texts(inputs map[string]map[string]int) []string {
	return slices.Sorted(maps.Keys(inputs))
}
