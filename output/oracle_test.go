package output_test

import (
	"fmt"
	"maps"
	"math/rand"
	"slices"
	"sort"
	"strings"
	"testing"

	"syllabary/api"
	"syllabary/flaw"
	"syllabary/output"
	"syllabary/route"
	"syllabary/scheme"
)

// The functions here say again, in other ways than the package does, what an input may mean.

func accepting(s api.Scheme, mode int) bool {
	return int(s.Accept)/(1<<mode)%2 == 1
}

// spot is a mode with an output.
type spot struct {
	Mode int
	Out  string
}

// truth is what there is to know of a sound scheme and an input: the spots at each place, with their least costs, and the outputs of whole routes with theirs.
type truth struct {
	Places []map[spot]int
	Least  map[string]int
}

func newTruth(in string) truth {
	w := truth{Least: map[string]int{}}
	for range len(in) + 1 {
		w.Places = append(w.Places, map[spot]int{})
	}
	return w
}

// most returns the number of spots at the place that has the most of them.
func (w truth) most() int {
	most := 0
	for _, at := range w.Places {
		most = max(most, len(at))
	}
	return most
}

// end fills in the outputs of whole routes from the spots at the last place.
func (w truth) end(s api.Scheme) {
	for at, cost := range w.Places[len(w.Places)-1] {
		if !accepting(s, at.Mode) {
			continue
		}
		if old, is := w.Least[at.Out]; !is || old > cost {
			w.Least[at.Out] = cost
		}
	}
}

// best returns what Best must return.
func (w truth) best(k int) ([]api.Result, api.Errno) {
	if w.most() > 2000 {
		return nil, api.ErrBig
	}
	var lines []string
	for out, cost := range w.Least {
		lines = append(lines, fmt.Sprintf("%09d %s", cost, out))
	}
	sort.Strings(lines)
	var l []api.Result
	for _, line := range lines[:min(k, len(lines))] {
		out := line[10:]
		l = append(l, api.Result{Text: out, Cost: w.Least[out]})
	}
	if l == nil {
		return nil, api.ErrNone
	}
	return l, api.OK
}

// cost returns what Cost must return.
func (w truth) cost(out string) int {
	if cost, is := w.Least[out]; is {
		return cost
	}
	return -1
}

// routes yields all routes of a sound scheme that take a beginning of in, shorter ones before those that they are the beginnings of, as long as yield returns true.
func routes(s api.Scheme, in string, yield func(l []int, run api.Run) bool) {
	var grow func(l []int) bool
	grow = func(l []int) bool {
		run := route.Run(s, l)
		if !run.Ok || !strings.HasPrefix(in, run.In) {
			return true
		}
		if !yield(l, run) {
			return false
		}
		for i, r := range s.Rules {
			if r.From == run.Mode && !grow(append(slices.Clone(l), i)) {
				return false
			}
		}
		return true
	}
	grow(nil)
}

// enumerated finds the truth by going through all routes that take a beginning of in, and false if there are more than so many.
func enumerated(s api.Scheme, in string, most int) (truth, bool) {
	w := newTruth(in)
	n := 0
	routes(s, in, func(l []int, run api.Run) bool {
		at, here := w.Places[len(run.In)], spot{run.Mode, run.Out}
		if old, is := at[here]; !is || old > run.Cost {
			at[here] = run.Cost
		}
		n++
		return n <= most
	})
	w.end(s)
	return w, n <= most
}

// tabled finds the truth by applying all rules at all places until nothing changes, so that it can be found where there are many routes. It ends early if there are more than 2000 spots at a place.
func tabled(s api.Scheme, in string) truth {
	w := newTruth(in)
	w.Places[0][spot{}] = 0
	for changed := true; changed; {
		changed = false
		for i := range w.Places {
			for _, r := range s.Rules {
				to := i + len(r.In)
				if to > len(in) || in[i:to] != r.In {
					continue
				}
				if apply(r, w.Places[i], w.Places[to]) {
					changed = true
				}
				if len(w.Places[to]) > 2000 {
					return w
				}
			}
		}
	}
	w.end(s)
	return w
}

// apply adds the spots to which r leads, and reports whether any of them is new or has become cheaper.
func apply(r api.Rule, from, to map[spot]int) bool {
	cheaper := map[spot]int{}
	for at, cost := range from {
		if at.Mode != r.From {
			continue
		}
		next := spot{r.To, at.Out + r.Out}
		if old, is := to[next]; !is || old > cost+r.Cost {
			cheaper[next] = cost + r.Cost
		}
	}
	maps.Copy(to, cheaper)
	return len(cheaper) > 0
}

// goesOn says what Goes must return, for a mode that a route leads to in a sound scheme, and the rest of an input.
func goesOn(s api.Scheme, mode int, rest string) bool {
	type asked struct {
		Mode int
		Rest string
	}
	known := map[asked]bool{}
	var ask func(q asked) bool
	ask = func(q asked) bool {
		if answer, is := known[q]; is {
			return answer
		}
		answer := q.Rest == "" && route.Live(s)[q.Mode]
		for _, r := range s.Rules {
			if r.From != q.Mode || answer {
				continue
			}
			n := min(len(r.In), len(q.Rest))
			answer = r.In[:n] == q.Rest[:n] && ask(asked{r.To, q.Rest[n:]})
		}
		known[q] = answer
		return answer
	}
	return ask(asked{mode, rest})
}

// bestIs checks a result of Best.
func bestIs(t *testing.T, s api.Scheme, in string, k int, want []api.Result, err api.Errno) {
	t.Helper()
	if l, e := output.Best(s, in, k); !slices.Equal(l, want) || e != err {
		t.Fatalf("Best(%+v, %q, %d) = %v, %v; it should be %v, %v", s, in, k, l, e, want, err)
	}
}

// costIs checks a result of Cost.
func costIs(t *testing.T, s api.Scheme, in, out string, want int) {
	t.Helper()
	if cost := output.Cost(s, in, out); cost != want {
		t.Fatalf("Cost(%+v, %q, %q) = %d; it should be %d", s, in, out, cost, want)
	}
}

// goesIs checks a result of Goes.
func goesIs(t *testing.T, s api.Scheme, in string, want bool) {
	t.Helper()
	if output.Goes(s, in) != want {
		t.Fatalf("Goes(%+v, %q) is %v", s, in, !want)
	}
}

// agrees checks the results of Best for several k, and of Cost for some outputs and for texts that are nearly outputs.
func agrees(t *testing.T, s api.Scheme, in string, w truth) {
	t.Helper()
	for _, k := range []int{1, 2, 3, 7, 49, 50} {
		want, err := w.best(k)
		bestIs(t, s, in, k, want, err)
	}
	outs := slices.Sorted(maps.Keys(w.Least))
	texts := []string{"", "A", in}
	for i := 0; i < len(outs); i += 1 + len(outs)/8 {
		out := outs[i]
		texts = append(texts, out, out+"A", "b"+out, strings.ToUpper(out), out[:len(out)/2], out[len(out)/2:])
	}
	for _, text := range texts {
		costIs(t, s, in, text, w.cost(text))
	}
}

// found makes a list of results from texts and costs.
func found(pairs ...any) []api.Result {
	var l []api.Result
	for i := 0; i < len(pairs); i += 2 {
		l = append(l, api.Result{Text: pairs[i].(string), Cost: pairs[i+1].(int)})
	}
	return l
}

// soundScheme parses the text of a scheme, whose newlines may be commas, and checks that it is sound.
func soundScheme(t *testing.T, text string) api.Scheme {
	t.Helper()
	s, _, err := scheme.Parse(strings.ReplaceAll(text, ",", "\n") + "\n")
	if err != api.OK || flaw.Sound(s) != api.OK {
		t.Fatalf("%q: %v, %v", text, err, flaw.Sound(s))
	}
	return s
}

// shape says how random schemes look: so many modes, at most so many rules, one rule in so many takes nothing, and the texts that rules take and put out.
type shape struct {
	Modes, Most, OneIn int
	Ins, Outs          []string
	Costs              []int
}

func pick[T any](r *rand.Rand, l []T) T { return l[r.Intn(len(l))] }

// anyShape has two letters, and short outputs, so that many routes take the same input or put out the same text.
func anyShape(r *rand.Rand, modes int) shape {
	ins := []string{"a", "a", "a", "b", "b", "b", "aa", "ab", "ba", "bb", "aba", "baa", "abab", "aabb"}
	return shape{
		Modes: modes, Most: []int{3, 6, 2 * modes, 3 * modes}[r.Intn(4)], OneIn: 2 + r.Intn(4), Ins: ins[:3+r.Intn(len(ins)-2)],
		Outs:  pick(r, [][]string{{"", "A", "a"}, {"", "A", "AA", "AAA"}, {"", "b", "B", "0", "Ab", "9b", "zZ01"}}),
		Costs: pick(r, [][]int{{0}, {1}, {0, 1}, {1, 2, 3}, {0, 1, 2, 3, 5, 8}, {0, 1, 999, 1000}}),
	}
}

// random returns a sound scheme. Rules that take nothing lead to modes that come later in a random order, and half of the other ones to the mode that comes next.
func (h shape) random(r *rand.Rand) api.Scheme {
	for {
		order := r.Perm(h.Modes)
		s := api.Scheme{Modes: h.Modes, Accept: uint8(1 + r.Intn(1<<h.Modes-1))}
		for range 1 + r.Intn(h.Most) {
			next := api.Rule{From: r.Intn(h.Modes), To: r.Intn(h.Modes), In: pick(r, h.Ins), Out: pick(r, h.Outs), Cost: pick(r, h.Costs)}
			if r.Intn(2) == 0 {
				next.To = (next.From + 1) % h.Modes
			}
			if r.Intn(h.OneIn) == 0 && order[next.From] < order[next.To] {
				next.In = ""
			}
			if !slices.Contains(s.Rules, next) {
				s.Rules = append(s.Rules, next)
			}
		}
		if flaw.Sound(s) == api.OK {
			return s
		}
	}
}

// randomInput returns what a random route takes at its beginning, or now and then any letters.
func randomInput(r *rand.Rand, s api.Scheme, most int) string {
	n := r.Intn(most + 1)
	if r.Intn(5) == 0 {
		b := make([]byte, n)
		for i := range b {
			b[i] = "abc"[r.Intn(3)]
		}
		return string(b)
	}
	in := route.Run(s, randomRoute(r, s, n)).In
	return in[:min(len(in), most)]
}

// randomRoute returns a route with so many rules, or fewer if no rule leads on.
func randomRoute(r *rand.Rand, s api.Scheme, n int) []int {
	var l []int
	for mode := 0; len(l) < n; {
		var next []int
		for i, rule := range s.Rules {
			if rule.From == mode {
				next = append(next, i)
			}
		}
		if next == nil {
			break
		}
		i := pick(r, next)
		l, mode = append(l, i), s.Rules[i].To
	}
	return l
}

// wholeRoute returns a random route that was ended.
func wholeRoute(t *testing.T, r *rand.Rand, s api.Scheme, n int) api.Run {
	t.Helper()
	l := randomRoute(r, s, n)
	end, _, err := route.Least(s, route.Run(s, l).Mode)
	if err != api.OK {
		t.Fatalf("no end after %v of %+v", l, s)
	}
	return route.Run(s, slices.Concat(l, end))
}
