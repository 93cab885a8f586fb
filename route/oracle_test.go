package route_test

import (
	"math/rand"
	"reflect"
	"slices"
	"strings"
	"testing"

	"syllabary/api"
	"syllabary/route"
	"syllabary/scheme"
)

// The functions here say again, in other ways than the package does, what routes, modes and ends are.

func accepts(s api.Scheme, mode int) bool {
	power := []int{1, 2, 4, 8, 16, 32, 64, 128}[mode]
	return int(s.Accept)/power%2 == 1
}

// oracleRun compares neighbours, and joins the texts of all rules.
func oracleRun(s api.Scheme, l []int) api.Run {
	var rules []api.Rule
	for _, i := range l {
		if i < 0 || i > len(s.Rules)-1 {
			return api.Run{}
		}
		rules = append(rules, s.Rules[i])
	}
	var in, out []string
	cost := 0
	for i, r := range rules {
		if i == 0 && r.From != 0 || i > 0 && r.From != rules[i-1].To {
			return api.Run{}
		}
		in, out, cost = append(in, r.In), append(out, r.Out), cost+r.Cost
	}
	run := api.Run{In: strings.Join(in, ""), Out: strings.Join(out, ""), Cost: cost, Ok: true}
	if len(rules) > 0 {
		run.Mode = rules[len(rules)-1].To
	}
	return run
}

// oracleLeads returns a table of which mode can be come to from which one, by Warshall's algorithm.
func oracleLeads(s api.Scheme) [8][8]bool {
	var leads [8][8]bool
	for m := range 8 {
		leads[m][m] = true
	}
	for _, r := range s.Rules {
		leads[r.From][r.To] = true
	}
	for via := range 8 {
		for a := range 8 {
			for b := range 8 {
				leads[a][b] = leads[a][b] || leads[a][via] && leads[via][b]
			}
		}
	}
	return leads
}

func oracleReached(s api.Scheme) []bool {
	leads := oracleLeads(s)
	return leads[0][:s.Modes]
}

func oracleLive(s api.Scheme) []bool {
	leads := oracleLeads(s)
	live := make([]bool, s.Modes)
	for a := range s.Modes {
		for b := range s.Modes {
			live[a] = live[a] || leads[a][b] && accepts(s, b)
		}
	}
	return live
}

// oracleEnd is an end, if Is is true.
type oracleEnd struct {
	Is    bool
	Rules []int
	Cost  int
}

// earlier reports whether a comes before b.
func earlier(a, b oracleEnd) bool {
	key := func(e oracleEnd) []int { return append([]int{e.Cost, len(e.Rules)}, e.Rules...) }
	return slices.Compare(key(a), key(b)) < 0
}

// oracleEnds returns the first end from each mode: it finds, for each number of rules, the first end with exactly so many, and takes the first one of those.
func oracleEnds(s api.Scheme) []oracleEnd {
	exactly := make([]oracleEnd, s.Modes)
	for m := range exactly {
		exactly[m].Is = accepts(s, m)
	}
	first := slices.Clone(exactly)
	for range 10 {
		longer := make([]oracleEnd, s.Modes)
		for i, r := range s.Rules {
			rest := exactly[r.To]
			e := oracleEnd{rest.Is, slices.Concat([]int{i}, rest.Rules), r.Cost + rest.Cost}
			if e.Is && (!longer[r.From].Is || earlier(e, longer[r.From])) {
				longer[r.From] = e
			}
		}
		exactly = longer
		for m, e := range exactly {
			if e.Is && (!first[m].Is || earlier(e, first[m])) {
				first[m] = e
			}
		}
	}
	return first
}

// lists yields all lists of rules that fit together, begin in the mode and have at most so many rules, with the mode to which they lead.
func lists(s api.Scheme, mode, most int, yield func(l []int, to int)) {
	var grow func(l []int, to int)
	grow = func(l []int, to int) {
		yield(slices.Clone(l), to)
		if len(l) == most {
			return
		}
		for i, r := range s.Rules {
			if r.From == to {
				grow(append(slices.Clone(l), i), r.To)
			}
		}
	}
	grow(nil, mode)
}

func costOf(s api.Scheme, l []int) int {
	cost := 0
	for _, i := range l {
		cost += s.Rules[i].Cost
	}
	return cost
}

// searchedEnd returns the first one of all ends from the mode that have at most so many rules.
func searchedEnd(s api.Scheme, mode, most int) oracleEnd {
	var first oracleEnd
	lists(s, mode, most, func(l []int, to int) {
		e := oracleEnd{accepts(s, to), l, costOf(s, l)}
		if e.Is && (!first.Is || earlier(e, first)) {
			first = e
		}
	})
	return first
}

// usedRules returns the rules that whole routes with at most so many rules use.
func usedRules(s api.Scheme, most int) []int {
	used := map[int]bool{}
	lists(s, 0, most, func(l []int, to int) {
		if accepts(s, to) {
			for _, i := range l {
				used[i] = true
			}
		}
	})
	var l []int
	for i := range s.Rules {
		if used[i] {
			l = append(l, i)
		}
	}
	return l
}

func withRules(s api.Scheme, indices []int) api.Scheme {
	trimmed := api.Scheme{Modes: s.Modes, Accept: s.Accept}
	for _, i := range indices {
		trimmed.Rules = append(trimmed.Rules, s.Rules[i])
	}
	return trimmed
}

// same takes nil and empty lists for equal.
func same(a, b []int) bool { return slices.Equal(a, b) }

func sameScheme(a, b api.Scheme) bool {
	return a.Modes == b.Modes && a.Accept == b.Accept && slices.Equal(a.Rules, b.Rules)
}

// ran checks a result of Run.
func ran(t *testing.T, s api.Scheme, l []int, want api.Run) {
	t.Helper()
	if run := route.Run(s, l); run != want {
		t.Fatalf("Run(%+v, %v) = %+v; it should be %+v", s, l, run, want)
	}
}

// ended checks a result of Least.
func ended(t *testing.T, s api.Scheme, mode int, rules []int, cost int, err api.Errno) {
	t.Helper()
	l, c, e := route.Least(s, mode)
	if !same(l, rules) || c != cost || e != err {
		t.Fatalf("Least(%+v, %d) = %v, %d, %v; it should be %v, %d, %v", s, mode, l, c, e, rules, cost, err)
	}
}

// endedFirst checks that Least returns the end, or ErrNone if there is none.
func endedFirst(t *testing.T, s api.Scheme, mode int, e oracleEnd) {
	t.Helper()
	if e.Is {
		ended(t, s, mode, e.Rules, e.Cost, api.OK)
	} else {
		ended(t, s, mode, nil, 0, api.ErrNone)
	}
}

// moded checks the results of Reached and Live.
func moded(t *testing.T, s api.Scheme, reached, live []bool) {
	t.Helper()
	if l := route.Reached(s); !slices.Equal(l, reached) {
		t.Fatalf("Reached(%+v) = %v; it should be %v", s, l, reached)
	}
	if l := route.Live(s); !slices.Equal(l, live) {
		t.Fatalf("Live(%+v) = %v; it should be %v", s, l, live)
	}
}

// trimmed checks that Trim keeps exactly the rules with these indices.
func trimmed(t *testing.T, s api.Scheme, indices []int) {
	t.Helper()
	kept, l := route.Trim(s)
	if want := withRules(s, indices); !same(l, indices) || !sameScheme(kept, want) {
		t.Fatalf("Trim(%+v) = %+v, %v; it should be %+v, %v", s, kept, l, want, indices)
	}
}

func choose(r *rand.Rand, l ...int) int { return l[r.Intn(len(l))] }

func randomText(r *rand.Rand, bytes string) string {
	b := make([]byte, r.Intn(5))
	for i := range b {
		b[i] = bytes[r.Intn(len(bytes))]
	}
	return string(b)
}

// randomRule returns a rule whose cost is one of costs, so that ends of equal costs are common if there are few.
func randomRule(r *rand.Rand, modes int, costs []int) api.Rule {
	return api.Rule{From: r.Intn(modes), To: r.Intn(modes), In: randomText(r, "abz"), Out: randomText(r, "aAZ09"), Cost: choose(r, costs...)}
}

// randomScheme returns a valid scheme with at most so many modes and rules, in which few modes are accepting.
func randomScheme(r *rand.Rand, mostModes, mostRules int) api.Scheme {
	modes := 1 + r.Intn(mostModes)
	s := api.Scheme{Modes: modes, Accept: 1 << r.Intn(modes)}
	if r.Intn(3) == 0 {
		s.Accept |= 1 << r.Intn(modes)
	}
	costs := [][]int{{0}, {0, 1}, {1, 2, 3}, {7}, {0, 1, 500, 999, 1000}}[r.Intn(5)]
	for n := r.Intn(mostRules + 1); len(s.Rules) < n; {
		if rule := randomRule(r, modes, costs); !slices.Contains(s.Rules, rule) {
			s.Rules = append(s.Rules, rule)
		}
	}
	return s
}

// randomRoute returns a route that is as long as n, if rules lead on so far.
func randomRoute(r *rand.Rand, s api.Scheme, n int) []int {
	var l []int
	for mode := 0; len(l) < n; {
		var next []int
		for i, rule := range s.Rules {
			if rule.From == mode {
				next = append(next, i)
			}
		}
		if next == nil {
			break
		}
		i := choose(r, next...)
		l, mode = append(l, i), s.Rules[i].To
	}
	return l
}

func parsedScheme(t *testing.T, text string) api.Scheme {
	t.Helper()
	s, _, err := scheme.Parse(text)
	if err != api.OK {
		t.Fatalf("%q is no scheme: %v", text, err)
	}
	return s
}

// unmodified returns a function that checks that s and l are what they were when unmodified was called.
func unmodified(t *testing.T, s api.Scheme, l []int) func() {
	rules, list := slices.Clone(s.Rules), slices.Clone(l)
	return func() {
		t.Helper()
		if !reflect.DeepEqual(s.Rules, rules) || !reflect.DeepEqual(l, list) {
			t.Fatalf("modified: %+v, %v; they were %+v, %v", s.Rules, l, rules, list)
		}
	}
}
