package flaw_test

import (
	"math/rand"
	"reflect"
	"slices"
	"testing"

	"syllabary/api"
	"syllabary/flaw"
	"syllabary/route"
)

func TestExamples(t *testing.T) { // P4.1: the rows of the examples
	reported(t, rules(2, 1, rule(0, 0, "a"), rule(0, 1, "b")), api.Report{Dead: []int{1}, Stuck: []int{1}}, api.ErrStuck)
	reported(t, rules(2, 1, rule(0, 1, "a"), rule(1, 0, ""), rule(1, 1, "")), api.Report{Endless: []int{2}}, api.ErrEndless)
	reported(t, rules(2, 1, rule(0, 0, "a"), rule(1, 0, "b")), api.Report{Dead: []int{1}}, api.OK)
}

func TestExampleOfTheWhole(t *testing.T) { // DOC.md, example 1: a mode from which no rule leads to an accepting one
	s := rules(4, 2, rule(0, 1, "a"), rule(1, 2, "b"), rule(0, 2, "c"), rule(2, 3, "d"), rule(3, 2, "e"))
	reported(t, s, api.Report{Dead: []int{1, 2, 3, 4}, Stuck: []int{2}}, api.ErrStuck)
}

func TestNoRules(t *testing.T) { // P4.1: with all masks
	for modes := 1; modes <= 8; modes++ {
		for accept := 1; accept < 1<<modes; accept++ {
			want := api.OK
			if accept%2 == 0 {
				want = api.ErrNone
			}
			reported(t, rules(modes, uint8(accept)), api.Report{}, want)
		}
	}
}

func TestWrongSchemes(t *testing.T) { // P4.1, P1: for each reason for which a scheme is not valid
	for _, s := range wrongSchemes() {
		if r := flaw.Find(s); !reflect.DeepEqual(r, api.Report{}) {
			t.Errorf("Find(%+v) = %+v", s, r)
		}
		if err := flaw.Sound(s); err != api.ErrScheme {
			t.Errorf("Sound(%+v) = %v", s, err)
		}
		for _, r := range []api.Report{{}, {Dead: []int{1}}, {Dead: []int{1, 2}}, {Stuck: []int{1}}, {Endless: []int{0}}, {Dead: []int{}}, {Dead: []int{-1, 65}, Stuck: []int{64}, Endless: []int{1 << 40}}} {
			proved(t, s, r, false)
		}
	}
}

// fromEach has, for each number of modes, how many rules may leave a mode so that all short chains can be gone through.
var fromEach = [...]int{1: 64, 2: 20, 3: 8, 4: 5, 5: 3, 6: 3, 7: 2, 8: 2}

func TestFindAgainstAllChains(t *testing.T) { // P4.1, P4.2, P4.4: a search through all short chains, for one to eight modes
	r := rand.New(rand.NewSource(1))
	stuck, endless := map[int]int{}, map[int]int{}
	for modes := 1; modes <= 8; modes++ {
		for range 500 {
			s := randomScheme(r, modes, fromEach[modes], []int{modes, 2 * modes, 30}[r.Intn(3)], 1+r.Intn(3))
			w := searched(s)
			agrees(t, s, w)
			stuck[len(w.Report.Stuck)]++
			endless[len(w.Report.Endless)]++
		}
	}
	for n := 1; n <= 3; n++ {
		if stuck[n] < 20 || endless[n] < 20 {
			t.Fatalf("too few reports with chains of %d rules: Stuck %v, Endless %v", n, stuck, endless)
		}
	}
}

func TestFindForAllSmallSchemes(t *testing.T) { // P4.1, P4.4: all lists of up to four rules in two modes
	var all []api.Rule
	for from := range 2 {
		for to := range 2 {
			all = append(all, rule(from, to, ""), rule(from, to, "a"))
		}
	}
	var grow func(s api.Scheme)
	grow = func(s api.Scheme) {
		agrees(t, s, searched(s))
		if len(s.Rules) == 4 {
			return
		}
		for _, next := range all {
			if !slices.Contains(s.Rules, next) {
				more := s
				more.Rules = append(slices.Clone(s.Rules), next)
				grow(more)
			}
		}
	}
	for accept := 1; accept <= 3; accept++ {
		grow(api.Scheme{Modes: 2, Accept: uint8(accept)})
	}
}

func TestFindAgainstTables(t *testing.T) { // P4.1, P4.2, P4.4: with up to 64 rules
	r := rand.New(rand.NewSource(2))
	answers := map[api.Errno]int{}
	for range 4000 {
		s := anyScheme(r)
		w := tabled(s)
		agrees(t, s, w)
		answers[w.sound()]++
	}
	for _, err := range []api.Errno{api.OK, api.ErrNone, api.ErrStuck, api.ErrEndless} {
		if answers[err] < 100 {
			t.Fatalf("too few schemes of a kind: %v", answers)
		}
	}
}

func TestDead(t *testing.T) { // P4.1: rules from modes that are not reached, rules to modes that are not live, and both, in increasing order
	s := rules(6, 5,
		rule(3, 3, "a"), rule(0, 1, "a"), rule(3, 0, "a"), rule(1, 2, "a"), rule(2, 4, "a"), rule(4, 5, "a"), rule(3, 4, ""),
		rule(0, 2, ""), rule(5, 4, "a"), rule(2, 2, "a"), rule(4, 4, "a"), rule(2, 0, "b"), rule(3, 1, "z"))
	reported(t, s, api.Report{Dead: []int{0, 2, 4, 5, 6, 8, 10, 12}, Stuck: []int{7, 4}}, api.ErrStuck)
}

func TestDeadAgainstWholeRoutes(t *testing.T) { // P4.3: a whole route that has a rule needs to come to each mode twice at most
	r := rand.New(rand.NewSource(3))
	for range 1000 {
		s := randomScheme(r, 1+r.Intn(4), 3, 6, 4)
		used := make([]bool, len(s.Rules))
		for _, c := range allChains(s, 2*s.Modes-1) {
			if run := route.Run(s, c.Rules); c.From != 0 || !run.Ok || !accepting(s, run.Mode) {
				continue
			}
			for _, i := range c.Rules {
				used[i] = true
			}
		}
		dead := flaw.Find(s).Dead
		for i := range s.Rules {
			if slices.Contains(dead, i) == used[i] {
				t.Fatalf("Find(%+v) has the dead rules %v; in whole routes: %v", s, dead, used)
			}
		}
		if !slices.IsSorted(dead) {
			t.Fatalf("Find(%+v) has the dead rules %v, which do not increase", s, dead)
		}
	}
}

func TestDeadAgainstTrim(t *testing.T) { // P4.3: layer 3 keeps the others
	r := rand.New(rand.NewSource(4))
	some := 0
	for range 3000 {
		s := anyScheme(r)
		dead := flaw.Find(s).Dead
		_, kept := route.Trim(s)
		all := slices.Concat(dead, kept)
		slices.Sort(all)
		for i := range max(len(all), len(s.Rules)) {
			if len(all) != len(s.Rules) || all[i] != i {
				t.Fatalf("Find(%+v) has the dead rules %v; Trim keeps %v", s, dead, kept)
			}
		}
		if len(dead) > 0 && len(kept) > 0 {
			some++
		}
	}
	if some < 200 {
		t.Fatalf("only %d schemes have both kinds of rules", some)
	}
}

func TestLargestSchemes(t *testing.T) { // P4.1: rules between all modes, in both orders
	var list []api.Rule
	var all []int
	for i := range 64 {
		list = append(list, rule(i/8, i%8, ""))
		all = append(all, i)
	}
	for accept := 1; accept < 256; accept++ {
		reported(t, rules(8, uint8(accept), list...), api.Report{Endless: []int{0}}, api.ErrEndless)
	}
	for i := range list {
		list[i].In = "abcd"
	}
	reported(t, rules(8, 128, list...), api.Report{}, api.OK)
	slices.Reverse(list)
	reported(t, rules(8, 128, list...), api.Report{}, api.OK)
	for i := range list {
		list[i] = rule(i%7, i/7%7, "abcd")
	}
	reported(t, rules(8, 128, list...), api.Report{Dead: all}, api.ErrNone)
}

func TestArgumentsRemain(t *testing.T) { // P4.1, D4, P2: also what stands behind the ends of lists
	r := rand.New(rand.NewSource(5))
	for range 1000 {
		s := anyScheme(r)
		behind := append(slices.Clone(s.Rules), rule(7, 7, "kept"))
		s.Rules = behind[:len(s.Rules)]
		before := slices.Clone(behind)
		report := flaw.Find(s)
		given := api.Report{Dead: append(report.Dead, 70)[:len(report.Dead)], Stuck: append(report.Stuck, 71)[:len(report.Stuck)], Endless: append(report.Endless, 72)[:len(report.Endless)]}
		copied := cloned(given)
		if !flaw.Proves(s, given) || flaw.Sound(s) != flaw.Sound(s) || !sameReport(flaw.Find(s), report) {
			t.Fatalf("another call has another result for %+v", s)
		}
		if !slices.Equal(behind, before) || !sameReport(given, copied) || given.Dead[:len(copied.Dead)+1][len(copied.Dead)] != 70 {
			t.Fatalf("modified: %+v, %+v", s, given)
		}
	}
}

func TestResultsAreApart(t *testing.T) { // P2: no two lists of reports share memory
	s := rules(3, 3, rule(0, 1, ""), rule(1, 0, ""), rule(1, 2, "a"), rule(2, 2, "a"))
	want := api.Report{Dead: []int{2, 3}, Stuck: []int{0, 2}, Endless: []int{0, 1}}
	for _, spoil := range []func(r api.Report) []int{
		func(r api.Report) []int { return r.Dead },
		func(r api.Report) []int { return r.Stuck },
		func(r api.Report) []int { return r.Endless },
	} {
		first, second := flaw.Find(s), flaw.Find(s)
		l := spoil(first)
		full := l[:cap(l)]
		for i := range full {
			full[i] = 99
		}
		kept := 0
		for _, other := range [][2][]int{{first.Dead, want.Dead}, {first.Stuck, want.Stuck}, {first.Endless, want.Endless}} {
			if slices.Equal(other[0], other[1]) {
				kept++
			}
		}
		if kept != 2 || !sameReport(second, want) || !sameReport(flaw.Find(s), want) {
			t.Fatalf("after a list was changed: %+v, %+v", first, second)
		}
	}
}
