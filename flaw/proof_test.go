package flaw_test

import (
	"math"
	"math/rand"
	"slices"
	"testing"

	"syllabary/api"
	"syllabary/flaw"
)

// flawed has all kinds of flaws: rules 3 to 6 are dead, rule 2 leads on to modes that are not live, and rules 0 and 1 lead round for nothing.
func flawed() api.Scheme {
	return rules(5, 1, rule(0, 1, ""), rule(1, 0, ""), rule(1, 1, "k"), rule(1, 2, "b"), rule(2, 3, ""), rule(3, 2, ""), rule(4, 0, "z"))
}

func TestProvesTheReport(t *testing.T) { // P4.1, P4.2: the report, and each part of it
	s := flawed()
	r := flaw.Find(s)
	if want := (api.Report{Dead: []int{3, 4, 5, 6}, Stuck: []int{0, 3}, Endless: []int{0, 1}}); !sameReport(r, want) {
		t.Fatalf("Find(%+v) = %+v", s, r)
	}
	for mask := range 8 {
		part := api.Report{}
		if mask&1 != 0 {
			part.Dead = r.Dead
		}
		if mask&2 != 0 {
			part.Stuck = r.Stuck
		}
		if mask&4 != 0 {
			part.Endless = r.Endless
		}
		proved(t, s, part, true)
	}
	for mask := range 16 {
		part := api.Report{Dead: []int{}, Stuck: []int{}, Endless: []int{}}
		for i, dead := range r.Dead {
			if mask>>i&1 != 0 {
				part.Dead = append(part.Dead, dead)
			}
		}
		proved(t, s, part, true)
	}
}

func TestProvesDead(t *testing.T) { // P4.1
	s := flawed()
	for i := range s.Rules {
		proved(t, s, api.Report{Dead: []int{i}}, i >= 3)
	}
	for _, l := range [][]int{{4, 3}, {3, 3}, {3, 4, 4}, {3, 5, 4}, {2, 3}, {3, 4, 5, 6, 7}, {-1, 3}, {-1}, {7}, {3, 4, 64}, {math.MinInt}, {3, math.MaxInt}, {1 << 32}, {3 + 1<<32}} {
		proved(t, s, api.Report{Dead: l}, false)
	}
}

func TestProvesOtherChains(t *testing.T) { // P4.1: chains that are not the first ones
	s := flawed()
	for _, l := range [][]int{{0, 3}, {0, 2, 3}, {0, 1, 0, 3}, {0, 3, 4}, {0, 2, 2, 1, 0, 3, 4, 5, 4}} {
		proved(t, s, api.Report{Stuck: l}, true)
	}
	for _, l := range [][]int{{0, 1}, {1, 0}, {0, 1, 0, 1}, {1, 0, 1, 0, 1, 0}} {
		proved(t, s, api.Report{Endless: l}, true)
	}
}

func TestRefusesStuck(t *testing.T) { // P4.1: chains that do not fit, or lead to live modes, and numbers that are no indices
	s := flawed()
	for _, l := range [][]int{{0}, {0, 1}, {0, 2}, {3}, {1, 0, 3}, {0, 0, 3}, {0, 3, 3}, {0, 4}, {4}, {6}, {0, 3, 5}, {3, 0}, {7}, {0, 7}, {0, 3, 7}, {-1}, {0, 3, -1}, {-1, 0, 3}, {math.MaxInt}, {0, math.MinInt, 3}, {1 << 32, 3}} {
		proved(t, s, api.Report{Stuck: l}, false)
	}
}

func TestRefusesEndless(t *testing.T) { // P4.1: chains that do not fit or lead round, that take letters, and numbers that are no indices
	s := flawed()
	for _, l := range [][]int{{0}, {1}, {2}, {0, 2, 1}, {0, 1, 0}, {0, 0}, {1, 1}, {0, 3}, {7}, {-1}, {0, 7}, {0, -1}, {0, 1, 7}, {7, 0, 1}, {-1, 0, 1}, {math.MaxInt, 0}, {0, math.MinInt}, {1 << 32, 1}} {
		proved(t, s, api.Report{Endless: l}, false)
	}
	for _, l := range [][]int{{4, 5}, {5, 4}, {3, 4, 5}} { // they lead round, but there is no end from them
		proved(t, s, api.Report{Endless: l}, false)
	}
	unreached := rules(3, 7, rule(0, 0, "a"), rule(1, 1, ""), rule(2, 1, ""), rule(1, 2, ""))
	for _, l := range [][]int{{1}, {2, 3}, {3, 2}} {
		proved(t, unreached, api.Report{Endless: l}, false)
	}
}

func TestRefusesAllIfOnePartIsWrong(t *testing.T) { // P4.1
	s := flawed()
	right := flaw.Find(s)
	for _, spoil := range []func(r *api.Report){
		func(r *api.Report) { r.Dead = []int{2} },
		func(r *api.Report) { r.Stuck = []int{0} },
		func(r *api.Report) { r.Endless = []int{2} },
	} {
		r := cloned(right)
		spoil(&r)
		proved(t, s, r, false)
	}
	sound := rules(1, 1, rule(0, 0, "a"))
	proved(t, sound, api.Report{}, true)
	for _, r := range []api.Report{{Dead: []int{0}}, {Stuck: []int{0}}, {Endless: []int{0}}} {
		proved(t, sound, r, false)
	}
}

func TestRefusesStuckWithoutLiveStart(t *testing.T) { // P4.1: the mode 0 must be live
	s := rules(3, 4, rule(0, 1, "a"), rule(1, 0, ""), rule(0, 0, ""))
	proved(t, s, api.Report{Dead: []int{0, 1, 2}}, true)
	for _, l := range [][]int{{0}, {2}, {0, 1}} {
		proved(t, s, api.Report{Stuck: l}, false)
	}
	proved(t, s, api.Report{Endless: []int{2}}, false)
	s.Rules = append(s.Rules, rule(0, 2, "b"))
	proved(t, s, api.Report{Dead: []int{0}}, false)
	s.Rules = append(s.Rules, rule(1, 1, "c"))
	proved(t, s, api.Report{Endless: []int{2}}, true)
}

func TestNothingFitsWithoutRules(t *testing.T) { // P4.1, P1
	s := rules(2, 1)
	proved(t, s, api.Report{}, true)
	for _, i := range []int{math.MinInt, -1, 0, 1, 64, math.MaxInt} {
		for _, r := range []api.Report{{Dead: []int{i}}, {Stuck: []int{i}}, {Endless: []int{i}}} {
			proved(t, s, r, false)
		}
	}
}

func TestProvesLongLists(t *testing.T) { // P4.1, P1: any report is accepted as an argument
	s := flawed()
	long := slices.Repeat([]int{0, 1}, 1<<16)
	proved(t, s, api.Report{Endless: long}, true)
	proved(t, s, api.Report{Endless: long[1:]}, false)
	proved(t, s, api.Report{Stuck: slices.Concat(long, []int{0, 3})}, true)
	proved(t, s, api.Report{Stuck: slices.Concat(long, []int{3})}, false)
	proved(t, s, api.Report{Dead: long}, false)
}

// changes yields reports in which one number of a list is changed, added, or taken away.
func changes(l []int, numbers []int, yield func(l []int)) {
	for at := range len(l) + 1 {
		for _, n := range numbers {
			yield(slices.Insert(slices.Clone(l), at, n))
		}
		if at == len(l) {
			return
		}
		yield(slices.Delete(slices.Clone(l), at, at+1))
		for _, n := range numbers {
			changed := slices.Clone(l)
			changed[at] = n
			yield(changed)
		}
	}
}

func TestProvesChangedReports(t *testing.T) { // P4.1, P4.2: one number is changed, added or taken away
	r := rand.New(rand.NewSource(8))
	refused, accepted := 0, 0
	for range 1500 {
		modes := 1 + r.Intn(8)
		s := randomScheme(r, modes, fromEach[modes], 2*modes, 2)
		w := searched(s)
		numbers := []int{math.MinInt, -1, 1<<32 + r.Intn(64), math.MaxInt}
		for i := range len(s.Rules) + 1 {
			numbers = append(numbers, i)
		}
		check := func(changed api.Report) {
			want := w.right(s, changed)
			proved(t, s, changed, want)
			if want {
				accepted++
			} else {
				refused++
			}
		}
		found := flaw.Find(s)
		changes(found.Dead, numbers, func(l []int) { check(api.Report{Dead: l, Stuck: found.Stuck, Endless: found.Endless}) })
		changes(found.Stuck, numbers, func(l []int) { check(api.Report{Dead: found.Dead, Stuck: l, Endless: found.Endless}) })
		changes(found.Endless, numbers, func(l []int) { check(api.Report{Dead: found.Dead, Stuck: found.Stuck, Endless: l}) })
	}
	if refused < 10000 || accepted < 3000 {
		t.Fatalf("%d reports were refused, %d accepted", refused, accepted)
	}
}

func TestProvesAllShortLists(t *testing.T) { // P4.1: all lists of up to three numbers, wrong ones among them
	r := rand.New(rand.NewSource(9))
	for range 100 {
		s := randomScheme(r, 1+r.Intn(4), 2, 6, 2)
		w := searched(s)
		var grow func(l []int)
		grow = func(l []int) {
			for _, report := range []api.Report{{Dead: l}, {Stuck: l}, {Endless: l}} {
				proved(t, s, report, w.right(s, report))
			}
			if len(l) == 3 {
				return
			}
			for i := -1; i <= len(s.Rules); i++ {
				grow(append(slices.Clone(l), i))
			}
		}
		grow(nil)
	}
}

func TestProvesSpoiltSchemes(t *testing.T) { // P4.1: a right report, and a scheme that is not valid
	s := flawed()
	r := flaw.Find(s)
	proved(t, s, r, true)
	s.Rules = append(slices.Clone(s.Rules), s.Rules[0])
	proved(t, s, r, false)
	proved(t, s, api.Report{}, false)
}
