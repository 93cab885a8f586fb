package route_test

import (
	"math/rand"
	"slices"
	"testing"

	"syllabary/api"
	"syllabary/route"
)

func TestModesWithoutRules(t *testing.T) { // P3.1, P3.3
	for modes := 1; modes <= 8; modes++ {
		for mask := 1; mask < 1<<modes; mask++ {
			s := api.Scheme{Modes: modes, Accept: uint8(mask)}
			reached, live := make([]bool, modes), make([]bool, modes)
			reached[0] = true
			for m := range modes {
				live[m] = accepts(s, m)
			}
			moded(t, s, reached, live)
			trimmed(t, s, nil)
		}
	}
}

func TestModesThatNoRouteReaches(t *testing.T) { // P3.1, P3.3, P3.4
	s := parsedScheme(t, "scheme 5 5\nrule 3 4 a - 0\nrule 4 3 a - 0\nrule 0 1 a - 0\nrule 3 1 a - 0\nrule 1 2 b - 0\nrule 4 0 c - 0\n")
	moded(t, s, []bool{true, true, true, false, false}, []bool{true, true, true, true, true})
	trimmed(t, s, []int{2, 4})
}

func TestModesWithoutEnds(t *testing.T) { // P3.1, P3.3, P3.4
	s := parsedScheme(t, "scheme 5 4\nrule 3 4 a - 0\nrule 4 3 a - 0\nrule 0 1 a - 0\nrule 1 3 a - 0\nrule 1 2 b - 0\nrule 2 4 - - 0\nrule 2 2 - x 0\n")
	moded(t, s, []bool{true, true, true, true, true}, []bool{true, true, true, false, false})
	trimmed(t, s, []int{2, 4, 6})
}

func TestNothingIsLive(t *testing.T) { // P3.3, P3.4: the accepting mode cannot be reached, and rules lead away from it only
	s := parsedScheme(t, "scheme 3 4\nrule 0 1 a - 0\nrule 1 0 a - 0\nrule 2 0 a - 0\nrule 1 1 a A 0\n")
	moded(t, s, []bool{true, true, false}, []bool{false, false, true})
	trimmed(t, s, nil)
}

// chainScheme has rules from each mode to the next one, and accepts the last one.
func chainScheme(modes, cost int) api.Scheme {
	s := api.Scheme{Modes: modes, Accept: 1 << (modes - 1)}
	for m := range modes - 1 {
		s.Rules = append(s.Rules, api.Rule{From: m, To: m + 1, In: "a", Cost: cost})
	}
	return s
}

func TestChains(t *testing.T) { // P3.3, P3.4: with rules in both orders, and with each rule missing
	for modes := 1; modes <= 8; modes++ {
		s := chainScheme(modes, 0)
		all := slices.Repeat([]bool{true}, modes)
		var indices []int
		for i := range s.Rules {
			indices = append(indices, i)
		}
		moded(t, s, all, all)
		trimmed(t, s, indices)
		slices.Reverse(s.Rules)
		moded(t, s, all, all)
		trimmed(t, s, indices)
		slices.Reverse(s.Rules)
		for missing := range s.Rules {
			less := s
			less.Rules = slices.Delete(slices.Clone(s.Rules), missing, missing+1)
			reached, live := make([]bool, modes), make([]bool, modes)
			for m := range modes {
				reached[m], live[m] = m <= missing, m > missing
			}
			moded(t, less, reached, live)
			trimmed(t, less, nil)
		}
	}
}

func TestRandomModes(t *testing.T) { // P3.1, P3.3
	r := rand.New(rand.NewSource(11))
	for range 10000 {
		s := randomScheme(r, 8, 12)
		moded(t, s, oracleReached(s), oracleLive(s))
	}
	for range 500 {
		s := randomScheme(r, 8, 64)
		moded(t, s, oracleReached(s), oracleLive(s))
	}
}

func TestModesAgainstRules(t *testing.T) { // P3.3
	r := rand.New(rand.NewSource(12))
	for range 3000 {
		s := randomScheme(r, 8, 14)
		reached, live := route.Reached(s), route.Live(s)
		if !reached[0] {
			t.Fatalf("the mode 0 of %+v is not reached", s)
		}
		for m := range s.Modes {
			ledTo, goesOn := m == 0, accepts(s, m)
			for _, rule := range s.Rules {
				ledTo = ledTo || rule.To == m && reached[rule.From]
				goesOn = goesOn || rule.From == m && live[rule.To]
			}
			if reached[m] != ledTo || live[m] != goesOn {
				t.Fatalf("mode %d of %+v: reached %v, live %v, against its rules", m, s, reached[m], live[m])
			}
		}
	}
}

func TestModesAgainstRoutes(t *testing.T) { // P3.3: by all routes that come to no more modes than there are
	r := rand.New(rand.NewSource(13))
	for range 1500 {
		s := randomScheme(r, 5, 7)
		reached, live := make([]bool, s.Modes), make([]bool, s.Modes)
		for m := range s.Modes {
			lists(s, m, s.Modes-1, func(_ []int, to int) {
				reached[to] = reached[to] || m == 0
				live[m] = live[m] || accepts(s, to)
			})
		}
		moded(t, s, reached, live)
	}
}

func TestReachedAgainstRun(t *testing.T) { // P3.3: what a route leads to is reached
	r := rand.New(rand.NewSource(14))
	for range 1000 {
		s := randomScheme(r, 8, 30)
		reached := route.Reached(s)
		l := randomRoute(r, s, 20)
		for i := range len(l) + 1 {
			if mode := route.Run(s, l[:i]).Mode; !reached[mode] {
				t.Fatalf("%v leads to mode %d of %+v, which is not reached", l[:i], mode, s)
			}
		}
	}
}

func TestTrimmedRules(t *testing.T) { // P3.1, P3.4
	r := rand.New(rand.NewSource(15))
	some := 0
	for range 10000 {
		s := randomScheme(r, 8, choose(r, 6, 12, 64))
		reached, live := route.Reached(s), route.Live(s)
		var indices []int
		for i, rule := range s.Rules {
			if reached[rule.From] && live[rule.To] {
				indices = append(indices, i)
			}
		}
		trimmed(t, s, indices)
		if 0 < len(indices) && len(indices) < len(s.Rules) {
			some++
		}
	}
	if some < 1000 {
		t.Fatalf("only %d schemes were trimmed in part", some)
	}
}

func TestTrimAgainstWholeRoutes(t *testing.T) { // P3.4: a whole route that uses a rule needs to come to each mode twice at most
	r := rand.New(rand.NewSource(16))
	for range 1500 {
		s := randomScheme(r, 4, 5)
		trimmed(t, s, usedRules(s, 2*s.Modes))
	}
}

func TestWholeRoutesOfTrimmed(t *testing.T) { // P3.4: they are those of the scheme, and so are their results
	r := rand.New(rand.NewSource(17))
	for range 1000 {
		s := randomScheme(r, 4, 5)
		kept, indices := route.Trim(s)
		var before, after [][]int
		lists(s, 0, 5, func(l []int, to int) {
			if accepts(s, to) {
				before = append(before, l)
			}
		})
		lists(kept, 0, 5, func(l []int, to int) {
			if !accepts(kept, to) {
				return
			}
			old := make([]int, len(l))
			for i := range l {
				old[i] = indices[l[i]]
			}
			after = append(after, old)
			ran(t, kept, l, route.Run(s, old))
		})
		if !slices.EqualFunc(before, after, same) {
			t.Fatalf("whole routes of %+v: %v; trimmed: %v", s, before, after)
		}
	}
}

func TestTrimmedAgain(t *testing.T) { // P3.4
	r := rand.New(rand.NewSource(18))
	for range 5000 {
		s := randomScheme(r, 8, choose(r, 8, 20, 64))
		kept, _ := route.Trim(s)
		all := make([]int, len(kept.Rules))
		for i := range all {
			all[i] = i
		}
		trimmed(t, kept, all)
	}
}

func TestLargestScheme(t *testing.T) { // P3.1: rules between all modes
	s := api.Scheme{Modes: 8, Accept: 128}
	var indices []int
	for from := range 8 {
		for to := range 8 {
			indices = append(indices, len(s.Rules))
			s.Rules = append(s.Rules, api.Rule{From: from, To: to, In: "abcd", Out: "WXYZ", Cost: 1000})
		}
	}
	all := slices.Repeat([]bool{true}, 8)
	moded(t, s, all, all)
	trimmed(t, s, indices)
	for m := range 7 {
		ended(t, s, m, []int{8*m + 7}, 1000, api.OK)
	}
	ended(t, s, 7, nil, 0, api.OK)
}
