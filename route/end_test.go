package route_test

import (
	"math"
	"math/rand"
	"slices"
	"testing"

	"syllabary/api"
	"syllabary/route"
)

func TestNoSuchMode(t *testing.T) { // P3.1
	r := rand.New(rand.NewSource(21))
	for range 100 {
		s := randomScheme(r, 8, 20)
		for _, mode := range []int{math.MinInt, -8, -1, s.Modes, s.Modes + 1, 8, 64, 256, 1 << 32, math.MaxInt} {
			ended(t, s, mode, nil, 0, api.ErrRoute)
		}
	}
	s := api.Scheme{Modes: 7, Accept: 127}
	ended(t, s, 6, nil, 0, api.OK)
	ended(t, s, 7, nil, 0, api.ErrRoute)
}

func TestNoEnd(t *testing.T) { // P3.1: the mode is there, but not live
	s := parsedScheme(t, "scheme 4 2\nrule 0 2 a - 1\nrule 2 0 a - 1\nrule 2 2 a - 1\nrule 1 0 a - 1\nrule 3 1 - - 4\n")
	ended(t, s, 0, nil, 0, api.ErrNone)
	ended(t, s, 1, nil, 0, api.OK)
	ended(t, s, 2, nil, 0, api.ErrNone)
	ended(t, s, 3, []int{4}, 4, api.OK)
	ended(t, s, 4, nil, 0, api.ErrRoute)
}

func TestAcceptingModes(t *testing.T) { // P3.5: nothing comes before the empty end, not even rules that cost nothing
	for modes := 1; modes <= 8; modes++ {
		s := api.Scheme{Modes: modes, Accept: uint8(1<<modes - 1)}
		for m := range modes {
			s.Rules = append(s.Rules, api.Rule{From: m, To: (m + 1) % modes}, api.Rule{From: m, To: m, In: "a"})
		}
		for m := range modes {
			ended(t, s, m, nil, 0, api.OK)
		}
	}
}

func TestCostComesFirst(t *testing.T) { // P3.5: more rules, and later ones, that cost less
	s := parsedScheme(t, "scheme 4 8\nrule 0 3 a - 10\nrule 0 1 a - 3\nrule 2 3 a - 3\nrule 1 2 a - 3\n")
	ended(t, s, 0, []int{1, 3, 2}, 9, api.OK)
	s.Rules[0].Cost = 9
	ended(t, s, 0, []int{0}, 9, api.OK)
	s.Rules[0].Cost = 8
	ended(t, s, 0, []int{0}, 8, api.OK)
}

func TestThenFewerRules(t *testing.T) { // P3.5: fewer rules that cost as much, though they are later ones
	s := parsedScheme(t, "scheme 3 4\nrule 0 1 a - 2\nrule 1 2 a - 3\nrule 0 2 a - 5\n")
	ended(t, s, 0, []int{2}, 5, api.OK)
	s = parsedScheme(t, "scheme 3 4\nrule 0 1 a - 0\nrule 1 2 a - 0\nrule 0 2 a - 0\n")
	ended(t, s, 0, []int{2}, 0, api.OK)
}

func TestThenTheirOrder(t *testing.T) { // P3.5: lexicographically, by the first rule in which they differ
	s := parsedScheme(t, "scheme 2 2\nrule 0 1 b - 5\nrule 0 1 a - 5\nrule 0 1 - - 5\n")
	ended(t, s, 0, []int{0}, 5, api.OK)
	s = parsedScheme(t, "scheme 4 8\nrule 2 3 a - 1\nrule 0 1 a - 1\nrule 0 2 a - 1\nrule 1 3 b - 1\nrule 1 3 a - 1\n")
	ended(t, s, 0, []int{1, 3}, 2, api.OK)
	ended(t, s, 1, []int{3}, 1, api.OK)
	s = parsedScheme(t, "scheme 4 8\nrule 2 3 a - 1\nrule 0 1 a - 2\nrule 0 2 a - 2\nrule 1 3 b - 2\nrule 1 3 a - 1\n")
	ended(t, s, 0, []int{1, 4}, 3, api.OK)
}

func TestOrderIsOfNumbers(t *testing.T) { // P3.5: rule 9 is before rule 10
	s := api.Scheme{Modes: 2, Accept: 2}
	for i := range 9 {
		s.Rules = append(s.Rules, api.Rule{From: 1, To: 0, Cost: i})
	}
	s.Rules = append(s.Rules, api.Rule{From: 0, To: 1, In: "z", Cost: 4}, api.Rule{From: 0, To: 1, In: "a", Cost: 4})
	ended(t, s, 0, []int{9}, 4, api.OK)
}

func TestRulesThatLeadRound(t *testing.T) { // P3.5: for nothing, and still they are no part of an end
	s := parsedScheme(t, "scheme 4 8\nrule 0 0 a A 0\nrule 0 1 a - 0\nrule 1 0 a - 0\nrule 1 2 a - 0\nrule 2 1 - - 0\nrule 2 0 - - 0\nrule 2 3 - - 0\nrule 3 3 - - 0\nrule 3 0 a - 0\n")
	ended(t, s, 0, []int{1, 3, 6}, 0, api.OK)
	ended(t, s, 1, []int{3, 6}, 0, api.OK)
	ended(t, s, 2, []int{6}, 0, api.OK)
	ended(t, s, 3, nil, 0, api.OK)
	s.Rules = s.Rules[:6]
	for m := range 3 {
		ended(t, s, m, nil, 0, api.ErrNone)
	}
}

func TestLongestEnds(t *testing.T) { // P3.5: rules of the dearest kind, in both orders
	for modes := 1; modes <= 8; modes++ {
		for _, cost := range []int{0, 1, 1000} {
			s := chainScheme(modes, cost)
			var l []int
			for i := range s.Rules {
				l = append(l, i)
			}
			for m := range modes {
				ended(t, s, m, l[m:], cost*(modes-1-m), api.OK)
			}
			slices.Reverse(s.Rules)
			slices.Reverse(l)
			for m := range modes {
				ended(t, s, m, l[m:], cost*(modes-1-m), api.OK)
			}
		}
	}
}

func TestEndsAgainstAllLists(t *testing.T) { // P3.5: a search through all lists that come to no mode twice, and some more
	r := rand.New(rand.NewSource(22))
	for range 3000 {
		s := randomScheme(r, 4, 6)
		for m := range s.Modes {
			endedFirst(t, s, m, searchedEnd(s, m, s.Modes))
		}
	}
}

func TestRandomEnds(t *testing.T) { // P3.5
	r := rand.New(rand.NewSource(23))
	for range 10000 {
		s := randomScheme(r, 8, choose(r, 8, 16, 64))
		for m, e := range oracleEnds(s) {
			endedFirst(t, s, m, e)
		}
	}
}

func TestEndsWithManyRules(t *testing.T) { // P3.5: nearly all rules are dear, so that cheap detours come first
	r := rand.New(rand.NewSource(24))
	most := 0
	for range 3000 {
		s := chainScheme(8, 1)
		r.Shuffle(len(s.Rules), func(i, j int) { s.Rules[i], s.Rules[j] = s.Rules[j], s.Rules[i] })
		for len(s.Rules) < 40 {
			if rule := randomRule(r, 8, []int{1, 2, 3, 5, 7}); !slices.Contains(s.Rules, rule) {
				s.Rules = append(s.Rules, rule)
			}
		}
		r.Shuffle(len(s.Rules), func(i, j int) { s.Rules[i], s.Rules[j] = s.Rules[j], s.Rules[i] })
		for m, e := range oracleEnds(s) {
			endedFirst(t, s, m, e)
			most = max(most, len(e.Rules))
		}
	}
	if most < 5 {
		t.Fatalf("no end has more than %d rules", most)
	}
}

func TestEndsAgainstTheirRests(t *testing.T) { // P3.5
	r := rand.New(rand.NewSource(25))
	for range 5000 {
		s := randomScheme(r, 8, choose(r, 10, 20))
		for m := range s.Modes {
			l, cost, err := route.Least(s, m)
			if err != api.OK || len(l) == 0 {
				continue
			}
			first := s.Rules[l[0]]
			if first.From != m || cost != costOf(s, l) || accepts(s, m) {
				t.Fatalf("Least(%+v, %d) = %v, %d", s, m, l, cost)
			}
			ended(t, s, first.To, l[1:], cost-first.Cost, api.OK)
		}
	}
}

func TestEndsAfterRoutes(t *testing.T) { // P3.5: with the least end, a route is whole, if its mode is live
	r := rand.New(rand.NewSource(26))
	for range 3000 {
		s := randomScheme(r, 8, choose(r, 10, 20))
		live := route.Live(s)
		begun := randomRoute(r, s, r.Intn(9))
		run := route.Run(s, begun)
		l, cost, err := route.Least(s, run.Mode)
		if (err == api.OK) != live[run.Mode] {
			t.Fatalf("Least(%+v, %d) returns %v; live is %v", s, run.Mode, err, live[run.Mode])
		}
		if err != api.OK {
			continue
		}
		whole := route.Run(s, slices.Concat(begun, l))
		if !whole.Ok || !accepts(s, whole.Mode) || whole.Cost != run.Cost+cost {
			t.Fatalf("%v with the end %v of %+v is %+v", begun, l, s, whole)
		}
	}
}

func TestEndsOfTrimmed(t *testing.T) { // P3.4, P3.5: what can be reached is ended at the same costs
	r := rand.New(rand.NewSource(27))
	for range 2000 {
		s := randomScheme(r, 8, choose(r, 8, 16))
		kept, indices := route.Trim(s)
		reached := route.Reached(s)
		for m := range s.Modes {
			l, cost, err := route.Least(s, m)
			if !reached[m] || err != api.OK {
				continue
			}
			for i := range l {
				l[i] = slices.Index(indices, l[i])
			}
			ended(t, kept, m, l, cost, api.OK)
		}
	}
}

func TestOneRuleMore(t *testing.T) { // P3.6: at any place
	r := rand.New(rand.NewSource(28))
	grown := 0
	for range 5000 {
		s := randomScheme(r, 8, 12)
		rule := randomRule(r, s.Modes, []int{0, 1, 2, 1000})
		if slices.Contains(s.Rules, rule) {
			continue
		}
		more := s
		more.Rules = slices.Insert(slices.Clone(s.Rules), r.Intn(len(s.Rules)+1), rule)
		reached, live := route.Reached(s), route.Live(s)
		reachedMore, liveMore := route.Reached(more), route.Live(more)
		for m := range s.Modes {
			if reached[m] && !reachedMore[m] || live[m] && !liveMore[m] {
				t.Fatalf("mode %d of %+v is lost with the rule %+v", m, s, rule)
			}
			_, cost, err := route.Least(s, m)
			_, costMore, errMore := route.Least(more, m)
			if err == api.OK && (errMore != api.OK || costMore > cost) {
				t.Fatalf("the end from mode %d of %+v becomes dearer with the rule %+v: %d, %v", m, s, rule, costMore, errMore)
			}
			if !live[m] && liveMore[m] || costMore < cost {
				grown++
			}
		}
	}
	if grown < 100 {
		t.Fatalf("only %d modes became live or their ends cheaper", grown)
	}
}
