package route_test

import (
	"math"
	"math/rand"
	"slices"
	"strings"
	"testing"

	"syllabary/api"
	"syllabary/route"
)

// exampleScheme is the scheme of the section 'Examples'.
func exampleScheme() api.Scheme {
	return api.Scheme{Modes: 2, Accept: 1, Rules: []api.Rule{
		{From: 0, To: 1, In: "c", Cost: 1},
		{From: 1, To: 0, In: "a", Out: "A", Cost: 1},
		{From: 0, To: 0, In: "b", Out: "b", Cost: 2},
	}}
}

func TestExamples(t *testing.T) { // P3.1
	s := exampleScheme()
	ran(t, s, []int{2, 0, 1}, api.Run{In: "bca", Out: "bA", Cost: 4, Mode: 0, Ok: true})
	ran(t, s, []int{1}, api.Run{})
	ran(t, s, []int{0, 2}, api.Run{})
	ran(t, s, []int{3}, api.Run{})
	ended(t, s, 0, nil, 0, api.OK)
	ended(t, s, 1, []int{1}, 1, api.OK)
	ended(t, s, 2, nil, 0, api.ErrRoute)
	moded(t, s, []bool{true, true}, []bool{true, true})
	trimmed(t, s, []int{0, 1, 2})
	s.Rules = []api.Rule{s.Rules[0], s.Rules[2]}
	trimmed(t, s, []int{1})
	moded(t, s, []bool{true, true}, []bool{true, false})
	ended(t, s, 1, nil, 0, api.ErrNone)
}

func TestEmptyRoute(t *testing.T) { // P3.1
	for _, s := range []api.Scheme{{Modes: 1, Accept: 1}, {Modes: 8, Accept: 128}, exampleScheme()} {
		ran(t, s, nil, api.Run{Ok: true})
		ran(t, s, []int{}, api.Run{Ok: true})
	}
}

func TestAllListsOfExample(t *testing.T) { // P3.1, P3.7: all lists of up to 5 numbers, wrong ones among them
	s := exampleScheme()
	var grow func(l []int)
	grow = func(l []int) {
		ran(t, s, l, oracleRun(s, l))
		if len(l) == 5 {
			return
		}
		for i := -1; i <= 3; i++ {
			grow(append(slices.Clone(l), i))
		}
	}
	grow(nil)
}

func TestRunOfRandomLists(t *testing.T) { // P3.1, P3.7
	r := rand.New(rand.NewSource(1))
	routes := 0
	for range 20000 {
		s := randomScheme(r, 3, 12)
		l := make([]int, r.Intn(6))
		for i := range l {
			l[i] = r.Intn(len(s.Rules)+2) - 1
		}
		want := oracleRun(s, l)
		ran(t, s, l, want)
		if want.Ok && len(l) > 1 {
			routes++
		}
	}
	if routes < 500 {
		t.Fatalf("only %d routes among the lists", routes)
	}
}

func TestRunOfRoutes(t *testing.T) { // P3.1, P3.2: a route, each of its beginnings, and what is put after them
	r := rand.New(rand.NewSource(2))
	for range 2000 {
		s := randomScheme(r, 8, 64)
		l := randomRoute(r, s, r.Intn(30))
		whole := route.Run(s, l)
		if !whole.Ok {
			t.Fatalf("Run(%+v, %v) is not Ok", s, l)
		}
		ran(t, s, l, oracleRun(s, l))
		run := api.Run{Ok: true}
		for i, rule := range l {
			ran(t, s, l[:i], run)
			run.In += s.Rules[rule].In
			run.Out += s.Rules[rule].Out
			run.Cost += s.Rules[rule].Cost
			run.Mode = s.Rules[rule].To
			ran(t, s, l[:i+1], run)
		}
		if run != whole {
			t.Fatalf("Run(%+v, %v) = %+v; its parts make %+v", s, l, whole, run)
		}
	}
}

func TestTwoPartsOfRoutes(t *testing.T) { // P3.2: routes that come back to mode 0 can be put together
	r := rand.New(rand.NewSource(3))
	back := 0
	for range 3000 {
		s := randomScheme(r, 4, 16)
		a, b := randomRoute(r, s, r.Intn(8)), randomRoute(r, s, r.Intn(8))
		first, second := route.Run(s, a), route.Run(s, b)
		if first.Mode != 0 {
			continue
		}
		back++
		ran(t, s, slices.Concat(a, b), api.Run{In: first.In + second.In, Out: first.Out + second.Out, Cost: first.Cost + second.Cost, Mode: second.Mode, Ok: true})
	}
	if back < 500 {
		t.Fatalf("only %d routes came back", back)
	}
}

func TestSpoiltRoutes(t *testing.T) { // P3.7
	r := rand.New(rand.NewSource(4))
	for range 300 {
		s := randomScheme(r, 8, 64)
		l := randomRoute(r, s, 1+r.Intn(12))
		for at := range l {
			for _, i := range []int{math.MinInt, -1, -len(s.Rules), len(s.Rules), len(s.Rules) + 1, 64, 1 << 32, math.MaxInt} {
				spoilt := slices.Clone(l)
				spoilt[at] = i
				ran(t, s, spoilt, api.Run{})
				ran(t, s, slices.Insert(slices.Clone(l), at, i), api.Run{})
			}
			mode := 0
			if at > 0 {
				mode = s.Rules[l[at-1]].To
			}
			for i, rule := range s.Rules {
				if rule.From != mode {
					spoilt := slices.Clone(l)
					spoilt[at] = i
					ran(t, s, spoilt, api.Run{})
				}
			}
		}
		for _, i := range []int{-1, len(s.Rules)} {
			ran(t, s, append(slices.Clone(l), i), api.Run{})
		}
	}
}

func TestRunWithoutRules(t *testing.T) { // P3.7
	s := api.Scheme{Modes: 8, Accept: 255}
	for i := -2; i < 70; i++ {
		ran(t, s, []int{i}, api.Run{})
	}
}

func TestFirstRule(t *testing.T) { // P3.1, P3.7: a route begins in mode 0
	for from := range 8 {
		s := api.Scheme{Modes: 8, Accept: 255, Rules: []api.Rule{{From: from, To: 7, In: "a", Out: "A", Cost: 3}}}
		want := api.Run{}
		if from == 0 {
			want = api.Run{In: "a", Out: "A", Cost: 3, Mode: 7, Ok: true}
		}
		ran(t, s, []int{0}, want)
	}
}

func TestLongRoute(t *testing.T) { // P1, P3.1
	const n = 1 << 20
	s := api.Scheme{Modes: 2, Accept: 1, Rules: []api.Rule{{From: 0, To: 1, In: "abcd", Out: "", Cost: 1000}, {From: 1, To: 0, In: "", Out: "Z9", Cost: 1}}}
	l := make([]int, 2*n)
	for i := range l {
		l[i] = i % 2
	}
	ran(t, s, l, api.Run{In: strings.Repeat("abcd", n), Out: strings.Repeat("Z9", n), Cost: 1001 * n, Ok: true})
	ran(t, s, l[:2*n-1], api.Run{In: strings.Repeat("abcd", n), Out: strings.Repeat("Z9", n-1), Cost: 1001*n - 1, Mode: 1, Ok: true})
	ran(t, s, append(l, 1), api.Run{})
}

func TestArgumentsAreNotModified(t *testing.T) { // P2
	r := rand.New(rand.NewSource(5))
	for range 500 {
		s := randomScheme(r, 8, 64)
		l := randomRoute(r, s, 10)
		check := unmodified(t, s, l)
		route.Run(s, l)
		route.Run(s, append(slices.Clone(l), -1))
		check()
		route.Reached(s)
		route.Live(s)
		check()
		route.Trim(s)
		check()
		for mode := -1; mode < 9; mode++ {
			route.Least(s, mode)
		}
		check()
	}
}

func TestResultsDependOnArgumentsOnly(t *testing.T) { // P2: the same again, also after a result was spoilt
	r := rand.New(rand.NewSource(6))
	for range 300 {
		s := randomScheme(r, 8, 64)
		reached, live := route.Reached(s), route.Live(s)
		kept, indices := route.Trim(s)
		spoilt, places := route.Trim(s)
		for i := range spoilt.Rules {
			spoilt.Rules[i] = api.Rule{From: -1}
		}
		for i := range places {
			places[i] = -1
		}
		moded(t, s, reached, live)
		trimmed(t, s, indices)
		if !sameScheme(kept, withRules(s, indices)) {
			t.Fatalf("Trim(%+v) shares memory with its arguments or other results", s)
		}
		for mode := range s.Modes {
			l, cost, err := route.Least(s, mode)
			l = slices.Clone(l)
			for range 5 {
				again, _, _ := route.Least(s, mode)
				if !same(again, l) {
					t.Fatalf("Least(%+v, %d) is %v, and then %v", s, mode, l, again)
				}
				for i := range again {
					again[i] = -1
				}
			}
			ended(t, s, mode, l, cost, err)
		}
	}
}

// Schemes that are not valid have unspecified results, but the functions return some.
func TestSchemesThatAreNotValid(t *testing.T) { // P1
	rule := api.Rule{From: 0, To: 0, In: "a"}
	var l []api.Scheme
	for _, modes := range []int{math.MinInt, -1, 0, 9, 300, math.MaxInt} {
		l = append(l, api.Scheme{Modes: modes, Accept: 1, Rules: []api.Rule{rule}})
	}
	for _, mode := range []int{math.MinInt, -1, 2, 8, 64, math.MaxInt} {
		l = append(l, api.Scheme{Modes: 2, Accept: 3, Rules: []api.Rule{rule, {From: mode, To: 0}}})
		l = append(l, api.Scheme{Modes: 2, Accept: 3, Rules: []api.Rule{rule, {From: 0, To: mode}}})
	}
	l = append(l, api.Scheme{}, api.Scheme{Modes: 2}, api.Scheme{Modes: 1, Accept: 254},
		api.Scheme{Modes: 2, Accept: 1, Rules: []api.Rule{{From: 1, To: 1, Cost: -5}, {From: 1, To: 0, Cost: -1}}},
		api.Scheme{Modes: 2, Accept: 2, Rules: slices.Repeat([]api.Rule{rule}, 1000)})
	for _, s := range l {
		route.Run(s, []int{0, 1, 0})
		route.Reached(s)
		route.Live(s)
		route.Trim(s)
		for _, mode := range []int{math.MinInt, -1, 0, 1, 8, math.MaxInt} {
			route.Least(s, mode)
		}
	}
}
