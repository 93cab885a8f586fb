package flaw_test

import (
	"math/rand"
	"slices"
	"testing"

	"syllabary/api"
	"syllabary/flaw"
)

func TestStuckIsEmpty(t *testing.T) { // P4.1: if all reached modes are live, or the mode 0 is not live
	onlyLive := rules(3, 2, rule(0, 1, "a"), rule(1, 0, "a"), rule(2, 2, "a"))
	reported(t, onlyLive, api.Report{Dead: []int{2}}, api.OK)
	noneLive := rules(3, 4, rule(0, 1, "a"), rule(1, 0, "a"), rule(2, 0, "a"), rule(1, 1, ""))
	reported(t, noneLive, api.Report{Dead: []int{0, 1, 2, 3}}, api.ErrNone)
}

func TestStuckHasFewRules(t *testing.T) { // P4.4: fewer rules come first, though they are later ones
	s := rules(5, 1, rule(0, 1, "a"), rule(1, 0, "b"), rule(1, 2, "a"), rule(0, 4, "c"), rule(2, 3, "z"))
	reported(t, s, api.Report{Dead: []int{2, 3, 4}, Stuck: []int{3}}, api.ErrStuck)
	s = rules(4, 1, rule(0, 1, "a"), rule(1, 2, "a"), rule(2, 3, "a"), rule(2, 0, "a"), rule(0, 2, "a"))
	reported(t, s, api.Report{Dead: []int{2}, Stuck: []int{4, 2}}, api.ErrStuck)
}

func TestStuckIsFirst(t *testing.T) { // P4.4: of as many rules, those that come first lexicographically
	twice := rules(2, 1, rule(0, 0, "a"), rule(0, 1, "c"), rule(0, 1, "b"))
	reported(t, twice, api.Report{Dead: []int{1, 2}, Stuck: []int{1}}, api.ErrStuck)
	byFirstRule := rules(4, 1, rule(2, 3, "a"), rule(1, 3, "a"), rule(0, 1, "a"), rule(0, 2, "a"), rule(1, 0, "a"), rule(2, 0, "a"))
	reported(t, byFirstRule, api.Report{Dead: []int{0, 1}, Stuck: []int{2, 1}}, api.ErrStuck)
	byLastRule := rules(4, 1, rule(1, 0, "a"), rule(0, 1, "a"), rule(1, 3, "b"), rule(1, 2, "a"))
	reported(t, byLastRule, api.Report{Dead: []int{2, 3}, Stuck: []int{1, 2}}, api.ErrStuck)
	twoWays := rules(5, 1, rule(3, 4, "a"), rule(2, 3, "a"), rule(1, 3, "a"), rule(0, 1, "b"), rule(0, 2, "b"), rule(3, 0, "c"))
	reported(t, twoWays, api.Report{Dead: []int{0}, Stuck: []int{3, 2, 0}}, api.ErrStuck)
}

func TestOrderIsOfNumbers(t *testing.T) { // P4.4: rule 9 comes before rule 10
	s := rules(3, 1)
	for i := range 9 {
		s.Rules = append(s.Rules, api.Rule{From: 2, To: 2, In: "a", Cost: i})
	}
	s.Rules = append(s.Rules, rule(0, 1, "z"), rule(0, 2, "a"), rule(0, 0, "y"))
	reported(t, s, api.Report{Dead: []int{0, 1, 2, 3, 4, 5, 6, 7, 8, 9, 10}, Stuck: []int{9}}, api.ErrStuck)
	s.Rules[9], s.Rules[10] = api.Rule{Out: "Z"}, api.Rule{Out: "A"}
	reported(t, s, api.Report{Dead: []int{0, 1, 2, 3, 4, 5, 6, 7, 8}, Endless: []int{9}}, api.ErrEndless)
}

func TestStuckMayTakeNothing(t *testing.T) { // P4.1: its rules may take letters or not
	s := rules(3, 1, rule(0, 1, ""), rule(1, 0, "a"), rule(1, 2, "abcd"), rule(2, 2, ""))
	reported(t, s, api.Report{Dead: []int{2, 3}, Stuck: []int{0, 2}}, api.ErrStuck)
}

func TestEndlessWithOneRule(t *testing.T) { // P4.1, P4.4
	s := rules(3, 4, rule(0, 1, ""), rule(1, 0, ""), rule(1, 2, ""), rule(2, 2, ""), rule(1, 1, ""))
	reported(t, s, api.Report{Endless: []int{3}}, api.ErrEndless)
	s.Rules = slices.Delete(s.Rules, 3, 4)
	reported(t, s, api.Report{Endless: []int{3}}, api.ErrEndless)
	s.Rules = s.Rules[:3]
	reported(t, s, api.Report{Endless: []int{0, 1}}, api.ErrEndless)
}

func TestEndlessWithSeveralRules(t *testing.T) { // P4.1, P4.4: it begins with the least rule, which need not be in the mode 0
	s := rules(4, 1, rule(2, 1, ""), rule(0, 1, "a"), rule(3, 2, ""), rule(1, 3, ""), rule(2, 0, "b"))
	reported(t, s, api.Report{Endless: []int{0, 3, 2}}, api.ErrEndless)
	s = rules(2, 1, rule(1, 0, ""), rule(0, 1, ""))
	reported(t, s, api.Report{Endless: []int{0, 1}}, api.ErrEndless)
	s = rules(4, 1, rule(0, 1, ""), rule(1, 2, ""), rule(2, 0, ""), rule(2, 3, ""), rule(3, 2, ""))
	reported(t, s, api.Report{Endless: []int{3, 4}}, api.ErrEndless)
}

func TestEndlessIsFirst(t *testing.T) { // P4.4: of as many rules, those that come first lexicographically
	s := rules(4, 1, rule(0, 1, "a"), rule(1, 2, ""), rule(3, 1, ""), rule(2, 1, ""), rule(1, 3, ""), rule(3, 0, "z"))
	reported(t, s, api.Report{Endless: []int{1, 3}}, api.ErrEndless)
	s.Rules[1], s.Rules[4] = s.Rules[4], s.Rules[1]
	reported(t, s, api.Report{Endless: []int{1, 2}}, api.ErrEndless)
	twice := rules(2, 1, rule(1, 0, "a"), rule(0, 1, ""), rule(0, 1, ""), rule(1, 0, ""), rule(1, 0, ""))
	reported(t, twice, api.Report{Endless: []int{1, 3}}, api.ErrEndless)
}

func TestEndlessTakesNothing(t *testing.T) { // P4.1: a rule that takes letters, in each place
	for n := 1; n <= 8; n++ {
		s := ring(n, "")
		for i := range s.Rules {
			taking := s
			taking.Rules = slices.Clone(s.Rules)
			taking.Rules[i].In = "a"
			reported(t, taking, api.Report{}, api.OK)
		}
	}
}

func TestEndlessInOtherModes(t *testing.T) { // P4.1: in modes that are not reached, or not live, it does not count
	notReached := rules(3, 5, rule(1, 1, ""), rule(1, 2, ""), rule(2, 1, ""), rule(1, 0, "a"), rule(0, 0, "a"))
	reported(t, notReached, api.Report{Dead: []int{0, 1, 2, 3}}, api.OK)
	notLive := rules(3, 1, rule(0, 1, ""), rule(1, 1, ""), rule(1, 2, ""), rule(2, 1, ""), rule(0, 0, "a"))
	reported(t, notLive, api.Report{Dead: []int{0, 1, 2, 3}, Stuck: []int{0}}, api.ErrStuck)
	nothingLive := rules(2, 2, rule(0, 0, ""), rule(1, 1, ""))
	reported(t, nothingLive, api.Report{Dead: []int{0, 1}}, api.ErrNone)
}

// ring has rules from each mode to the next one, and from the last one to the mode 0, which is accepting.
func ring(modes int, in string) api.Scheme {
	s := rules(modes, 1)
	for m := range modes {
		s.Rules = append(s.Rules, rule(m, (m+1)%modes, in))
	}
	return s
}

func TestLongestEndless(t *testing.T) { // P4.1, P4.4: up to eight rules, from each one on
	for n := 1; n <= 8; n++ {
		for turn := range n {
			s := ring(n, "")
			s.Rules = slices.Concat(s.Rules[turn:], s.Rules[:turn])
			var l []int
			for i := range n {
				l = append(l, i)
			}
			reported(t, s, api.Report{Endless: l}, api.ErrEndless)
		}
		s := ring(n, "")
		slices.Reverse(s.Rules)
		l := []int{0}
		for i := n - 1; i > 0; i-- {
			l = append(l, i)
		}
		reported(t, s, api.Report{Endless: l}, api.ErrEndless)
	}
}

func TestLongestStuck(t *testing.T) { // P4.1, P4.4: up to seven rules, in both orders
	for n := 2; n <= 8; n++ {
		s := rules(n, uint8(1)<<(n-2))
		var l []int
		for m := range n - 1 {
			s.Rules = append(s.Rules, rule(m, m+1, "a"))
			l = append(l, m)
		}
		reported(t, s, api.Report{Dead: []int{n - 2}, Stuck: l}, api.ErrStuck)
		slices.Reverse(s.Rules)
		slices.Reverse(l)
		reported(t, s, api.Report{Dead: []int{0}, Stuck: l}, api.ErrStuck)
	}
}

// manyWays has rules that take nothing from each mode to the next one, in a random order, with so many others that lead to the next one too, or back. If all modes accept, a rule leads from the last one to the mode 0, which is the only way back that takes nothing.
func manyWays(r *rand.Rand, detours int, all bool) api.Scheme {
	s := ring(8, "")
	s.Accept = 127
	if all {
		s.Accept = 255
	} else {
		s.Rules = s.Rules[:7]
	}
	for range detours {
		from := r.Intn(7)
		next := rule(from, from+1, "")
		if r.Intn(3) == 0 {
			next.To = r.Intn(from + 1)
			next.In = "a"
		}
		next.Cost = r.Intn(500)
		if !slices.Contains(s.Rules, next) {
			s.Rules = append(s.Rules, next)
		}
	}
	r.Shuffle(len(s.Rules), func(i, j int) { s.Rules[i], s.Rules[j] = s.Rules[j], s.Rules[i] })
	return s
}

func TestLongChains(t *testing.T) { // P4.4: among many that have as many rules
	r := rand.New(rand.NewSource(6))
	for range 500 {
		round := manyWays(r, 1+r.Intn(40), true)
		w := tabled(round)
		agrees(t, round, w)
		line := manyWays(r, 1+r.Intn(40), false)
		v := tabled(line)
		agrees(t, line, v)
		if len(w.Report.Endless) != 8 || len(v.Report.Stuck) != 7 {
			t.Fatalf("short chains: %+v, %+v", w.Report, v.Report)
		}
	}
}

func TestNoEarlierChain(t *testing.T) { // P4.2, P4.4: of all chains that come before a reported one, none leads where it does
	r := rand.New(rand.NewSource(7))
	for range 1000 {
		modes := 1 + r.Intn(8)
		s := randomScheme(r, modes, fromEach[modes], 2*modes, 2)
		report := flaw.Find(s)
		w := searched(s)
		for _, c := range allChains(s, s.Modes) {
			if earlier(c, chain{Rules: report.Stuck}) < 0 && w.right(s, api.Report{Stuck: c.Rules}) && len(c.Rules) > 0 {
				t.Fatalf("Find(%+v) = %+v; Stuck could be %v", s, report, c.Rules)
			}
			if earlier(c, chain{Rules: report.Endless}) < 0 && w.right(s, api.Report{Endless: c.Rules}) && len(c.Rules) > 0 {
				t.Fatalf("Find(%+v) = %+v; Endless could be %v", s, report, c.Rules)
			}
		}
		if !w.right(s, report) {
			t.Fatalf("Find(%+v) = %+v, which is not so", s, report)
		}
	}
}
