package flaw_test

import (
	"math/rand"
	"slices"
	"testing"

	"syllabary/api"
	"syllabary/flaw"
)

func TestAnswersOfSound(t *testing.T) { // P4.1: each one, and which one comes first
	noEnd, stuck, endless := rule(0, 1, "a"), rule(0, 1, "b"), rule(0, 0, "")
	for _, c := range []struct {
		s    api.Scheme
		want api.Errno
	}{
		{rules(1, 1, rule(0, 0, "a")), api.OK},
		{rules(1, 1, endless), api.ErrEndless},
		{rules(2, 1, stuck), api.ErrStuck},
		{rules(2, 1, stuck, endless), api.ErrStuck},
		{rules(2, 1, endless, stuck), api.ErrStuck},
		{rules(3, 4, noEnd), api.ErrNone},
		{rules(3, 4, noEnd, endless), api.ErrNone},
		{rules(2, 0, stuck, endless), api.ErrScheme},
		{rules(1, 1, endless, stuck), api.ErrScheme},
		{rules(0, 1), api.ErrScheme},
		{rules(2, 3, rule(1, 1, ""), rule(1, 0, "a")), api.OK},
		{rules(8, 255, rule(7, 6, ""), rule(6, 7, "")), api.OK},
	} {
		if err := flaw.Sound(c.s); err != c.want {
			t.Errorf("Sound(%+v) = %v; it should be %v", c.s, err, c.want)
		}
	}
}

// without returns the scheme without these rules.
func without(s api.Scheme, dead []int) api.Scheme {
	left := api.Scheme{Modes: s.Modes, Accept: s.Accept}
	for i, r := range s.Rules {
		if !slices.Contains(dead, i) {
			left.Rules = append(left.Rules, r)
		}
	}
	return left
}

func TestWithoutDeadRules(t *testing.T) { // P4.5: and the answer is the same, but that it is not stuck
	r := rand.New(rand.NewSource(10))
	stuck := 0
	for range 5000 {
		s := anyScheme(r)
		report, err := flaw.Find(s), flaw.Sound(s)
		left := without(s, report.Dead)
		again, errLeft := flaw.Find(left), flaw.Sound(left)
		if len(again.Dead) > 0 || len(again.Stuck) > 0 || errLeft == api.ErrStuck {
			t.Fatalf("%+v without its dead rules: %+v, %v", s, again, errLeft)
		}
		if (err == api.ErrNone) != (errLeft == api.ErrNone) || len(report.Endless) != len(again.Endless) {
			t.Fatalf("%+v: %+v, %v; without its dead rules: %+v, %v", s, report, err, again, errLeft)
		}
		if err == api.ErrStuck {
			stuck++
		}
	}
	if stuck < 200 {
		t.Fatalf("only %d schemes were stuck", stuck)
	}
}

// inserted returns the scheme with one rule more, at a random place, and whether there was no such rule.
func inserted(r *rand.Rand, s api.Scheme, next api.Rule) (api.Scheme, bool) {
	more := s
	more.Rules = slices.Insert(slices.Clone(s.Rules), r.Intn(len(s.Rules)+1), next)
	return more, !slices.Contains(s.Rules, next) && len(s.Rules) < api.MaxRules
}

func TestRoundForNothing(t *testing.T) { // P4.6: in a live, reached mode it makes a scheme endless; elsewhere it does not
	r := rand.New(rand.NewSource(11))
	made, kept := 0, 0
	for range 3000 {
		s := anyScheme(r)
		w, err := tabled(s), flaw.Sound(s)
		for m := range s.Modes {
			more, ok := inserted(r, s, api.Rule{From: m, To: m, Out: "x", Cost: r.Intn(1001)})
			if !ok {
				continue
			}
			report, errMore := flaw.Find(more), flaw.Sound(more)
			useful := w.Reached[m] && w.Live[m]
			if useful && (len(report.Endless) != 1 || err == api.OK && errMore != api.ErrEndless || errMore == api.OK) {
				t.Fatalf("%+v with a rule that takes nothing in mode %d: %+v, %v", s, m, report, errMore)
			}
			if !useful && (len(report.Endless) != len(w.Report.Endless) || errMore != err) {
				t.Fatalf("%+v with a rule in mode %d, which is not useful: %+v, %v", s, m, report, errMore)
			}
			if useful && err == api.OK {
				made++
			}
			if !useful && err == api.OK {
				kept++
			}
		}
	}
	if made < 500 || kept < 100 {
		t.Fatalf("%d schemes became endless, %d did not", made, kept)
	}
}

func TestRulesThatTakeLetters(t *testing.T) { // P4.6: however many there are, if no rule takes nothing
	r := rand.New(rand.NewSource(12))
	for range 300 {
		s := api.Scheme{Modes: 1 + r.Intn(8)}
		s.Accept = uint8(1 + r.Intn(1<<s.Modes-1))
		for len(s.Rules) < 64 {
			next := api.Rule{From: r.Intn(s.Modes), To: r.Intn(s.Modes), In: "abcd"[:1+r.Intn(4)], Cost: r.Intn(1001)}
			if slices.Contains(s.Rules, next) {
				continue
			}
			s.Rules = append(s.Rules, next)
			if report, err := flaw.Find(s), flaw.Sound(s); len(report.Endless) > 0 || err == api.ErrEndless {
				t.Fatalf("%+v: %+v, %v", s, report, err)
			}
		}
	}
}

func TestLettersDoNotMakeEndless(t *testing.T) { // P4.6: one rule more that takes letters can make rules of use that lead round for nothing, but is in no such chain
	r := rand.New(rand.NewSource(13))
	for range 3000 {
		s := anyScheme(r)
		more, ok := inserted(r, s, api.Rule{From: r.Intn(s.Modes), To: r.Intn(s.Modes), In: "zz"})
		if !ok {
			continue
		}
		w := tabled(more)
		agrees(t, more, w)
		for _, i := range flaw.Find(more).Endless {
			if more.Rules[i].In != "" {
				t.Fatalf("Find(%+v) has a chain with rule %d", more, i)
			}
		}
	}
}
