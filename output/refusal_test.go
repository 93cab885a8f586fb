package output_test

import (
	"slices"
	"strings"
	"testing"

	"syllabary/api"
	"syllabary/flaw"
)

// notSound returns schemes that would have the output A for the input a, but are not valid or not sound.
func notSound(t *testing.T) []api.Scheme {
	sound := soundScheme(t, "scheme 3 1,rule 0 0 a A 1,rule 0 1 b - 1,rule 1 0 b - 1,rule 1 1 c - 0")
	bestIs(t, sound, "a", 1, found("A", 1), api.OK)
	var l []api.Scheme
	spoil := func(want api.Errno, change func(s *api.Scheme)) {
		s := sound
		s.Rules = slices.Clone(sound.Rules)
		change(&s)
		if err := flaw.Sound(s); err != want {
			t.Fatalf("Sound(%+v) = %v; the test wants %v", s, err, want)
		}
		l = append(l, s)
	}
	for _, modes := range []int{-1 << 63, -1, 0, 1, 9, 64, 1 << 40} {
		spoil(api.ErrScheme, func(s *api.Scheme) { s.Modes = modes })
	}
	for _, accept := range []uint8{0, 8, 9, 255} {
		spoil(api.ErrScheme, func(s *api.Scheme) { s.Accept = accept })
	}
	for _, mode := range []int{-1 << 63, -1, 3, 8, 1<<63 - 1} {
		spoil(api.ErrScheme, func(s *api.Scheme) { s.Rules[3].From = mode })
		spoil(api.ErrScheme, func(s *api.Scheme) { s.Rules[1].To = mode })
	}
	for _, in := range []string{"abcde", "A", "1", "-", "\xff"} {
		spoil(api.ErrScheme, func(s *api.Scheme) { s.Rules[1].In = in })
	}
	for _, out := range []string{"abcde", "-", "é"} {
		spoil(api.ErrScheme, func(s *api.Scheme) { s.Rules[2].Out = out })
	}
	for _, cost := range []int{-1, 1001} {
		spoil(api.ErrScheme, func(s *api.Scheme) { s.Rules[0].Cost = cost })
	}
	spoil(api.ErrScheme, func(s *api.Scheme) { s.Rules = append(s.Rules, s.Rules[0]) })
	spoil(api.ErrScheme, func(s *api.Scheme) {
		for len(s.Rules) < 65 {
			s.Rules = append(s.Rules, api.Rule{In: "a", Out: "A", Cost: 100 + len(s.Rules)})
		}
	})
	spoil(api.ErrNone, func(s *api.Scheme) { s.Accept = 4 })
	spoil(api.ErrStuck, func(s *api.Scheme) { s.Rules[1].To = 2 })
	spoil(api.ErrStuck, func(s *api.Scheme) { s.Rules = append(s.Rules, api.Rule{From: 1, To: 2}) })
	spoil(api.ErrEndless, func(s *api.Scheme) { s.Rules[3].In = "" })
	spoil(api.ErrEndless, func(s *api.Scheme) { s.Rules = append(s.Rules, api.Rule{}) })
	spoil(api.ErrEndless, func(s *api.Scheme) { s.Rules[1].In, s.Rules[2].In = "", "" })
	return append(l, api.Scheme{})
}

func TestSchemesThatAreNotSound(t *testing.T) { // P5.1, P1: for each reason
	for _, s := range notSound(t) {
		for _, in := range []string{"", "a", "b", "bb", "abba", "c", "A", strings.Repeat("a", 40), strings.Repeat("a", 41)} {
			for _, k := range []int{0, 1, 50, 51} {
				bestIs(t, s, in, k, nil, api.ErrArg)
			}
			for _, out := range []string{"", "A", "AA", in} {
				costIs(t, s, in, out, -1)
			}
			goesIs(t, s, in, false)
		}
	}
}

func TestDeadRulesDoNotMatter(t *testing.T) { // P5.1, P1: they may lead round for nothing in modes that no route leads to
	s := soundScheme(t, "scheme 4 1,rule 0 0 a A 1,rule 2 2 - B 0,rule 2 3 - C 0,rule 3 2 - - 0,rule 3 0 a D 0,rule 1 1 - - 0")
	bestIs(t, s, "aa", 50, found("AA", 2), api.OK)
	bestIs(t, s, "", 50, found("", 0), api.OK)
	costIs(t, s, "aa", "AA", 2)
	costIs(t, s, "a", "D", -1)
	goesIs(t, s, "aaaa", true)
	goesIs(t, s, "b", false)
}

func TestInputsThatAreNoLetters(t *testing.T) { // P5.1: for each byte that is none, though rules could take the rest
	s := soundScheme(t, "scheme 1 1,rule 0 0 a A 1")
	wrong := []string{"é", "a\u0301", "ａ", "a b", "\n", "-", strings.Repeat("a", 1<<20)}
	for c := range 256 {
		if 'a' <= c && c <= 'z' {
			continue
		}
		b := string([]byte{byte(c)})
		wrong = append(wrong, b, "a"+b, b+"a", "aa"+b+"aa", strings.Repeat("a", 39)+b)
	}
	for _, in := range wrong {
		bestIs(t, s, in, 1, nil, api.ErrArg)
		goesIs(t, s, in, false)
		for _, out := range []string{"", "A", "AA", strings.Repeat("A", 39), strings.Repeat("A", 40), strings.ToUpper(in)} {
			costIs(t, s, in, out, -1)
		}
	}
	for _, in := range strings.Split("bcdefghijklmnopqrstuvwxyz", "") {
		bestIs(t, s, in, 1, nil, api.ErrNone)
		bestIs(t, s, "a"+in, 1, nil, api.ErrNone)
	}
}

func TestLengthsOfInputs(t *testing.T) { // P5.1: up to 40 letters
	s := soundScheme(t, "scheme 1 1,rule 0 0 a A 1,rule 0 0 b - 1")
	for n := range 200 {
		in, out := strings.Repeat("a", n), strings.Repeat("A", n)
		none := in[:n/2] + strings.Repeat("c", n-n/2)
		if n > 40 {
			bestIs(t, s, in, 50, nil, api.ErrArg)
			bestIs(t, s, none, 50, nil, api.ErrArg)
			costIs(t, s, in, out, -1)
			goesIs(t, s, in, false)
			continue
		}
		bestIs(t, s, in, 50, found(out, n), api.OK)
		costIs(t, s, in, out, n)
		goesIs(t, s, in, true)
		if n > 0 {
			bestIs(t, s, none, 50, nil, api.ErrNone)
			goesIs(t, s, none, false)
		}
	}
}

func TestNumbersOfResults(t *testing.T) { // P5.1: k from 1 to 50, for inputs with and without results
	s := product(36)
	whole, _ := enumerated(s, "a", 100)
	for k := -60; k <= 110; k++ {
		if k < 1 || k > 50 {
			bestIs(t, s, "a", k, nil, api.ErrArg)
			bestIs(t, s, "z", k, nil, api.ErrArg)
			continue
		}
		want, err := whole.best(k)
		if len(want) != min(k, 36) {
			t.Fatalf("the test has %d results for %d", len(want), k)
		}
		bestIs(t, s, "a", k, want, err)
		bestIs(t, s, "z", k, nil, api.ErrNone)
	}
	for _, k := range []int{-1 << 63, -1 << 32, 1 << 32, 1<<32 + 1, 256, 257, 1<<63 - 1} {
		bestIs(t, s, "a", k, nil, api.ErrArg)
	}
}
