package reverse_test

import (
	"slices"
	"strings"
	"testing"

	"syllabary/api"
	"syllabary/reverse"
)

// refused checks that a text is refused by all functions, for any k and any letters.
func refused(t *testing.T, s api.Scheme, out string) {
	t.Helper()
	for _, k := range []int{-1, 0, 1, 50, 51} {
		bestIs(t, s, out, k, nil, api.ErrArg)
	}
	cheapestIs(t, s, out, "", 0, api.ErrArg)
	for _, in := range []string{"", "a", "A", strings.Repeat("a", 40), strings.Repeat("a", 41)} {
		if l, err := reverse.Pair(s, in, out); len(l) > 0 || err != api.ErrArg {
			t.Fatalf("Pair(%+v, %q, %q) = %v, %v", s, in, out, l, err)
		}
	}
}

// noLetters checks that an input is refused by Pair, for texts that have inputs, and for others.
func noLetters(t *testing.T, s api.Scheme, in string, outs ...string) {
	t.Helper()
	for _, out := range outs {
		if l, err := reverse.Pair(s, in, out); len(l) > 0 || err != api.ErrArg {
			t.Fatalf("Pair(%+v, %q, %q) = %v, %v", s, in, out, l, err)
		}
	}
}

func TestBytesOfTexts(t *testing.T) { // P6.7: letters a to z and A to Z and digits, and no other bytes, alone and among others
	s := api.Scheme{Modes: 1, Accept: 1}
	for _, c := range []byte("abcdefghijklmnopqrstuvwxyzABCDEFGHIJKLMNOPQRSTUVWXYZ0123456789") {
		s.Rules = append(s.Rules, api.Rule{In: "k", Out: string([]byte{c}), Cost: 1})
	}
	for c := range 256 {
		b := string([]byte{byte(c)})
		if 'a' <= c && c <= 'z' || 'A' <= c && c <= 'Z' || '0' <= c && c <= '9' {
			bestIs(t, s, b, 2, found("k", 1), api.OK)
			bestIs(t, s, "x"+b+"0", 2, found("kkk", 3), api.OK)
			cheapestIs(t, s, b, "k", 1, api.OK)
			if l, err := reverse.Pair(s, "kk", b+"Z"); len(l) != 2 || err != api.OK {
				t.Fatalf("%q: %v, %v", b, l, err)
			}
			continue
		}
		for _, out := range []string{b, "A" + b, b + "A", "AAA" + b + "AAA", strings.Repeat("A", 19) + b} {
			refused(t, s, out)
		}
	}
	for _, out := range []string{"é", "Á", "ａ", "A B", "-", "A\n", "\xff"} {
		refused(t, s, out)
	}
}

func TestLengthsOfTexts(t *testing.T) { // P6.7: up to 20 bytes; the empty text is one
	s := parsedScheme(t, "scheme 1 1,rule 0 0 a A 1,rule 0 0 b BBBB 0,rule 0 0 c - 0")
	for n := range 100 {
		a, b, none := strings.Repeat("A", n), strings.Repeat("B", 4*n), strings.Repeat("N", n)
		if n > 20 {
			refused(t, s, a)
			refused(t, s, none)
		} else {
			bestIs(t, s, a, 50, found(strings.Repeat("a", n), n), api.OK)
			pairIs(t, s, strings.Repeat("a", n), a, make([]int, n), true)
		}
		if n > 0 && n <= 20 {
			bestIs(t, s, none, 50, nil, api.ErrNone)
			pairIs(t, s, strings.Repeat("a", n), none, nil, false)
		}
		if n > 5 {
			refused(t, s, b)
		} else {
			bestIs(t, s, b, 50, found(strings.Repeat("b", n), 0), api.OK)
		}
	}
	refused(t, s, strings.Repeat("A", 1<<20))
}

func TestNumbersOfInputs(t *testing.T) { // P6.1: k from 1 to 50, for texts with and without inputs
	s := api.Scheme{Modes: 1, Accept: 1}
	var want []api.Result
	for i := range 60 {
		s.Rules = append(s.Rules, api.Rule{In: "k", Out: "A", Cost: 0})
		s.Rules[i].In = string([]byte{'a' + byte(i/26), 'a' + byte(i%26)})
		want = append(want, api.Result{Text: s.Rules[i].In})
	}
	for k := -60; k <= 110; k++ {
		if k < 1 || k > 50 {
			bestIs(t, s, "A", k, nil, api.ErrArg)
			bestIs(t, s, "B", k, nil, api.ErrArg)
			bestIs(t, s, "", k, nil, api.ErrArg)
			continue
		}
		bestIs(t, s, "A", k, want[:k], api.OK)
		bestIs(t, s, "B", k, nil, api.ErrNone)
		bestIs(t, s, "", k, found("", 0), api.OK)
	}
	for _, k := range []int{-1 << 63, -1 << 32, 1 << 32, 1<<32 + 1, 256, 257, 1<<63 - 1} {
		bestIs(t, s, "A", k, nil, api.ErrArg)
	}
}

func TestInputsThatAreNoLetters(t *testing.T) { // P6.1, P6.7: for each byte that is none, though rules could take the rest
	s := parsedScheme(t, "scheme 1 1,rule 0 0 a A 1,rule 0 0 b - 0")
	for c := range 256 {
		b := string([]byte{byte(c)})
		if 'a' <= c && c <= 'z' {
			pairIs(t, s, b+"a", "A", []int{1, 0}, b == "b")
			continue
		}
		for _, in := range []string{b, "a" + b, b + "a", "aa" + b + "aa", strings.Repeat("a", 39) + b} {
			noLetters(t, s, in, "", "A", "AA", "AAAA", "Z", strings.Repeat("A", 20))
		}
	}
	for n := range 100 {
		in := strings.Repeat("b", n) + "a"
		if n >= 40 {
			noLetters(t, s, in, "", "A", "Z")
			continue
		}
		pairIs(t, s, in, "A", append(slices.Repeat([]int{1}, n), 0), true)
		pairIs(t, s, in, "Z", nil, false)
	}
	noLetters(t, s, strings.Repeat("a", 1<<20), "", "A")
}

func TestSchemesThatAreNotSound(t *testing.T) { // P6.1: they need to be valid only, and not endless
	s := parsedScheme(t, "scheme 3 2,rule 0 2 b - 0,rule 0 1 a A 1,rule 2 2 c C 0")
	bestIs(t, s, "A", 9, found("a", 1), api.OK)
	pairIs(t, s, "a", "A", []int{1}, true)
	bestIs(t, s, "C", 9, nil, api.ErrNone)
	pairIs(t, s, "bc", "C", nil, false)
	s.Accept = 4
	bestIs(t, s, "CC", 9, found("bcc", 0), api.OK)
	none := parsedScheme(t, "scheme 3 4,rule 0 1 a A 1,rule 1 0 a A 1,rule 2 0 b B 1")
	for _, out := range []string{"", "A", "AA", "B"} {
		bestIs(t, none, out, 9, nil, api.ErrNone)
		pairIs(t, none, "a", out, nil, false)
	}
}

func TestUnspecifiedSchemes(t *testing.T) { // P1: for schemes that are endless or not valid, results mean nothing, but come
	a := api.Rule{In: "a", Out: "A", Cost: 1}
	for _, s := range []api.Scheme{
		{},
		{Modes: -1, Accept: 1, Rules: []api.Rule{a}},
		{Modes: 9, Accept: 1, Rules: []api.Rule{a}},
		{Modes: 1 << 40, Accept: 1, Rules: []api.Rule{a}},
		{Modes: 1, Accept: 2, Rules: []api.Rule{a}},
		{Modes: 1, Accept: 1, Rules: []api.Rule{a, {From: -1}}},
		{Modes: 1, Accept: 1, Rules: []api.Rule{a, {To: 70}}},
		{Modes: 1, Accept: 1, Rules: []api.Rule{a, {To: -1 << 63}}},
		{Modes: 1, Accept: 1, Rules: []api.Rule{a, {In: "", Out: "", Cost: -1}}},
		{Modes: 2, Accept: 3, Rules: []api.Rule{a, {To: 1, Cost: -5}, {From: 1, To: 0, Cost: -5}}},
		{Modes: 1, Accept: 1, Rules: []api.Rule{a, {In: strings.Repeat("a", 50), Out: "A"}}},
		{Modes: 1, Accept: 1, Rules: []api.Rule{a, {In: "a", Out: strings.Repeat("A", 50)}}},
		{Modes: 1, Accept: 1, Rules: slices.Repeat([]api.Rule{a}, 1000)},
		{Modes: 1, Accept: 1, Rules: []api.Rule{a, {}}},
		{Modes: 1, Accept: 1, Rules: []api.Rule{a, {Out: "A"}}},
		{Modes: 2, Accept: 3, Rules: []api.Rule{a, {To: 1}, {From: 1}}},
		{Modes: 2, Accept: 2, Rules: []api.Rule{a, {To: 1, Cost: 1}, {From: 1, Out: "A", Cost: 1}}},
	} {
		for _, out := range []string{"", "A", "AAA", strings.Repeat("A", 20)} {
			reverse.Best(s, out, 50)
			reverse.Cheapest(s, out)
			for _, in := range []string{"", "a", "aaa", strings.Repeat("a", 40)} {
				reverse.Pair(s, in, out)
			}
			bestIs(t, s, out, 51, nil, api.ErrArg)
			bestIs(t, s, out+"-", 1, nil, api.ErrArg)
		}
	}
}
