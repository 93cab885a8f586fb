package single_test

import (
	"slices"
	"strings"
	"testing"

	"syllabary/api"
	"syllabary/flaw"
	"syllabary/output"
	"syllabary/single"
)

// chain has as many rules from each mode to the next one as counts says, which take a, b and so on. No two lists of these rules put out the same. Only the mode after the last one is accepting.
func chain(counts ...int) api.Scheme {
	s := api.Scheme{Modes: len(counts) + 1, Accept: 1 << len(counts)}
	for mode, n := range counts {
		for i := range n {
			out := []byte{'A' + byte(mode), "0123456789abcdefghijklmnopqrstuvwxyz"[i]}
			s.Rules = append(s.Rules, api.Rule{From: mode, To: mode + 1, In: "abcdefgh"[mode : mode+1], Out: string(out), Cost: (i*i + mode) % 7})
		}
	}
	return s
}

func more(s api.Scheme, rules ...api.Rule) api.Scheme {
	s.Rules = slices.Concat(s.Rules, rules)
	return s
}

// tooBig checks that Check tells ErrBig for the first input with two outputs, and that these can be proved all the same.
func tooBig(t *testing.T, s api.Scheme, first string) {
	t.Helper()
	if err := flaw.Sound(s); err != api.OK {
		t.Fatalf("%+v is not sound: %v", s, err)
	}
	if l, err := output.Best(s, first, 2); l != nil || err != api.ErrBig {
		t.Fatalf("Best(%+v, %q) = %v, %v", s, first, l, err)
	}
	for in := range inputs("abcd", len(first)) {
		if in == first {
			break
		}
		if len(outputs(s, in)) > 1 {
			t.Fatalf("%q has two outputs in %+v", in, s)
		}
	}
	checked(t, s, api.Twice{}, api.ErrBig)
	l := cheapest(outputs(s, first), 2)
	proved(t, s, api.Twice{In: first, A: l[0], B: l[1]}, true)
}

func TestTooManyPairs(t *testing.T) { // P8.1: exactly 2000 at the last place, and one more
	s := chain(20, 10, 10)
	is(t, s, "abc", true)
	tooBig(t, more(s, api.Rule{From: 0, To: 3, In: "abc", Out: "X"}), "abc")
	tooBig(t, more(s, api.Rule{From: 1, To: 3, In: "bc"}), "abc")
	tooBig(t, more(s, api.Rule{From: 2, To: 3, In: "c", Out: "C"}), "abc")
	tooBig(t, chain(21, 20, 20), "abc")
	tooBig(t, chain(16, 16, 16), "abc")
}

func TestTooManyPairsThatDoNotGoOn(t *testing.T) { // P8.1: at an earlier place, though the first input has two outputs only
	s := chain(20, 10, 10)
	s.Modes, s.Accept = 5, 16
	s = more(s, api.Rule{From: 3, To: 4, In: "e"}, api.Rule{From: 0, To: 4, In: "abcd", Out: "Y", Cost: 2}, api.Rule{From: 0, To: 4, In: "abcd", Out: "X", Cost: 2})
	is(t, s, "abcd", true)
	checked(t, s, api.Twice{In: "abcd", A: "X", B: "Y"}, api.ErrTwice)
	tooBig(t, more(s, api.Rule{From: 0, To: 3, In: "abc", Out: "X"}), "abcd")
}

func TestTooManyPairsWithoutLetters(t *testing.T) { // P8.1: the empty input has them
	s := api.Scheme{Modes: 8, Accept: 128}
	for i := range 63 {
		s.Rules = append(s.Rules, api.Rule{From: i % 7, To: i%7 + 1, Out: "abcdefghi"[i/7 : i/7+1]})
	}
	checked(t, s, api.Twice{}, api.ErrBig)
	proved(t, s, api.Twice{A: "abcdefg", B: "gfedcba"}, true)
	proved(t, s, api.Twice{A: "abcdefg", B: "gfedcb"}, false)
	s.Accept = 1
	s.Rules = append(s.Rules, api.Rule{From: 7, To: 0, In: "a"})
	checked(t, s, api.Twice{}, api.ErrBig)
	proved(t, s, api.Twice{In: "a", A: "abcdefg", B: "gfedcba"}, true)
}

func TestTooManyPairsLater(t *testing.T) { // P8.1: not for the first input
	s := chain(20, 10, 10)
	s.Accept = 10
	is(t, s, "a", true)
	s = more(s, api.Rule{From: 0, To: 3, In: "abc", Out: "X"})
	is(t, s, "a", true)
	checked(t, s, api.Twice{In: "a", A: "A0", B: "A7"}, api.ErrTwice)
	s = api.Scheme{Modes: 1, Accept: 1}
	for i := range 64 {
		s.Rules = append(s.Rules, api.Rule{In: "a", Out: string([]byte{'A' + byte(i/8), 'a' + byte(i%8)}), Cost: 1000 - i})
	}
	is(t, s, "a", true)
	checked(t, s, api.Twice{In: "a", A: "Hh", B: "Hg"}, api.ErrTwice)
}

func TestGreatestSchemes(t *testing.T) { // P1, P8.1: of 64 rules and 8 modes that take and put out 4 bytes each
	same, other := api.Scheme{Modes: 8, Accept: 255}, api.Scheme{Modes: 8, Accept: 128}
	for i := range 64 {
		in := "aaaa"
		same.Rules = append(same.Rules, api.Rule{From: i % 8, To: i / 8, In: in, Out: "wxYZ", Cost: 1000})
		other.Rules = append(other.Rules, api.Rule{From: i % 8, To: i / 8, In: in[:1+i%4], Out: "AAAA"[:1+i%4], Cost: i})
	}
	is(t, same, "", false)
	is(t, other, "", false)
	same.Rules[63].Out = "wxYz"
	is(t, same, "aaaaaaaa", true)
	other.Rules[63].Out = "AAAB"
	first, twice := enumerated(other, "a", 12)
	is(t, other, first, twice)
	for n := range 5 {
		s := api.Scheme{Modes: 8, Accept: 255}
		for i := range 64 {
			s.Rules = append(s.Rules, api.Rule{From: i % 8, To: i * 5 / 8 % 8, In: "abcd"[:n], Out: strings.Repeat("z", n), Cost: i})
		}
		err := flaw.Sound(s)
		if (err == api.OK) != (n > 0) {
			t.Fatalf("%+v: %v", s, err)
		}
		if n > 0 {
			is(t, s, "", false)
		} else if _, err := single.Check(s); err != api.ErrScheme {
			t.Fatalf("%+v: %v", s, err)
		}
	}
}

func TestManyPlaces(t *testing.T) { // P1, P8.1: all rules have inputs of their own, which begin and go on alike
	one, eight := api.Scheme{Modes: 1, Accept: 1}, api.Scheme{Modes: 8, Accept: 255}
	for i := range 64 {
		in := string([]byte{"ab"[i/32], "ab"[i/16%2], "ab"[i/8%2], "abcdefgh"[i%8]})
		out := strings.ToUpper(in)
		one.Rules = append(one.Rules, api.Rule{In: in, Out: out})
		eight.Rules = append(eight.Rules, api.Rule{From: i % 8, To: i * 7 / 8 % 8, In: in[i%3:], Out: out[i%3:]})
	}
	is(t, one, "", false)
	is(t, eight, "", false)
	one.Rules[40].In = one.Rules[40].In[:3]
	one.Rules[41].In = one.Rules[41].In[:3]
	is(t, one, one.Rules[40].In, true)
}
