package output_test

import (
	"math"
	"slices"
	"strings"
	"testing"

	"syllabary/api"
	"syllabary/flaw"
	"syllabary/output"
)

// product has as many rules for each of the letters a, b and so on as counts says. All that two letters put out has two bytes, so no two lists of these rules put out the same for the same letters.
func product(counts ...int) api.Scheme {
	s := api.Scheme{Modes: 1, Accept: 1}
	for letter, n := range counts {
		for i := range n {
			out := []byte{'A' + byte(letter), "0123456789abcdefghijklmnopqrstuvwxyz"[i]}
			s.Rules = append(s.Rules, api.Rule{In: "abcdefgh"[letter : letter+1], Out: string(out), Cost: (i*i + letter) % 7})
		}
	}
	return s
}

// more returns the scheme with further rules.
func more(s api.Scheme, rules ...api.Rule) api.Scheme {
	s.Rules = slices.Concat(s.Rules, rules)
	return s
}

// full checks that the input has 2000 pairs at a place and no more at any, and what Best returns for it.
func full(t *testing.T, s api.Scheme, in string) {
	t.Helper()
	w := tabled(s, in)
	if w.most() != 2000 {
		t.Fatalf("%+v and %q have %d pairs at a place", s, in, w.most())
	}
	for _, k := range []int{1, 20, 50} {
		want, err := w.best(k)
		bestIs(t, s, in, k, want, err)
	}
}

// tooMany checks that Best refuses the input, for all k.
func tooMany(t *testing.T, s api.Scheme, in string) {
	t.Helper()
	if err := flaw.Sound(s); err != api.OK {
		t.Fatalf("%+v is not sound: %v", s, err)
	}
	for _, k := range []int{1, 2, 50} {
		bestIs(t, s, in, k, nil, api.ErrBig)
	}
}

var oneMore = api.Rule{In: "abc", Out: "X"}

func TestPairsAtTheLastPlace(t *testing.T) { // P5.8: exactly 2000, and one more
	s := product(20, 10, 10)
	full(t, s, "abc")
	tooMany(t, more(s, oneMore), "abc")
	bestIs(t, more(s, oneMore), "ab", 1, found("A0B0", 1), api.OK)
	bestIs(t, s, "abc", 1, found("A0B0C0", 3), api.OK)
}

func TestNumbersOfPairs(t *testing.T) { // P5.8: from 1995 on, one by one
	s := product(19, 15, 7)
	for pairs := 1995; pairs <= 2018; pairs++ {
		switch {
		case pairs < 2000:
			want, err := tabled(s, "abc").best(50)
			bestIs(t, s, "abc", 50, want, err)
		case pairs == 2000:
			full(t, s, "abc")
		default:
			tooMany(t, s, "abc")
		}
		n := pairs - 1995
		s = more(s, api.Rule{In: "abc", Out: "abcdefghijklmnopqrstuvwx"[n : n+1], Cost: n})
	}
}

func TestPairsAtEarlierPlaces(t *testing.T) { // P5.8: though there are few afterwards, or as many at each further place
	few := more(product(20, 10, 10), api.Rule{In: "abcd", Out: "K", Cost: 9})
	full(t, few, "abcd")
	bestIs(t, few, "abcd", 50, found("K", 9), api.OK)
	tooMany(t, more(few, oneMore), "abcd")
	on := more(product(20, 10, 10), api.Rule{In: "d", Cost: 1})
	long := "abc" + strings.Repeat("d", 37)
	full(t, on, long)
	bestIs(t, on, long, 1, found("A0B0C0", 40), api.OK)
	tooMany(t, more(on, oneMore), long)
	tooMany(t, more(on, api.Rule{In: "dddd", Out: "X"}), long)
}

func TestPairsWithoutLetters(t *testing.T) { // P5.8: at the place 0, by rules that take nothing
	s := api.Scheme{Modes: 5, Accept: 31}
	add := func(from, to, n int, out string) {
		for i := range n {
			s.Rules = append(s.Rules, api.Rule{From: from, To: to, Out: out + "0123456789ab"[i:i+1], Cost: i % 5})
		}
	}
	add(0, 1, 12, "A") // 12 pairs
	add(1, 2, 12, "B") // 144 pairs
	add(2, 3, 12, "C") // 1728 pairs
	add(1, 4, 9, "D")  // 108 pairs
	add(0, 4, 7, "")   // 7 pairs, and the empty route has one
	full(t, s, "")
	bestIs(t, s, "", 3, found("", 0, "0", 0, "5", 0), api.OK)
	bestIs(t, s, "a", 3, nil, api.ErrNone)
	tooMany(t, more(s, api.Rule{From: 0, To: 4, Out: "X"}), "")
	tooMany(t, more(s, api.Rule{From: 0, To: 4, Out: "X"}), "a")
	tooMany(t, more(s, api.Rule{From: 0, To: 4}), "")
}

func TestPairsCountOnce(t *testing.T) { // P5.8: however many routes there are for each
	s := more(product(20, 10, 10), api.Rule{In: "a", Out: "A0", Cost: 900}, api.Rule{In: "c", Out: "C5", Cost: 0}, api.Rule{In: "bc", Out: "B7C8", Cost: 0})
	full(t, s, "abc")
	tooMany(t, more(s, api.Rule{In: "bc", Out: "B7C"}), "abc")
}

func TestPairsCountInEachMode(t *testing.T) { // P5.8: also in modes that are not accepting, or from which no rule takes the next letter
	back := api.Rule{From: 1, To: 0, In: "z"}
	for _, accept := range []uint8{1, 3} {
		s := more(product(20, 10, 10), back, api.Rule{From: 0, To: 0, In: "d"})
		s.Modes, s.Accept = 2, accept
		full(t, s, "abc")
		full(t, s, "abcd")
		again := more(s, api.Rule{From: 0, To: 1, In: "bc", Out: "B0C0"}) // 20 outputs again, in another mode
		tooMany(t, again, "abc")
		tooMany(t, again, "abcd")
		tooMany(t, more(s, api.Rule{From: 0, To: 1, In: "abc"}), "abc")
		tooMany(t, more(s, api.Rule{From: 0, To: 1, In: "abc"}), "abcd")
		half := more(product(10, 10, 10), back, api.Rule{From: 0, To: 1})
		half.Modes, half.Accept = 2, accept
		full(t, half, "abc")
		tooMany(t, more(half, oneMore), "abc")
	}
}

func TestTooManyOrNone(t *testing.T) { // P5.1: ErrBig comes before ErrNone
	s := product(20, 10, 10)
	full(t, s, "abcz")
	bestIs(t, s, "abcz", 50, nil, api.ErrNone)
	tooMany(t, more(s, oneMore), "abcz")
	tooMany(t, more(s, oneMore), "abc"+strings.Repeat("z", 37))
	bestIs(t, more(s, oneMore), "zabc", 50, nil, api.ErrNone)
}

func TestArgumentsOrTooMany(t *testing.T) { // P5.1: ErrArg comes before ErrBig
	s := more(product(20, 10, 10), oneMore)
	tooMany(t, s, "abc")
	for _, k := range []int{math.MinInt, -1, 0, 51, math.MaxInt} {
		bestIs(t, s, "abc", k, nil, api.ErrArg)
	}
	for _, in := range []string{"abc ", "abcA", "Aabc", "abc" + strings.Repeat("z", 38)} {
		bestIs(t, s, in, 1, nil, api.ErrArg)
	}
	bestIs(t, more(s, api.Rule{}), "abc", 1, nil, api.ErrArg)
	bestIs(t, more(s, oneMore), "abc", 1, nil, api.ErrArg)
}

func TestManyMoreThanTheLimit(t *testing.T) { // P5.8, P1: as many routes as there can be, by letters and without them
	letters := product(32, 32)
	for n := 3; n <= 40; n++ {
		tooMany(t, letters, strings.Repeat("ab", 20)[:n])
	}
	silent := api.Scheme{Modes: 8, Accept: 255}
	for i := range 63 {
		silent.Rules = append(silent.Rules, api.Rule{From: i % 7, To: i%7 + 1, Out: "abcdefghi"[i/7 : i/7+1]})
	}
	tooMany(t, silent, "")
	silent.Rules = append(silent.Rules, api.Rule{From: 7, To: 0, In: "a"})
	tooMany(t, silent, strings.Repeat("a", 40))
}

func TestManyRoutesForFewPairs(t *testing.T) { // P5.8, P1: all routes are counted once
	s := api.Scheme{Modes: 1, Accept: 1}
	for cost := range 64 {
		s.Rules = append(s.Rules, api.Rule{In: "a", Out: "AA"[:cost%3], Cost: cost})
	}
	in := strings.Repeat("a", 40)
	var want []api.Result
	for n := range 50 {
		want = append(want, api.Result{Text: strings.Repeat("A", n), Cost: n})
	}
	bestIs(t, s, in, 50, want, api.OK)
	for n := range 81 {
		costIs(t, s, in, strings.Repeat("A", n), n)
	}
	costIs(t, s, in, strings.Repeat("A", 81), -1)
}

func TestOneRuleForAll(t *testing.T) { // P5.1: the longest input and the greatest costs
	s := api.Scheme{Modes: 1, Accept: 1, Rules: []api.Rule{{In: "a", Out: "wxYZ", Cost: 1000}}}
	in := strings.Repeat("a", 40)
	bestIs(t, s, in, 50, found(strings.Repeat("wxYZ", 40), 40000), api.OK)
	costIs(t, s, in, strings.Repeat("wxYZ", 40), 40000)
	if l, err := output.Best(s, in+"a", 50); l != nil || err != api.ErrArg {
		t.Fatalf("41 letters: %v, %v", l, err)
	}
}
