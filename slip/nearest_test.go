package slip_test

import (
	"math"
	"math/rand"
	"slices"
	"strings"
	"testing"

	"syllabary/api"
	"syllabary/slip"
)

func TestNearestAgainstSearch(t *testing.T) { // P7.7: for all limits that make a difference, and those beside them
	r := rand.New(rand.NewSource(31))
	ties, none, some := 0, 0, 0
	for range 150 {
		l := someSlips(r, "abc")
		var words []string
		for range r.Intn(60) {
			words = append(words, randomText(r, "abc-", 6))
		}
		typed := randomText(r, "abc-", 6)
		all := ranked(l, typed, words)
		limits := []int{math.MinInt, -1000, -1, 0, 1, math.MaxInt}
		for i, f := range all {
			limits = append(limits, f.Cost-1, f.Cost, f.Cost+1)
			if i > 0 && f.Cost == all[i-1].Cost {
				ties++
			}
		}
		for _, most := range limits {
			n := 0
			for n < len(all) && all[n].Cost <= most {
				n++
			}
			want := all[:n]
			nearestIs(t, l, typed, words, most, want)
			switch len(want) {
			case 0:
				none++
			case len(words):
			default:
				some++
			}
		}
	}
	if ties < 1000 || none < 400 || some < 3000 {
		t.Fatalf("%d words are as far as the one before, %d lists are empty, %d have some of the words", ties, none, some)
	}
}

func TestNearestIsDistance(t *testing.T) { // P7.7: each word once, with its distance, whatever the words before it are
	r := rand.New(rand.NewSource(32))
	for range 200 {
		l := someSlips(r, "abcdefg")
		var words []string
		for range 200 {
			words = append(words, randomText(r, "abcdefgh", pick(r, []int{0, 3, 20, 40})))
		}
		typed := randomText(r, "abcdefgh", 30)
		most := r.Intn(40 * max(l.Put, l.Drop, l.Add))
		found := slip.Nearest(l, typed, words, most)
		if !slices.IsSortedFunc(found, func(a, b api.Found) int { return 2*sign(a.Cost-b.Cost) + sign(a.Word-b.Word) }) {
			t.Fatalf("Nearest(%+v, %q, %q, %d) = %v", l, typed, words, most, found)
		}
		for i, w := range words {
			d := slip.Distance(l, typed, w)
			if slices.Contains(found, api.Found{Word: i, Cost: d}) != (d <= most) || slices.IndexFunc(found, func(f api.Found) bool { return f.Word == i }) >= 0 != (d <= most) {
				t.Fatalf("Nearest(%+v, %q, %q, %d) = %v; but the word %d is at %d", l, typed, words, most, found, i, d)
			}
		}
	}
}

func sign(n int) int { return min(1, max(-1, n)) }

func TestLimits(t *testing.T) { // P7.7: below 0, at 0 and above
	l := exampleSlips()
	words := []string{"ab", "ba", "a", "eb", "cb", "ab", "", "abab"}
	far := []api.Found{{Word: 0, Cost: 0}, {Word: 5, Cost: 0}, {Word: 1, Cost: 1}, {Word: 3, Cost: 1}, {Word: 2, Cost: 2}, {Word: 4, Cost: 3}, {Word: 6, Cost: 4}, {Word: 7, Cost: 4}}
	for most, n := range map[int]int{math.MinInt: 0, -1 << 32: 0, -1: 0, 0: 2, 1: 4, 2: 5, 3: 6, 4: 8, 5: 8, 1000: 8, 1 << 40: 8, math.MaxInt: 8} {
		nearestIs(t, l, "ab", words, most, far[:n])
	}
}

func TestNoWords(t *testing.T) { // P7.7
	for _, most := range []int{-1, 0, 1, math.MaxInt} {
		for _, typed := range []string{"", "ab", "\x00"} {
			nearestIs(t, exampleSlips(), typed, nil, most, nil)
			nearestIs(t, exampleSlips(), typed, []string{}, most, nil)
		}
	}
}

func TestEmptyWords(t *testing.T) { // P7.7: and nothing typed
	l := exampleSlips()
	nearestIs(t, l, "", []string{"", "a", ""}, 0, []api.Found{{Word: 0, Cost: 0}, {Word: 2, Cost: 0}})
	nearestIs(t, l, "", []string{"abc", "a", ""}, 9, []api.Found{{Word: 2, Cost: 0}, {Word: 1, Cost: 2}, {Word: 0, Cost: 6}})
	nearestIs(t, l, "ab", []string{"", "abc"}, 4, []api.Found{{Word: 1, Cost: 2}, {Word: 0, Cost: 4}})
	nearestIs(t, l, "ab", []string{"abc", ""}, 3, []api.Found{{Word: 0, Cost: 2}})
}

func TestEqualWords(t *testing.T) { // P7.7: each has its own place; many of them remain in their order
	l := api.Slips{Swap: 2, Drop: 3, Add: 5, Put: 4, Alike: []api.Alike{{A: 'a', B: 'b', Cost: 1}}}
	var words []string
	for range 300 {
		words = append(words, "xyz", "xy", "yxz", "axyz")
	}
	var want []api.Found
	for _, f := range []api.Found{{Word: 0, Cost: 0}, {Word: 2, Cost: 2}, {Word: 3, Cost: 3}, {Word: 1, Cost: 5}} {
		for i := range 300 {
			want = append(want, api.Found{Word: 4*i + f.Word, Cost: f.Cost})
		}
	}
	nearestIs(t, l, "xyz", words, 1000, want)
	nearestIs(t, l, "xyz", words, 5, want)
	nearestIs(t, l, "xyz", words, 4, want[:900])
	nearestIs(t, l, "xyz", words, 2, want[:600])
	nearestIs(t, l, "xyz", words, 1, want[:300])
	nearestIs(t, l, "xyz", words, -1, nil)
}

func TestLongWords(t *testing.T) { // P7.7: of any length and of any bytes
	l := api.Slips{Swap: 1000, Drop: 1000, Add: 1000, Put: 1000}
	long := strings.Repeat("ab\x00\xff", 1000)
	words := []string{long + "x", strings.Repeat("c", 5000), long, "", long[1:]}
	want := []api.Found{{Word: 2, Cost: 0}, {Word: 0, Cost: 1000}, {Word: 4, Cost: 1000}, {Word: 3, Cost: 4000000}, {Word: 1, Cost: 5000000}}
	nearestIs(t, l, long, words, math.MaxInt, want)
	nearestIs(t, l, long, words, 4999999, want[:4])
}

func TestArgumentsRemain(t *testing.T) { // P2: also what stands behind them; and the same call has the same result, even if the first one was spoilt
	r := rand.New(rand.NewSource(33))
	for range 300 {
		l := someSlips(r, "abcd")
		room := append(slices.Clone(l.Alike), api.Alike{A: 'A', B: 'A', Cost: -1}, api.Alike{Cost: 7})
		list := []string{"", "abcd", "dcba", "aabb", randomText(r, "abcd", 9), randomText(r, "abcd", 9), "\x00", "abcd"}
		given, words := l, list[:7]
		given.Alike = room[:len(l.Alike)]
		alike, all := slices.Clone(room), slices.Clone(list)
		typed, most := randomText(r, "abcd", 9), r.Intn(5000)
		valid := slip.Valid(given)
		d := slip.Distance(given, typed, words[4])
		found := slip.Nearest(given, typed, words, most)
		kept := slices.Clone(found)
		for i := range found {
			found[i] = api.Found{Word: -1, Cost: -1}
		}
		if !slices.Equal(room, alike) || !slices.Equal(list, all) {
			t.Fatalf("%v became %v, or %q %q", alike, room, all, list)
		}
		validIs(t, given, valid)
		distanceIs(t, given, typed, words[4], d)
		nearestIs(t, given, typed, words, most, kept)
		nearestIs(t, l, typed, words, most, kept)
	}
}

func TestSlipsThatAreNotValid(t *testing.T) { // P1: the results are unspecified, but all calls return
	huge := make([]api.Alike, 1000)
	for i := range huge {
		huge[i] = api.Alike{A: byte(i), B: byte(i / 3), Cost: i - 500}
	}
	for _, cost := range []int{math.MinInt, -1, 0, 1001, math.MaxInt} {
		for _, alike := range [][]api.Alike{nil, {{}}, {{A: 'a', B: 'a', Cost: cost}}, huge} {
			for _, l := range []api.Slips{{Alike: alike}, {Swap: cost, Drop: cost, Add: cost, Put: cost, Alike: alike}, {Swap: cost, Drop: 1, Add: 1, Put: 1, Alike: alike}} {
				validIs(t, l, false)
				for _, typed := range []string{"", "a", "abba", "\x00\xff"} {
					slip.Distance(l, typed, "abab")
					slip.Distance(l, typed, "")
					slip.Nearest(l, typed, []string{"", "abab", "\xff"}, cost)
				}
			}
		}
	}
}
