package slip_test

import (
	"math"
	"slices"
	"testing"

	"syllabary/api"
	"syllabary/slip"
)

func validIs(t *testing.T, l api.Slips, want bool) {
	t.Helper()
	if got := slip.Valid(l); got != want {
		t.Fatalf("Valid(%+v) = %v", l, got)
	}
}

// letterPairs returns n elements with different pairs of letters.
func letterPairs(n int) []api.Alike {
	var l []api.Alike
	for a := byte('a'); a <= 'z'; a++ {
		for b := a + 1; b <= 'z' && len(l) < n; b++ {
			l = append(l, api.Alike{A: a, B: b, Cost: 1})
		}
	}
	return l
}

// costCases has costs, and whether they are in the range.
var costCases = []struct {
	cost  int
	valid bool
}{
	{0, false}, {1, true}, {2, true}, {500, true}, {999, true}, {1000, true}, {1001, false}, {1002, false}, {2000, false},
	{-1, false}, {-2, false}, {-1000, false}, {math.MaxInt, false}, {math.MinInt, false}, {1 + 1<<32, false}, {1 + 1<<16, false}, {1 + 1<<10, false}, {257, true},
}

func TestCosts(t *testing.T) { // G1, P7.1: each of the four, while the others are least, in the middle, or greatest
	for _, x := range costCases {
		for _, other := range []int{1, 7, 1000} {
			for i := range 4 {
				c := [4]int{other, other, other, other}
				c[i] = x.cost
				l := api.Slips{Swap: c[0], Drop: c[1], Add: c[2], Put: c[3]}
				validIs(t, l, x.valid)
				l.Alike = letterPairs(20)
				validIs(t, l, x.valid)
			}
		}
		validIs(t, api.Slips{Swap: x.cost, Drop: x.cost, Add: x.cost, Put: x.cost}, x.valid)
	}
	validIs(t, api.Slips{}, false)
	validIs(t, api.Slips{Alike: letterPairs(3)}, false)
	validIs(t, exampleSlips(), true)
}

// withAlike returns slips that are valid if the elements are.
func withAlike(alike ...api.Alike) api.Slips {
	return api.Slips{Swap: 1, Drop: 1, Add: 1, Put: 1, Alike: alike}
}

func TestCostsOfAlike(t *testing.T) { // G1, P7.1: alone, and in any place; they may be greater than Put
	for _, x := range costCases {
		validIs(t, withAlike(api.Alike{A: 'a', B: 'b', Cost: x.cost}), x.valid)
		validIs(t, withAlike(api.Alike{A: 'z', B: 'y', Cost: x.cost}), x.valid)
		for i := range 20 {
			alike := letterPairs(20)
			alike[i].Cost = x.cost
			validIs(t, withAlike(alike...), x.valid)
		}
	}
}

func TestNumbersOfAlike(t *testing.T) { // G1, P7.1: 20, and not 21
	validIs(t, withAlike(), true)
	validIs(t, withAlike([]api.Alike{}...), true)
	for n := range 326 {
		validIs(t, withAlike(letterPairs(n)...), n <= 20)
	}
	validIs(t, withAlike(make([]api.Alike, 1<<20)...), false)
	validIs(t, withAlike(letterPairs(325)[:20]...), true)
}

func TestLettersOfAlike(t *testing.T) { // G1, P7.1: all pairs of bytes; only a to z, and different ones
	small := func(c int) bool { return 'a' <= c && c <= 'z' }
	xy := api.Alike{A: 'x', B: 'y', Cost: 1}
	for a := range 256 {
		for b := range 256 {
			x := api.Alike{A: byte(a), B: byte(b), Cost: 9}
			want := small(a) && small(b) && a != b
			validIs(t, withAlike(x), want)
			if a == 'x' && b == 'y' || a == 'y' && b == 'x' {
				want = false
			}
			validIs(t, withAlike(xy, x), want)
			validIs(t, withAlike(x, xy), want)
		}
	}
	for i := range 20 {
		for _, x := range []api.Alike{{A: 'a', B: 'a', Cost: 1}, {A: 'z', B: 'z', Cost: 1}, {A: 'A', B: 'a', Cost: 1}, {A: 'a', B: 'A', Cost: 1}, {A: '`', B: 'a', Cost: 1}, {A: 'a', B: '{', Cost: 1}, {A: 'a', Cost: 1}, {B: 'a', Cost: 1}, {A: '0', B: 'a', Cost: 1}} {
			alike := letterPairs(20)
			alike[i] = x
			validIs(t, withAlike(alike...), false)
		}
	}
}

func TestSameLettersTwice(t *testing.T) { // G1, P7.1: in the same order or the other one, in any two places, for any costs
	for n := 2; n <= 20; n++ {
		for i := range n {
			for j := range n {
				if i == j {
					continue
				}
				for _, cost := range []int{1, 2, 1000} {
					alike := letterPairs(n)
					alike[j] = alike[i]
					alike[j].Cost = cost
					validIs(t, withAlike(alike...), false)
					alike[j].A, alike[j].B = alike[j].B, alike[j].A
					validIs(t, withAlike(alike...), false)
					alike[j] = api.Alike{A: 'y', B: 'z', Cost: cost}
					validIs(t, withAlike(alike...), true)
				}
			}
		}
	}
}

func TestLettersInSeveralPairs(t *testing.T) { // G1, P7.1: a letter may be like several others, on either side
	for c := byte('a'); c <= 'z'; c++ {
		var first, second []api.Alike
		for d := byte('a'); d <= 'z' && len(first) < 20; d++ {
			if c != d {
				first = append(first, api.Alike{A: c, B: d, Cost: 1})
				second = append(second, api.Alike{A: d, B: c, Cost: 1000})
			}
		}
		both := slices.Concat(first[:10], second[10:])
		validIs(t, withAlike(first...), true)
		validIs(t, withAlike(second...), true)
		validIs(t, withAlike(both...), true)
		both[19] = second[9]
		validIs(t, withAlike(both...), false)
	}
	validIs(t, withAlike(api.Alike{A: 'a', B: 'd', Cost: 1}, api.Alike{A: 'b', B: 'c', Cost: 1}), true) // the same sums
	validIs(t, withAlike(api.Alike{A: 'a', B: 'b', Cost: 1}, api.Alike{A: 'b', B: 'c', Cost: 1}, api.Alike{A: 'c', B: 'a', Cost: 1}), true)
}
