package output_test

import (
	"math/rand"
	"strings"
	"testing"

	"syllabary/api"
)

func TestCostWithoutRoute(t *testing.T) { // P5.1: no route takes the input, or none that does puts out the text, or none of these is whole
	s := soundScheme(t, "scheme 2 1,rule 0 0 a A 1,rule 0 1 a B 2,rule 1 0 b - 3")
	costIs(t, s, "", "", 0)
	costIs(t, s, "", "A", -1)
	costIs(t, s, "a", "A", 1)
	costIs(t, s, "a", "B", -1)
	costIs(t, s, "ab", "B", 5)
	costIs(t, s, "aba", "BA", 6)
	for _, out := range []string{"", "b", "BB", "AB", "BA", "B ", " B", "B\x00", "é", "\xff", "-", strings.Repeat("B", 1<<20)} {
		costIs(t, s, "ab", out, -1)
	}
	for _, in := range []string{"b", "ba", "aa", "abb", "c", "abab"} {
		costIs(t, s, in, "B", -1)
	}
}

func TestCostsOfZero(t *testing.T) { // P5.1: they are costs, and not the want of one
	s := soundScheme(t, "scheme 1 1,rule 0 0 a A 0,rule 0 0 b - 0")
	costIs(t, s, "", "", 0)
	costIs(t, s, "ab", "A", 0)
	costIs(t, s, "bb", "", 0)
	costIs(t, s, "bb", "A", -1)
	bestIs(t, s, "bb", 50, found("", 0), api.OK)
}

func TestCostHasNoLimit(t *testing.T) { // P5.1: also for inputs that Best refuses
	s := soundScheme(t, "scheme 1 1,rule 0 0 a A 1,rule 0 0 a B 3,rule 0 0 a - 5")
	r := rand.New(rand.NewSource(11))
	for range 100 {
		in := strings.Repeat("a", 20+r.Intn(21))
		tooMany(t, s, in)
		want, out := 0, ""
		for range r.Intn(len(in) + 1) {
			out += pick(r, []string{"A", "B"})
			want += map[byte]int{'A': 1, 'B': 3}[out[len(out)-1]]
		}
		costIs(t, s, in, out, want+5*(len(in)-len(out)))
		costIs(t, s, in, out+strings.Repeat("A", len(in)-len(out)+1), -1)
		costIs(t, s, in, out+"C", -1)
	}
}

func TestCostOfLongestOutputs(t *testing.T) { // P5.1, P1: seven rules that take nothing before each letter, and after the last one
	s := api.Scheme{Modes: 8, Accept: 255}
	for m := range 7 {
		for n := range 5 {
			s.Rules = append(s.Rules, api.Rule{From: m, To: m + 1, Out: "xxxx"[:n], Cost: n})
		}
	}
	for n := range 5 {
		s.Rules = append(s.Rules, api.Rule{From: 7, To: 0, In: "a", Out: "xxxx"[:n], Cost: 2 * n})
	}
	in := strings.Repeat("a", 40)
	tooMany(t, s, in)
	const silent, most = 41 * 7 * 4, 41*7*4 + 40*4
	for _, n := range []int{0, 1, 4, 500, 999, silent - 1, silent} {
		costIs(t, s, in, strings.Repeat("x", n), n)
	}
	for _, n := range []int{silent + 1, silent + 100, most - 1, most} {
		costIs(t, s, in, strings.Repeat("x", n), 2*n-silent)
	}
	costIs(t, s, in, strings.Repeat("x", most+1), -1)
	costIs(t, s, in, strings.Repeat("x", 999)+"y", -1)
	goesIs(t, s, in, true)
}

func TestCostAgainstRoutes(t *testing.T) { // P5.1, P5.2: for each route that is whole; others do not count
	r := rand.New(rand.NewSource(12))
	checked, unended := 0, 0
	for modes := 1; modes <= 8; modes++ {
		for range 200 {
			s := anyShape(r, modes).random(r)
			in := randomInput(r, s, 6)
			w, few := enumerated(s, in, 2000)
			if !few {
				continue
			}
			for at := range w.Places[len(in)] {
				costIs(t, s, in, at.Out, w.cost(at.Out))
				checked++
				if _, is := w.Least[at.Out]; !is {
					unended++
				}
			}
			for _, at := range w.Places[:len(in)] {
				for other := range at {
					costIs(t, s, in, other.Out, w.cost(other.Out))
				}
			}
		}
	}
	if checked < 2000 || unended < 300 {
		t.Fatalf("%d outputs, %d of routes that are not whole only", checked, unended)
	}
}
