package single_test

import (
	"slices"
	"strings"
	"testing"

	"syllabary/api"
	"syllabary/flaw"
)

// round has rules that lead through the modes from first on, and round, and take the letter a so many times as lengths says. The first one of them puts out out.
func round(first int, out string, lengths []int) []api.Rule {
	var l []api.Rule
	for i, n := range lengths {
		l = append(l, api.Rule{From: first + i, To: first + (i+1)%len(lengths), In: "aaaa"[:n]})
	}
	l[0].Out = out
	return l
}

func sum(l []int) int {
	n := 0
	for _, x := range l {
		n += x
	}
	return n
}

// apart has two rounds, of three and of four modes, that begin after so many letters with different outputs. Each of them has one accepting mode, which comes after so many of its rules.
func apart(starts [2]int, three, four []int, accept [2]int) api.Scheme {
	first := []api.Rule{
		{From: 0, To: 1, In: "aaaa"[:starts[0]], Out: "A", Cost: 5},
		{From: 0, To: 4, In: "aaaa"[:starts[1]], Out: "B", Cost: 9},
	}
	return api.Scheme{Modes: 8, Accept: uint8(2<<accept[0] | 16<<accept[1]), Rules: slices.Concat(first, round(1, "", three), round(4, "C", four))}
}

// meet returns the least number from which both rounds lead back to the letters they start with.
func meet(a, roundA, b, roundB int) int {
	n := 0
	for n < a || n < b || (n-a)%roundA != 0 || (n-b)%roundB != 0 {
		n++
	}
	return n
}

func TestLongInputs(t *testing.T) { // P8.7: up to the greatest length, and no more
	three, four := []int{4, 4, 3}, []int{4, 2, 4, 3}
	lengths := map[int]int{}
	longer := 0
	for i := range 4 * 4 * 3 * 4 {
		starts, accept := [2]int{1 + i%4, 1 + i/4%4}, [2]int{i / 16 % 3, i / 48}
		s := apart(starts, three, four, accept)
		n := meet(starts[0]+sum(three[:accept[0]]), 11, starts[1]+sum(four[:accept[1]]), 13)
		lengths[n]++
		if n > 40 {
			longer++
		}
		longIs(t, s, strings.Repeat("a", n))
	}
	if lengths[38] == 0 || lengths[39] == 0 || lengths[40] == 0 || lengths[41] == 0 || longer < 20 {
		t.Fatalf("the numbers of letters: %v", lengths)
	}
}

// longIs checks the results for a sound scheme whose first input with two outputs is first, unless it has more than 40 letters.
func longIs(t *testing.T, s api.Scheme, first string) {
	t.Helper()
	if err := flaw.Sound(s); err != api.OK {
		t.Fatalf("%+v: %v", s, err)
	}
	if len(outputs(s, first)) != 2 {
		t.Fatalf("%+v: %q has the outputs %v", s, first, outputs(s, first))
	}
	if found, twice, known := crowded(s, "abc"); !known || twice != (len(first) <= 40) || twice && found != first {
		t.Fatalf("%+v: the search found %q, %v, not %q", s, found, twice, first)
	}
	is(t, s, first, len(first) <= 40)
}

// drifting has two rounds that put out an A each time, and take so many letters. They begin with the letters b and end with the letters c, and until then nothing else is put out.
func drifting(begin, end string, first, second []int) api.Scheme {
	s := api.Scheme{Modes: 8, Accept: 1, Rules: []api.Rule{{From: 0, To: 1, In: begin}, {From: 0, To: 5, In: begin}, {From: 1, To: 0, In: end}, {From: 5, To: 0, In: end}}}
	s.Rules = slices.Concat(s.Rules, round(1, "A", first), round(5, "A", second))
	return s
}

func TestOutputsThatDrift(t *testing.T) { // P8.7: they are equal first, when the same places are met without a round, and different after both rounds
	for _, c := range []struct {
		first, second []int
		both          int
	}{
		{[]int{1}, []int{2}, 2},
		{[]int{3}, []int{4}, 12},
		{[]int{4, 3}, []int{4, 1}, 35},
		{[]int{4, 4, 1}, []int{4}, 36},
		{[]int{4, 4, 4, 1}, []int{3}, 39},
		{[]int{4, 4}, []int{4, 1}, 40},
		{[]int{4, 3, 3, 3}, []int{4, 4, 4}, 156},
	} {
		for begin := 1; begin <= 4; begin++ {
			for end := 1; end <= 4; end++ {
				b, e := "bbbb"[:begin], "cccc"[:end]
				longIs(t, drifting(b, e, c.first, c.second), b+strings.Repeat("a", c.both)+e)
			}
		}
	}
}

func TestFarAhead(t *testing.T) { // P8.7: one of the routes is ahead by many bytes, and the other one puts out the same later, or something else
	ahead := func(last string) api.Scheme {
		return parsedSound(t, "scheme 8 128,"+
			"rule 0 1 aaaa wxYZ 0,rule 1 2 aaaa wxYZ 0,rule 2 3 aaaa - 0,rule 3 7 aaaa - 0,"+
			"rule 0 4 aaaa - 1,rule 4 5 aaaa - 1,rule 5 6 aaaa wxYZ 1,rule 6 7 aaaa "+last+" 1,rule 7 7 bbbb 9 0")
	}
	is(t, ahead("wxYZ"), "", false)
	for _, last := range []string{"AxYZ", "wxYA", "wxY", "-"} {
		longIs(t, ahead(last), strings.Repeat("a", 16))
	}
}

func TestFarAheadInVain(t *testing.T) { // P8.7: up to 39 letters after which the outputs are different, but only one of the routes takes the letter that follows
	s := parsedSound(t, "scheme 4 4,rule 0 1 a wxYZ 0,rule 1 1 a wxYZ 0,rule 1 2 b - 0,rule 0 3 a - 0,rule 3 3 a - 0,rule 3 2 c - 0")
	for n := 1; n < 40; n++ {
		in := strings.Repeat("a", n)
		if len(outputs(s, in+"b")) != 1 || len(outputs(s, in+"c")) != 1 {
			t.Fatalf("%q and one letter more: %v, %v", in, outputs(s, in+"b"), outputs(s, in+"c"))
		}
	}
	is(t, s, "", false)
	s.Rules = append(s.Rules, api.Rule{From: 3, To: 2, In: "b"})
	is(t, s, "ab", true)
}
