package output_test

import (
	"math/rand"
	"slices"
	"strings"
	"testing"

	"syllabary/api"
	"syllabary/output"
)

// exampleScheme is the scheme of the section 'Examples'.
func exampleScheme() api.Scheme {
	return api.Scheme{Modes: 1, Accept: 1, Rules: []api.Rule{
		{In: "a", Out: "a", Cost: 0}, {In: "a", Out: "A", Cost: 1}, {In: "aa", Out: "B", Cost: 1}, {In: "b", Out: "", Cost: 5},
	}}
}

func TestExamples(t *testing.T) { // P5.1
	s := exampleScheme()
	bestIs(t, s, "a", 5, found("a", 0, "A", 1), api.OK)
	bestIs(t, s, "aa", 3, found("aa", 0, "Aa", 1, "B", 1), api.OK)
	bestIs(t, s, "aa", 4, found("aa", 0, "Aa", 1, "B", 1, "aA", 1), api.OK)
	bestIs(t, s, "aa", 5, found("aa", 0, "Aa", 1, "B", 1, "aA", 1, "AA", 2), api.OK)
	bestIs(t, s, "aa", 50, found("aa", 0, "Aa", 1, "B", 1, "aA", 1, "AA", 2), api.OK)
	bestIs(t, s, "ba", 1, found("a", 5), api.OK)
	costIs(t, s, "aa", "aA", 1)
	costIs(t, s, "a", "b", -1)
	bestIs(t, s, "c", 5, nil, api.ErrNone)
	bestIs(t, s, "A", 5, nil, api.ErrArg)
	goesIs(t, s, "ab", true)
	goesIs(t, s, "ac", false)
}

func TestExampleOfTheWhole(t *testing.T) { // DOC.md, example 2
	s := soundScheme(t, "scheme 1 1,rule 0 0 a A 0,rule 0 0 ab B 0,rule 0 0 b - 0")
	bestIs(t, s, "ab", 50, found("A", 0, "B", 0), api.OK)
}

func TestBestAndCostAgainstRoutes(t *testing.T) { // P5.1, P5.2, P5.3, P5.4: a search through all routes, for one to eight modes
	r := rand.New(rand.NewSource(1))
	several, none, silent, long := 0, 0, 0, 0
	for modes := 1; modes <= 8; modes++ {
		for range 1200 {
			s := anyShape(r, modes).random(r)
			in := randomInput(r, s, 8)
			w, few := enumerated(s, in, 5000)
			if !few {
				continue
			}
			agrees(t, s, in, w)
			if len(w.Least) > 3 {
				several++
			}
			if len(w.Least) == 0 {
				none++
			}
			if _, is := w.Least[""]; is && in != "" {
				silent++
			}
			if len(in) > 5 && len(w.Least) > 0 {
				long++
			}
		}
	}
	if several < 500 || none < 500 || silent < 200 || long < 800 {
		t.Fatalf("too few inputs of a kind: with several outputs %d, with none %d, with nothing as output %d, long ones %d", several, none, silent, long)
	}
}

func TestBestAndCostAgainstTables(t *testing.T) { // P5.1, P5.8: with many rules and long inputs, where there are many routes
	r := rand.New(rand.NewSource(2))
	many, big := 0, 0
	for range 100 {
		h := anyShape(r, 1+r.Intn(8))
		h.Most = 64
		s := h.random(r)
		in := randomInput(r, s, 40)
		w := tabled(s, in)
		if w.most() > 2000 {
			bestIs(t, s, in, 1, nil, api.ErrBig)
			bestIs(t, s, in, 50, nil, api.ErrBig)
			big++
			continue
		}
		agrees(t, s, in, w)
		if w.most() > 100 {
			many++
		}
	}
	if many < 15 || big < 15 {
		t.Fatalf("%d inputs with many pairs, %d with too many", many, big)
	}
}

func TestTruthsAreTheSame(t *testing.T) { // the two oracles against each other
	r := rand.New(rand.NewSource(3))
	for range 500 {
		s := anyShape(r, 1+r.Intn(8)).random(r)
		in := randomInput(r, s, 7)
		w, few := enumerated(s, in, 2000)
		if !few {
			continue
		}
		v := tabled(s, in)
		for i := range w.Places {
			if len(w.Places[i]) != len(v.Places[i]) {
				t.Fatalf("%+v, %q: at place %d, %v and %v", s, in, i, w.Places[i], v.Places[i])
			}
			for at, cost := range w.Places[i] {
				if other, is := v.Places[i][at]; !is || cost != other {
					t.Fatalf("%+v, %q: at place %d, %v costs %d and %d", s, in, i, at, cost, other)
				}
			}
		}
	}
}

func TestResultsOfRoutes(t *testing.T) { // P5.2: the output of each whole route is among the results for no more, or is not among the first k
	r := rand.New(rand.NewSource(4))
	among, beyond := 0, 0
	for range 3000 {
		s := anyShape(r, 1+r.Intn(8)).random(r)
		run := wholeRoute(t, r, s, r.Intn(10))
		if len(run.In) > 40 {
			continue
		}
		k := 1 + r.Intn(6)
		l, err := output.Best(s, run.In, k)
		if err == api.ErrBig {
			continue
		}
		if err != api.OK {
			t.Fatalf("Best(%+v, %q, %d) = %v, %v, but there is %+v", s, run.In, k, l, err, run)
		}
		if cost := output.Cost(s, run.In, run.Out); cost < 0 || cost > run.Cost {
			t.Fatalf("Cost(%+v, %q, %q) = %d, but there is %+v", s, run.In, run.Out, cost, run)
		}
		i := slices.IndexFunc(l, func(a api.Result) bool { return a.Text == run.Out })
		if i >= 0 && l[i].Cost > run.Cost || i < 0 && (len(l) < k || l[k-1].Cost > run.Cost) {
			t.Fatalf("Best(%+v, %q, %d) = %v, but there is %+v", s, run.In, k, l, run)
		}
		if i >= 0 {
			among++
		} else {
			beyond++
		}
	}
	if among < 1000 || beyond < 50 {
		t.Fatalf("%d outputs were among the results, %d beyond them", among, beyond)
	}
}

func TestOrderOfResults(t *testing.T) { // P5.3, P5.4: for all k, strictly ordered, and the beginning of those for a greater k
	r := rand.New(rand.NewSource(5))
	full, ties := 0, 0
	for range 400 {
		h := anyShape(r, 1+r.Intn(3))
		h.Most = 20
		s := h.random(r)
		in := randomInput(r, s, 6)
		whole, err := output.Best(s, in, 50)
		if err != api.OK {
			continue
		}
		for i, a := range whole {
			if output.Cost(s, in, a.Text) != a.Cost {
				t.Fatalf("Best(%+v, %q, 50) = %v; Cost(%q) = %d", s, in, whole, a.Text, output.Cost(s, in, a.Text))
			}
			if i == 0 {
				continue
			}
			before := whole[i-1]
			if before.Cost > a.Cost || before.Cost == a.Cost && before.Text >= a.Text {
				t.Fatalf("Best(%+v, %q, 50) = %v", s, in, whole)
			}
			if before.Cost == a.Cost {
				ties++
			}
		}
		for k := 1; k <= 50; k++ {
			bestIs(t, s, in, k, whole[:min(k, len(whole))], api.OK)
		}
		if len(whole) == 50 {
			full++
		}
	}
	if full < 20 || ties < 500 {
		t.Fatalf("%d full lists, %d ties", full, ties)
	}
}

func TestTextsAreOrderedByBytes(t *testing.T) { // P5.3: digits, capital letters, small letters; beginnings first; by Cost before that
	s := api.Scheme{Modes: 1, Accept: 1}
	texts := []string{"", "0", "00", "09", "0A", "0a", "1", "9", "A", "A0", "AA", "Aa", "B", "Z", "ZZZZ", "a", "a0", "aA", "aa", "aaaa", "ab", "b", "z", "zzzz"}
	var want []api.Result
	for _, text := range texts {
		s.Rules = append(s.Rules, api.Rule{In: "k", Out: text, Cost: 7})
		want = append(want, api.Result{Text: text, Cost: 7})
	}
	r := rand.New(rand.NewSource(6))
	for range 20 {
		r.Shuffle(len(s.Rules), func(i, j int) { s.Rules[i], s.Rules[j] = s.Rules[j], s.Rules[i] })
		bestIs(t, s, "k", 50, want, api.OK)
	}
	for _, i := range []int{3, 8, 23} {
		more := s
		more.Rules = append(slices.Clone(s.Rules), api.Rule{In: "k", Out: texts[i], Cost: 6})
		first := slices.Concat(found(texts[i], 6), want[:i], want[i+1:])
		bestIs(t, more, "k", 50, first, api.OK)
		bestIs(t, more, "k", 2, first[:2], api.OK)
	}
}

func TestCostsAreOrderedAsNumbers(t *testing.T) { // P5.3: 9 comes before 10
	s := soundScheme(t, "scheme 1 1,rule 0 0 a A 10,rule 0 0 a B 9,rule 0 0 a C 1000,rule 0 0 a D 999,rule 0 0 a E 100")
	bestIs(t, s, "a", 50, found("B", 9, "A", 10, "E", 100, "D", 999, "C", 1000), api.OK)
}

func TestOutputsComeOnce(t *testing.T) { // P5.1: with the least cost of several routes to several accepting modes
	s := soundScheme(t, "scheme 3 7,rule 0 0 a A 9,rule 0 1 a A 4,rule 0 1 a A 5,rule 0 2 a A 6,rule 0 2 a - 8,rule 1 2 - - 1,rule 2 0 b - 0")
	for accept, want := range [][]api.Result{
		1: found("A", 9), 2: found("A", 4), 3: found("A", 4), 4: found("A", 5, "", 8), 5: found("A", 5, "", 8), 6: found("A", 4, "", 8), 7: found("A", 4, "", 8),
	} {
		if accept > 0 {
			s.Accept = uint8(accept)
			bestIs(t, s, "a", 50, want, api.OK)
			bestIs(t, s, "a", 1, want[:1], api.OK)
			costIs(t, s, "a", "A", want[0].Cost)
		}
	}
}

func TestEmptyInput(t *testing.T) { // P5.1: the empty route, if the mode 0 is accepting, and rules that take nothing
	for modes := 1; modes <= 8; modes++ {
		for accept := 1; accept < 1<<modes; accept += 2 {
			s := api.Scheme{Modes: modes, Accept: uint8(accept)}
			bestIs(t, s, "", 1, found("", 0), api.OK)
			bestIs(t, s, "a", 1, nil, api.ErrNone)
		}
	}
	s := soundScheme(t, "scheme 2 2,rule 0 1 a A 1")
	bestIs(t, s, "", 50, nil, api.ErrNone)
	s = soundScheme(t, "scheme 3 6,rule 0 1 - A 8,rule 1 2 - B 5,rule 0 2 - AB 14,rule 0 1 - - 8")
	bestIs(t, s, "", 50, found("", 8, "A", 8, "AB", 13, "B", 13), api.OK)
}

func TestRulesThatTakeNothing(t *testing.T) { // P5.1: before, between and after letters, and up to seven of them in a row
	s := soundScheme(t, "scheme 3 7,rule 0 1 - x 1,rule 1 2 a y 1,rule 2 0 - z 1,rule 0 0 b - 0")
	bestIs(t, s, "", 50, found("", 0, "x", 1), api.OK)
	bestIs(t, s, "a", 50, found("xy", 2, "xyz", 3, "xyzx", 4), api.OK)
	bestIs(t, s, "baab", 50, found("xyzxyz", 6, "xyzxyzx", 7), api.OK)
	row := api.Scheme{Modes: 8, Accept: 128, Rules: []api.Rule{{From: 7, To: 0, In: "a", Cost: 1000}}}
	for m := range 7 {
		row.Rules = append(row.Rules, api.Rule{From: m, To: m + 1, Out: "01234567"[m : m+1], Cost: 1000})
	}
	for n := range 41 {
		want := found(strings.Repeat("0123456", n+1), 7000+8000*n)
		bestIs(t, row, strings.Repeat("a", n), 50, want, api.OK)
		costIs(t, row, strings.Repeat("a", n), want[0].Text, want[0].Cost)
	}
	slices.Reverse(row.Rules)
	bestIs(t, row, "aa", 50, found("012345601234560123456", 23000), api.OK)
}

func TestDetoursThatTakeNothing(t *testing.T) { // P5.1: what is found with few rules becomes cheaper with more of them, and so does what follows
	s := soundScheme(t, "scheme 5 16,rule 0 3 a A 900,rule 0 1 a A 1,rule 1 2 - - 1,rule 2 3 - - 1,rule 3 4 - B 1,rule 1 3 - - 50")
	bestIs(t, s, "a", 50, found("AB", 4), api.OK)
	costIs(t, s, "a", "AB", 4)
	s.Accept = 24
	bestIs(t, s, "a", 50, found("A", 3, "AB", 4), api.OK)
}

func TestRulesThatPutOutNothing(t *testing.T) { // P5.1: alone, and among others
	s := soundScheme(t, "scheme 1 1,rule 0 0 a - 3,rule 0 0 ab - 1,rule 0 0 b B 2,rule 0 0 b - 7")
	bestIs(t, s, "aaa", 50, found("", 9), api.OK)
	bestIs(t, s, "ab", 50, found("", 1, "B", 5), api.OK)
	bestIs(t, s, "aab", 50, found("", 4, "B", 8), api.OK)
	costIs(t, s, "aab", "", 4)
	costIs(t, s, "aab", "BB", -1)
}

func TestRulesOfAllLengths(t *testing.T) { // P5.1: up to four letters, at all places of the longest inputs, whole and cut off
	for n := 1; n <= 4; n++ {
		s := soundScheme(t, "scheme 1 1,rule 0 0 x x 1,rule 0 0 y y 1")
		s.Rules = append(s.Rules, api.Rule{In: "abcd"[:n], Out: "K", Cost: 10})
		for before := range 41 - n {
			x, y := strings.Repeat("x", before), strings.Repeat("y", 40-n-before)
			bestIs(t, s, x+"abcd"[:n]+y, 50, found(x+"K"+y, 50-n), api.OK)
			bestIs(t, s, x+y, 50, found(x+y, 40-n), api.OK)
			for m := 1; m < n; m++ {
				bestIs(t, s, x+"abcd"[:m]+y, 50, nil, api.ErrNone)
			}
		}
	}
}
