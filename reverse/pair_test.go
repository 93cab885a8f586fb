package reverse_test

import (
	"math/rand"
	"slices"
	"strings"
	"testing"

	"syllabary/api"
	"syllabary/reverse"
	"syllabary/route"
)

func TestPairAgainstEnumeration(t *testing.T) { // P6.1, P6.5: all routes, direct or not, for one to eight modes
	r := rand.New(rand.NewSource(21))
	winding, none, long := 0, 0, 0
	for modes := 1; modes <= 8; modes++ {
		for range 1500 {
			s := anyShape(r, modes).random(r)
			in, out := randomPair(r, s, 8)
			want, is, few := searchedPair(s, in, out, 3000)
			if !few {
				continue
			}
			pairIs(t, s, in, out, want, is)
			switch {
			case !is:
				none++
			case !isDirect(s, want):
				winding++
			}
			if len(want) > 5 {
				long++
			}
		}
	}
	if winding < 400 || none < 1000 || long < 400 {
		t.Fatalf("%d routes that are not direct, %d pairs without routes, %d long routes", winding, none, long)
	}
}

// randomPair returns what a random route takes and puts out; now and then a part is missing, or the route is not whole.
func randomPair(r *rand.Rand, s api.Scheme, n int) (in, out string) {
	for range 5 {
		_, run, fits := wholeRoute(r, s, r.Intn(n+1))
		if !fits {
			run = route.Run(s, randomRoute(r, s, r.Intn(n+1)))
		}
		in, out = run.In[:min(len(run.In), 40)], run.Out[:min(len(run.Out), 20)]
		if in != "" && out != "" {
			break
		}
	}
	if r.Intn(10) == 0 {
		in = in[:r.Intn(len(in)+1)]
	}
	if r.Intn(10) == 0 {
		out = out[:r.Intn(len(out)+1)]
	}
	return in, out
}

func TestPairAgainstTables(t *testing.T) { // P6.1, P6.5: with many rules, where there are many routes
	r := rand.New(rand.NewSource(22))
	none, long, winding := 0, 0, 0
	for modes := 1; modes <= 8; modes++ {
		for range 60 {
			h := anyShape(r, modes)
			h.Most = 64
			s := h.random(r)
			in, out := randomPair(r, s, 16)
			want, is := tabledPair(s, in, out)
			pairIs(t, s, in, out, want, is)
			switch {
			case !is:
				none++
			case !isDirect(s, want):
				winding++
			}
			if len(want) > 10 {
				long++
			}
		}
	}
	if none < 20 || long < 80 || winding < 80 {
		t.Fatalf("%d pairs without routes, %d long routes, %d that are not direct", none, long, winding)
	}
}

func TestPairsAreTheSame(t *testing.T) { // the two oracles against each other
	r := rand.New(rand.NewSource(23))
	for range 1500 {
		s := anyShape(r, 1+r.Intn(8)).random(r)
		in, out := randomPair(r, s, 7)
		a, is, few := searchedPair(s, in, out, 2000)
		b, also := tabledPair(s, in, out)
		if few && (is != also || !slices.Equal(a, b)) {
			t.Fatalf("%+v, %q, %q: %v, %v; %v, %v", s, in, out, a, is, b, also)
		}
	}
}

func TestPairsOfRoutes(t *testing.T) { // P6.5: the route of a pair has its In and Out, is whole, and costs no more than any route
	r := rand.New(rand.NewSource(24))
	same, others := 0, 0
	for range 5000 {
		s := anyShape(r, 1+r.Intn(8)).random(r)
		l, run, fits := wholeRoute(r, s, r.Intn(16))
		if !fits {
			continue
		}
		got, err := reverse.Pair(s, run.In, run.Out)
		is := route.Run(s, got)
		if err != api.OK || !is.Ok || is.In != run.In || is.Out != run.Out || !accepting(s, is.Mode) || is.Cost > run.Cost {
			t.Fatalf("Pair(%+v, %q, %q) = %v, %v, which is %+v; but there is %v", s, run.In, run.Out, got, err, is, l)
		}
		if is.Cost == run.Cost && (len(got) > len(l) || len(got) == len(l) && slices.Compare(got, l) > 0) {
			t.Fatalf("Pair(%+v, %q, %q) = %v comes after %v", s, run.In, run.Out, got, l)
		}
		if slices.Equal(l, got) {
			same++
		} else {
			others++
		}
	}
	if same < 1000 || others < 300 {
		t.Fatalf("%d routes came first, %d did not", same, others)
	}
}

func TestCostComesBeforeRules(t *testing.T) { // P6.1
	s := parsedScheme(t, "scheme 1 1,rule 0 0 ab AB 3,rule 0 0 a A 1,rule 0 0 b B 1")
	pairIs(t, s, "ab", "AB", []int{1, 2}, true)
	s.Rules[0].Cost = 2
	pairIs(t, s, "ab", "AB", []int{0}, true)
	s.Rules = append(s.Rules, api.Rule{In: "ab", Out: "AB", Cost: 1})
	pairIs(t, s, "ab", "AB", []int{3}, true)
	s.Rules = append(s.Rules, api.Rule{In: "a", Out: "A", Cost: 0}, api.Rule{In: "b", Out: "B", Cost: 0})
	pairIs(t, s, "ab", "AB", []int{4, 5}, true)
	pairIs(t, s, "aab", "AAB", []int{4, 4, 5}, true)
}

func TestFirstIndexDecides(t *testing.T) { // P6.1: the first difference counts, and 9 comes before 10
	s := parsedScheme(t, "scheme 4 8,rule 1 3 b B 0,rule 2 3 b B 0,rule 0 2 a A 0,rule 0 1 a A 0")
	pairIs(t, s, "ab", "AB", []int{2, 1}, true)
	s.Rules[2], s.Rules[3] = s.Rules[3], s.Rules[2]
	pairIs(t, s, "ab", "AB", []int{2, 0}, true)
	s = parsedScheme(t, "scheme 2 2")
	for i := range 12 {
		s.Rules = append(s.Rules, api.Rule{From: 0, To: 1, In: "z", Cost: i})
	}
	s.Rules[9] = api.Rule{From: 0, To: 0, In: "a", Out: "A", Cost: 3}
	s.Rules[10] = api.Rule{From: 0, To: 1, In: "a", Out: "A", Cost: 3}
	s.Rules[11] = api.Rule{From: 0, To: 1, In: "", Out: ""}
	pairIs(t, s, "a", "A", []int{10}, true)
	s.Rules[11].Cost = 1
	s.Accept = 3
	pairIs(t, s, "a", "A", []int{9}, true)
}

func TestFewestRulesOverall(t *testing.T) { // P6.1: not at the beginning only; rules that do nothing count too
	s := parsedScheme(t, "scheme 4 8,rule 0 1 ab AB 1,rule 1 2 - - 0,rule 2 3 - - 0,rule 0 2 a A 1,rule 2 3 b B 0,rule 0 3 - - 9,rule 3 3 ab AB 0")
	pairIs(t, s, "ab", "AB", []int{3, 4}, true)
	s.Rules[6].Cost, s.Rules[5].Cost = 1, 0
	pairIs(t, s, "ab", "AB", []int{3, 4}, true)
	pairIs(t, s, "", "", []int{5}, true)
	s.Rules[3].Cost = 2
	pairIs(t, s, "ab", "AB", []int{5, 6}, true)
	s.Rules[6].Cost = 2
	pairIs(t, s, "ab", "AB", []int{0, 1, 2}, true)
}

func TestPairOfNothing(t *testing.T) { // P6.1: the empty route, if the mode 0 is accepting
	s := parsedScheme(t, "scheme 3 1,rule 0 0 a - 0,rule 0 1 - - 1,rule 1 2 - B 1")
	pairIs(t, s, "", "", nil, true)
	pairIs(t, s, "aaa", "", []int{0, 0, 0}, true)
	s.Accept = 2
	pairIs(t, s, "", "", []int{1}, true)
	pairIs(t, s, "", "B", nil, false)
	s.Accept = 7
	pairIs(t, s, "", "", nil, true)
	pairIs(t, s, "", "B", []int{1, 2}, true)
	pairIs(t, s, "a", "B", []int{0, 1, 2}, true)
	pairIs(t, s, "b", "", nil, false)
}

func TestPairsOfInputsThatAreNone(t *testing.T) { // P6.1: routes need not be direct
	s := parsedScheme(t, "scheme 3 1,rule 0 1 a - 2,rule 1 0 b - 3,rule 0 0 c C 1,rule 1 2 - - 0,rule 2 0 - C 9")
	bestIs(t, s, "C", 50, found("c", 1, "a", 11), api.OK)
	pairIs(t, s, "ab", "", []int{0, 1}, true)
	pairIs(t, s, "ababcab", "C", []int{0, 1, 0, 1, 2, 0, 1}, true)
	pairIs(t, s, "aba", "C", []int{0, 1, 0, 3, 4}, true)
	pairIs(t, s, strings.Repeat("ab", 20), "", slices.Repeat([]int{0, 1}, 20), true)
	pairIs(t, s, strings.Repeat("a", 20), strings.Repeat("C", 20), slices.Repeat([]int{0, 3, 4}, 20), true)
	pairIs(t, s, "aa", "C", nil, false)
	pairIs(t, s, "ba", "", nil, false)
	pairIs(t, s, "c", "", nil, false)
	pairIs(t, s, "c", "CC", nil, false)
	pairIs(t, s, "cc", "C", nil, false)
	pairIs(t, s, "c", "B", nil, false)
}

func TestLongestPair(t *testing.T) { // P6.1, P1: seven rules that take nothing before each of 40 letters, and after the last one
	s := api.Scheme{Modes: 8, Accept: 128, Rules: []api.Rule{{From: 7, To: 0, In: "a", Cost: 1000}}}
	for m := range 7 {
		s.Rules = append(s.Rules, api.Rule{From: m, To: m + 1, Cost: 1000})
	}
	want := append(slices.Repeat([]int{1, 2, 3, 4, 5, 6, 7, 0}, 40), 1, 2, 3, 4, 5, 6, 7)
	pairIs(t, s, strings.Repeat("a", 40), "", want, true)
	s.Rules[0].Out = "A"
	pairIs(t, s, strings.Repeat("a", 20), strings.Repeat("A", 20), want[:167], true)
	pairIs(t, s, strings.Repeat("a", 20), strings.Repeat("A", 19), nil, false)
	s.Rules = append(s.Rules, api.Rule{From: 7, To: 0, In: "a", Cost: 1000})
	want = slices.Concat(slices.Repeat(want[:8], 20), slices.Repeat([]int{1, 2, 3, 4, 5, 6, 7, 8}, 20), want[:7])
	pairIs(t, s, strings.Repeat("a", 40), strings.Repeat("A", 20), want, true)
}

func TestDetoursOfPairs(t *testing.T) { // P6.1: what is come to with few rules becomes cheaper with more of them, and so does what follows
	s := parsedScheme(t, "scheme 5 16,rule 0 3 a A 900,rule 0 1 a A 1,rule 1 2 - - 1,rule 2 3 - - 1,rule 3 4 - B 1,rule 1 3 - - 50")
	pairIs(t, s, "a", "AB", []int{1, 2, 3, 4}, true)
	s.Rules[5].Cost = 2
	pairIs(t, s, "a", "AB", []int{1, 5, 4}, true)
	s.Rules[0].Cost = 3
	pairIs(t, s, "a", "AB", []int{0, 4}, true)
}

func TestDeadRulesKeepTheirIndices(t *testing.T) { // P6.1: routes have the indices of the whole scheme
	s := parsedScheme(t, "scheme 4 1,rule 2 0 a A 0,rule 0 3 a A 0,rule 0 1 a A 1,rule 2 3 - B 0,rule 1 0 b - 1,rule 3 3 c - 0,rule 0 0 c C 0")
	pairIs(t, s, "abc", "AC", []int{2, 4, 6}, true)
	bestIs(t, s, "AC", 9, found("abc", 2), api.OK)
	pairIs(t, s, "a", "A", nil, false)
}
