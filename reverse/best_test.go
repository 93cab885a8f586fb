package reverse_test

import (
	"math/rand"
	"slices"
	"strings"
	"testing"

	"syllabary/api"
	"syllabary/reverse"
	"syllabary/route"
)

// exampleScheme is the scheme of the section 'Examples'.
func exampleScheme() api.Scheme {
	return api.Scheme{Modes: 1, Accept: 1, Rules: []api.Rule{
		{In: "a", Out: "A", Cost: 1}, {In: "b", Out: "B", Cost: 1}, {In: "ab", Out: "AB", Cost: 1}, {In: "c", Cost: 0},
	}}
}

func TestExamples(t *testing.T) { // P6.1
	s := exampleScheme()
	bestIs(t, s, "AB", 9, found("ab", 1), api.OK)
	pairIs(t, s, "ab", "AB", []int{2}, true)
	pairIs(t, s, "acb", "AB", []int{0, 3, 1}, true)
	cheapestIs(t, s, "", "", 0, api.OK)
	cheapestIs(t, s, "C", "", 0, api.ErrNone)
}

func TestBestAgainstEnumeration(t *testing.T) { // P6.1, P6.2, P6.3, P6.4: all direct routes, for one to eight modes
	r := rand.New(rand.NewSource(1))
	several, silent, missing, shared := 0, 0, 0, 0
	for modes := 1; modes <= 8; modes++ {
		for range 250 {
			s := anyShape(r, modes).random(r)
			bytes := r.Intn(6)
			inputs, few := enumerated(s, bytes, 2000)
			if !few {
				continue
			}
			for _, out := range texts(inputs) {
				inputsAre(t, s, out, inputs[out])
				if len(inputs[out]) > 5 {
					several++
				}
			}
			for _, out := range []string{"", "A", "B", "BA", "C", "cA", "0"} {
				if len(out) > bytes && strings.Trim(out, "AB") == "" {
					continue
				}
				inputsAre(t, s, out, inputs[out])
				if inputs[out] == nil {
					missing++
				}
			}
			if len(inputs[""]) > 1 {
				silent++
			}
			if len(inputs) > 8 {
				shared++
			}
		}
	}
	if several < 400 || silent < 100 || missing < 2000 || shared < 50 {
		t.Fatalf("%d texts with many inputs, %d times several inputs of nothing, %d texts without inputs, %d schemes with many texts", several, silent, missing, shared)
	}
}

func TestBestAgainstTables(t *testing.T) { // P6.1, P6.2, P6.3: with long texts, where there are many routes
	r := rand.New(rand.NewSource(2))
	full, none, long := 0, 0, 0
	for modes := 1; modes <= 8; modes++ {
		for range 30 {
			h := anyShape(r, modes)
			h.Most += r.Intn(20)
			s := h.random(r)
			out := randomText(r, s, 20)
			costs := tabled(s, out)
			inputsAre(t, s, out, costs)
			all := ordered(costs, 50)
			switch {
			case len(all) == 50:
				full++
			case len(all) == 0:
				none++
			}
			if len(all) > 0 && len(all[len(all)-1].Text) > 30 {
				long++
			}
		}
	}
	if full < 40 || none < 30 || long < 8 {
		t.Fatalf("%d full lists, %d texts without inputs, %d long inputs", full, none, long)
	}
}

func TestTruthsAreTheSame(t *testing.T) { // the two oracles against each other
	r := rand.New(rand.NewSource(3))
	for range 600 {
		s := anyShape(r, 1+r.Intn(8)).random(r)
		inputs, few := enumerated(s, 5, 1000)
		if !few {
			continue
		}
		for _, out := range append(texts(inputs), "C") {
			if a, b := ordered(inputs[out], 50), ordered(tabled(s, out), 50); !slices.Equal(a, b) {
				t.Fatalf("%+v, %q: %v and %v", s, out, a, b)
			}
		}
	}
}

func TestInputsAreThoseOfDirectRoutes(t *testing.T) { // P6.1, P6.3: they come to no mode twice before they put out more
	s := parsedScheme(t, "scheme 2 3,rule 0 1 a - 0,rule 1 0 b - 0,rule 0 0 x X 5,rule 0 0 y - 0,rule 1 1 z - 0")
	bestIs(t, s, "", 50, found("", 0, "a", 0), api.OK)
	bestIs(t, s, "X", 50, found("x", 5, "xa", 5), api.OK)
	bestIs(t, s, "XX", 50, found("xx", 10, "xxa", 10), api.OK)
	s = parsedScheme(t, "scheme 2 3,rule 0 1 a - 0,rule 1 0 b - 0,rule 1 1 x X 5,rule 0 0 y X 9")
	bestIs(t, s, "X", 50, found("ax", 5, "axb", 5, "y", 9, "ya", 9), api.OK)
	bestIs(t, s, "XX", 50, found("axx", 10, "axxb", 10, "yax", 14, "axby", 14, "yaxb", 14, "axbya", 14, "yy", 18, "yya", 18), api.OK)
}

func TestRoutesMayComeBackWithMore(t *testing.T) { // P6.1: to the same mode, if they have put out more in between
	s := parsedScheme(t, "scheme 3 1,rule 0 1 a - 0,rule 1 2 b B 0,rule 2 0 c - 0,rule 0 2 d - 1")
	bestIs(t, s, "", 50, found("", 0), api.OK)
	bestIs(t, s, "B", 50, found("abc", 0), api.OK)
	bestIs(t, s, "BB", 50, found("abcabc", 0), api.OK)
	s.Accept = 4
	bestIs(t, s, "", 50, found("d", 1), api.OK)
	bestIs(t, s, "B", 50, found("ab", 0), api.OK)
	bestIs(t, s, "BB", 50, found("abcab", 0), api.OK)
}

func TestDirectRoutesAreTold(t *testing.T) { // P6.3: the In of each one is among the inputs of its Out, for no more, or comes after the first k
	r := rand.New(rand.NewSource(4))
	among, beyond, others := 0, 0, 0
	for range 6000 {
		s := anyShape(r, 1+r.Intn(8)).random(r)
		l, run, fits := wholeRoute(r, s, r.Intn(10))
		if !fits {
			continue
		}
		if !isDirect(s, l) {
			others++
			continue
		}
		k := 1 + r.Intn(8)
		got, err := reverse.Best(s, run.Out, k)
		if err != api.OK {
			t.Fatalf("Best(%+v, %q, %d) = %v, %v, but there is %v", s, run.Out, k, got, err, l)
		}
		i := slices.IndexFunc(got, func(a api.Result) bool { return a.Text == run.In })
		if i >= 0 && got[i].Cost > run.Cost || i < 0 && (len(got) < k || got[k-1].Cost > run.Cost) {
			t.Fatalf("Best(%+v, %q, %d) = %v, but there is %v: %+v", s, run.Out, k, got, l, run)
		}
		if i >= 0 {
			among++
		} else {
			beyond++
		}
	}
	if among < 1500 || beyond < 100 || others < 300 {
		t.Fatalf("%d inputs were among the results, %d beyond them; %d routes were not direct", among, beyond, others)
	}
}

func TestInputsHaveRoutes(t *testing.T) { // P6.2, P6.5: whole ones to the text, which cost no more; the inputs are different, and in order
	r := rand.New(rand.NewSource(5))
	checked, ties := 0, 0
	for range 1500 {
		h := anyShape(r, 1+r.Intn(8))
		h.Most += r.Intn(10)
		s := h.random(r)
		out := randomText(r, s, 12)
		l, err := reverse.Best(s, out, 1+r.Intn(50))
		if err != api.OK {
			continue
		}
		for i, a := range l {
			rules, err := reverse.Pair(s, a.Text, out)
			run := route.Run(s, rules)
			if err != api.OK || !run.Ok || !accepting(s, run.Mode) || run.In != a.Text || run.Out != out || run.Cost > a.Cost || len(a.Text) > 40 {
				t.Fatalf("%v is an input of %q in %+v; but Pair returns %v, %v: %+v", a, out, s, rules, err, run)
			}
			checked++
			if i == 0 {
				continue
			}
			b := l[i-1]
			if b.Cost > a.Cost || b.Cost == a.Cost && (len(b.Text) > len(a.Text) || len(b.Text) == len(a.Text) && b.Text >= a.Text) {
				t.Fatalf("inputs of %q in %+v: %v", out, s, l)
			}
			if b.Cost == a.Cost {
				ties++
			}
		}
	}
	if checked < 5000 || ties < 2000 {
		t.Fatalf("%d inputs, %d ties", checked, ties)
	}
}

func TestListsBegin(t *testing.T) { // P6.4: for all k, and Cheapest is the first one
	r := rand.New(rand.NewSource(6))
	full := 0
	for range 150 {
		h := anyShape(r, 1+r.Intn(8))
		h.Most += r.Intn(20)
		s := h.random(r)
		out := randomText(r, s, 10)
		all, err := reverse.Best(s, out, 50)
		if err != api.OK {
			bestIs(t, s, out, 1, nil, err)
			cheapestIs(t, s, out, "", 0, err)
			continue
		}
		for k := 1; k <= 50; k++ {
			bestIs(t, s, out, k, all[:min(k, len(all))], api.OK)
		}
		cheapestIs(t, s, out, all[0].Text, all[0].Cost, api.OK)
		if len(all) == 50 {
			full++
		}
	}
	if full < 10 {
		t.Fatalf("only %d full lists", full)
	}
}

func TestOrderOfInputs(t *testing.T) { // P6.1, P6.2: by cost as a number, then by length, then by bytes, beginnings first
	s := api.Scheme{Modes: 1, Accept: 1}
	var want []api.Result
	for _, c := range []struct {
		Cost int
		Ins  string
	}{{0, "zzzz"}, {9, "z aa ab abc"}, {10, "b y zy aaa"}, {99, "a c az ba cab czz zaz aaaa aaab zzza"}, {100, "zz aab"}, {999, "d"}, {1000, "x bb"}} {
		for _, in := range strings.Fields(c.Ins) {
			s.Rules = append(s.Rules, api.Rule{In: in, Out: "A", Cost: c.Cost})
			want = append(want, api.Result{Text: in, Cost: c.Cost})
		}
	}
	r := rand.New(rand.NewSource(7))
	for range 20 {
		r.Shuffle(len(s.Rules), func(i, j int) { s.Rules[i], s.Rules[j] = s.Rules[j], s.Rules[i] })
		for k := range want {
			bestIs(t, s, "A", k+1, want[:k+1], api.OK)
		}
	}
}

func TestLengthComesBeforeBytes(t *testing.T) { // P6.2: also between inputs that begin in different ways
	s := parsedScheme(t, "scheme 2 3,rule 0 1 b - 0,rule 1 1 zz X 0,rule 0 1 a X 0,rule 0 1 aaaa X 0,rule 0 1 zz X 0,rule 0 1 zza X 0,rule 0 1 - X 1")
	bestIs(t, s, "X", 50, found("a", 0, "zz", 0, "bzz", 0, "zza", 0, "aaaa", 0, "", 1), api.OK)
}

func TestInputsComeOnce(t *testing.T) { // P6.1: with the least cost of several routes
	s := parsedScheme(t, "scheme 3 7,rule 0 0 ab AB 9,rule 0 1 a A 4,rule 1 1 b B 4,rule 0 1 a A 3,rule 1 2 b B 2,rule 0 2 ab AB 8,rule 2 1 - - 0,rule 0 1 abc AB 5")
	bestIs(t, s, "AB", 50, found("ab", 5, "abc", 5), api.OK)
	bestIs(t, s, "AB", 1, found("ab", 5), api.OK)
	s.Accept = 1
	bestIs(t, s, "AB", 50, found("ab", 9), api.OK)
	s.Accept = 6
	bestIs(t, s, "AB", 2, found("ab", 5, "abc", 5), api.OK)
}

func TestDearerRoutesMayEndCheaper(t *testing.T) { // P6.1: what leads to a place cheaply may be dear in the end
	s := parsedScheme(t, "scheme 4 8,rule 0 1 a A 0,rule 0 2 b A 50,rule 1 3 x B 100,rule 2 3 x B 1,rule 2 3 y B 2,rule 1 3 y B 52")
	bestIs(t, s, "AB", 50, found("bx", 51, "ay", 52, "by", 52, "ax", 100), api.OK)
	bestIs(t, s, "AB", 1, found("bx", 51), api.OK)
}

func TestRoutesThatBlockThemselves(t *testing.T) { // P6.1: a cheap way to a mode may have been where the rest must go
	s := parsedScheme(t, "scheme 4 8,rule 0 1 a - 0,rule 1 2 b - 0,rule 0 2 ab - 7,rule 2 1 c - 0,rule 1 3 d D 0")
	bestIs(t, s, "D", 50, found("ad", 0, "abcd", 7), api.OK)
	s = parsedScheme(t, "scheme 5 16,rule 0 1 a - 0,rule 1 2 b - 0,rule 0 2 ab - 7,rule 2 1 c - 0,rule 1 3 d - 0,rule 3 4 e D 0,rule 2 3 x - 100,rule 0 3 ab - 1")
	bestIs(t, s, "D", 50, found("ade", 0, "abe", 1, "abcde", 7, "abxe", 100), api.OK)
}

func TestEmptyText(t *testing.T) { // P6.1: the empty input, if the mode 0 is accepting, and what puts out nothing
	for modes := 1; modes <= 8; modes++ {
		for accept := 1; accept < 1<<modes; accept++ {
			s := api.Scheme{Modes: modes, Accept: uint8(accept)}
			if accept%2 == 1 {
				inputsAre(t, s, "", map[string]int{"": 0})
			} else {
				inputsAre(t, s, "", nil)
			}
			inputsAre(t, s, "A", nil)
		}
	}
	s := parsedScheme(t, "scheme 3 6,rule 0 1 a - 8,rule 1 2 - - 5,rule 0 2 a - 14,rule 0 2 - - 20,rule 0 0 b - 0,rule 2 2 c C 0")
	bestIs(t, s, "", 50, found("a", 8, "", 20), api.OK)
	bestIs(t, s, "C", 50, found("ac", 13, "c", 20), api.OK)
}

func TestRulesThatTakeNothing(t *testing.T) { // P6.1: up to seven of them in a row, and with an output of their own
	s := parsedScheme(t, "scheme 3 7,rule 0 1 - x 1,rule 1 2 a y 1,rule 2 0 - z 1,rule 0 0 b - 0")
	bestIs(t, s, "x", 50, found("", 1), api.OK)
	bestIs(t, s, "xyz", 50, found("a", 3), api.OK)
	bestIs(t, s, "xyzx", 50, found("a", 4), api.OK)
	bestIs(t, s, "y", 50, nil, api.ErrNone)
	row := api.Scheme{Modes: 8, Accept: 128, Rules: []api.Rule{{From: 7, To: 0, In: "a", Cost: 1000}}}
	for m := range 7 {
		row.Rules = append(row.Rules, api.Rule{From: m, To: m + 1, Out: "01234567"[m : m+1], Cost: 1000})
	}
	bestIs(t, row, "0123456", 50, found("", 7000), api.OK)
	bestIs(t, row, "01234560123456", 50, found("a", 15000), api.OK)
	bestIs(t, row, "012345601234", 50, nil, api.ErrNone)
}

func TestRulesThatDoNothing(t *testing.T) { // P6.1: they take nothing and put out nothing, but lead to other modes, and cost something
	s := parsedScheme(t, "scheme 4 8,rule 0 1 - - 1,rule 1 2 - - 1,rule 2 3 - - 1,rule 0 3 - - 9,rule 1 1 a A 2,rule 3 3 a A 0,rule 2 2 b A 0")
	bestIs(t, s, "", 50, found("", 3), api.OK)
	bestIs(t, s, "A", 50, found("a", 3, "b", 3), api.OK)
	bestIs(t, s, "AA", 50, found("aa", 3, "ba", 3, "bb", 3, "ab", 5), api.OK)
}

func TestLettersOfInputs(t *testing.T) { // P6.1: 40, and not 41, in rules of all lengths
	for n := 2; n <= 4; n++ {
		in := "abcd"[:n]
		s := parsedScheme(t, "scheme 1 1,rule 0 0 x X 1,rule 0 0 "+in+" A 0")
		for letters := 35; letters <= 50; letters++ {
			long, short := letters/n, letters%n
			if long+short > 20 {
				continue
			}
			for at := range long + 1 {
				want := strings.Repeat(in, at) + strings.Repeat("x", short) + strings.Repeat(in, long-at)
				out := strings.Repeat("A", at) + strings.Repeat("X", short) + strings.Repeat("A", long-at)
				if letters <= 40 {
					bestIs(t, s, out, 50, found(want, short), api.OK)
					pairIs(t, s, want, out, chosen(out, "XA"), true)
				} else {
					bestIs(t, s, out, 50, nil, api.ErrNone)
				}
			}
		}
	}
}

// chosen returns the index in bytes for each byte of a text.
func chosen(text, bytes string) []int {
	var l []int
	for i := range len(text) {
		l = append(l, strings.IndexByte(bytes, text[i]))
	}
	return l
}

func TestDearerInputsThatFit(t *testing.T) { // P6.1: where the cheapest routes take more than 40 letters, cheaper parts are taken as far as they fit
	s := parsedScheme(t, "scheme 1 1,rule 0 0 aaa A 0,rule 0 0 aa A 1,rule 0 0 b A 10")
	bestIs(t, s, strings.Repeat("A", 13), 1, found(strings.Repeat("a", 39), 0), api.OK)
	bestIs(t, s, strings.Repeat("A", 14), 1, found(strings.Repeat("a", 40), 2), api.OK)
	bestIs(t, s, strings.Repeat("A", 20), 1, found(strings.Repeat("a", 40), 20), api.OK)
	for n := 10; n <= 20; n++ {
		out := strings.Repeat("A", n)
		inputsAre(t, s, out, tabled(s, out))
	}
	s = parsedScheme(t, "scheme 2 2,rule 0 0 aaaa A 0,rule 0 0 bb A 3,rule 0 1 c B 0,rule 1 1 dddd D 0,rule 1 1 e D 1")
	for n := range 20 {
		out := strings.Repeat("A", 19-n) + "B" + strings.Repeat("D", n)
		inputsAre(t, s, out, tabled(s, out))
	}
}

func TestLongWaysThatPutOutNothing(t *testing.T) { // P6.1: up to seven rules after each byte; 40 letters are the limit for these too
	s := api.Scheme{Modes: 8, Accept: 128, Rules: []api.Rule{{From: 7, To: 0, In: "x", Out: "X"}}}
	for m := range 7 {
		s.Rules = append(s.Rules, api.Rule{From: m, To: m + 1, In: "abcdefg"[m : m+1]})
	}
	want := "abcdefg"
	for n := range 20 {
		out := strings.Repeat("X", n)
		if len(want) <= 40 {
			bestIs(t, s, out, 50, found(want, 0), api.OK)
		} else {
			bestIs(t, s, out, 50, nil, api.ErrNone)
		}
		want += "xabcdefg"
	}
}
