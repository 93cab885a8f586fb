package reverse_test

import (
	"math/rand"
	"slices"
	"strings"
	"testing"

	"syllabary/api"
	"syllabary/reverse"
	"syllabary/route"
)

func TestFurtherRules(t *testing.T) { // P6.6: between the same modes, at any place; no input is lost or becomes dearer
	r := rand.New(rand.NewSource(31))
	cheaperNow, newNow := 0, 0
	for range 6000 {
		h := anyShape(r, 1+r.Intn(8))
		s := h.random(r)
		if len(s.Rules) == 0 {
			continue
		}
		out := randomText(r, s, 8)
		more := s
		old := pick(r, s.Rules)
		next := api.Rule{From: old.From, To: old.To, In: pick(r, append(h.Ins, "")), Out: pick(r, h.Outs), Cost: pick(r, h.Costs)}
		more.Rules = slices.Insert(slices.Clone(s.Rules), r.Intn(len(s.Rules)+1), next)
		if slices.Contains(s.Rules, next) || !ends(more) {
			continue
		}
		before, err := reverse.Best(s, out, 50)
		after, errAfter := reverse.Best(more, out, 50)
		if err == api.OK && (errAfter != api.OK || after[0].Cost > before[0].Cost) {
			t.Fatalf("inputs of %q in %+v: %v, %v; with the rule %+v: %v, %v", out, s, before, err, next, after, errAfter)
		}
		for i, a := range before {
			at := slices.IndexFunc(after, func(b api.Result) bool { return a.Text == b.Text })
			if at >= 0 && after[at].Cost > a.Cost || at < 0 && (len(after) < 50 || after[49].Cost > a.Cost) || after[i].Cost > a.Cost {
				t.Fatalf("inputs of %q in %+v: %v; with the rule %+v: %v", out, s, before, next, after)
			}
		}
		if err == api.OK && after[0].Cost < before[0].Cost {
			cheaperNow++
		}
		if err != api.OK && errAfter == api.OK {
			newNow++
		}
	}
	if cheaperNow < 15 || newNow < 50 {
		t.Fatalf("%d first inputs became cheaper, %d texts got one", cheaperNow, newNow)
	}
}

func TestCheaperRules(t *testing.T) { // P6.6: the same rule for less, or for more
	r := rand.New(rand.NewSource(32))
	less := 0
	for range 2000 {
		s := anyShape(r, 1+r.Intn(8)).random(r)
		out := randomText(r, s, 8)
		in, cost, err := reverse.Cheapest(s, out)
		if err != api.OK {
			continue
		}
		for _, rule := range s.Rules {
			for _, by := range []int{-1, 1, 1000} {
				next := rule
				next.Cost += by
				if next.Cost < 0 || next.Cost > 1000 || slices.Contains(s.Rules, next) {
					continue
				}
				more := s
				more.Rules = append(slices.Clone(s.Rules), next)
				inNow, costNow, err := reverse.Cheapest(more, out)
				if err != api.OK || costNow > cost || by > 0 && (inNow != in || costNow != cost) {
					t.Fatalf("Cheapest(%+v, %q) = %q, %d; with the rule %+v: %q, %d", s, out, in, cost, next, inNow, costNow)
				}
				if costNow < cost {
					less++
				}
			}
		}
	}
	if less < 300 {
		t.Fatalf("only %d inputs became cheaper", less)
	}
}

func TestOrderOfRulesDoesNotMatter(t *testing.T) { // P6.1: for inputs and their costs; it does for pairs with several first routes
	r := rand.New(rand.NewSource(33))
	for range 1000 {
		s := anyShape(r, 1+r.Intn(8)).random(r)
		out := randomText(r, s, 8)
		other := s
		other.Rules = slices.Clone(s.Rules)
		r.Shuffle(len(s.Rules), func(i, j int) { other.Rules[i], other.Rules[j] = other.Rules[j], other.Rules[i] })
		l, err := reverse.Best(s, out, 50)
		bestIs(t, other, out, 50, l, err)
		for _, a := range l {
			p, _ := reverse.Pair(s, a.Text, out)
			q, err := reverse.Pair(other, a.Text, out)
			if err != api.OK || len(p) != len(q) || route.Run(s, p) != sameMode(route.Run(other, q), route.Run(s, p)) {
				t.Fatalf("Pair(%+v, %q, %q) = %v; in another order %v", s, a.Text, out, p, q)
			}
		}
	}
}

// sameMode returns the run with the mode of another one: of routes to several accepting modes, the first one depends on the order.
func sameMode(a, b api.Run) api.Run {
	a.Mode = b.Mode
	return a
}

func TestTrimmedSchemes(t *testing.T) { // P6.1: rules that no whole route uses do not matter
	r := rand.New(rand.NewSource(34))
	trimmed := 0
	for range 2000 {
		s := anyShape(r, 1+r.Intn(8)).random(r)
		kept, indices := route.Trim(s)
		out := randomText(r, s, 8)
		l, err := reverse.Best(kept, out, 50)
		bestIs(t, s, out, 50, l, err)
		for _, a := range l {
			p, _ := reverse.Pair(kept, a.Text, out)
			for i := range p {
				p[i] = indices[p[i]]
			}
			pairIs(t, s, a.Text, out, p, true)
			if len(kept.Rules) < len(s.Rules) {
				trimmed++
			}
		}
	}
	if trimmed < 500 {
		t.Fatalf("only %d pairs in schemes with dead rules", trimmed)
	}
}

func TestArgumentsRemain(t *testing.T) { // F4, P2: also what stands behind the rules; and the same call has the same result, even if the first one was spoilt
	r := rand.New(rand.NewSource(35))
	for range 500 {
		s := anyShape(r, 1+r.Intn(8)).random(r)
		behind := []api.Rule{{From: 7, To: 7, In: "A", Out: "-", Cost: -1}, {From: -1, To: 9}}
		room := append(slices.Clone(s.Rules), behind...)
		given := s
		given.Rules = room[:len(s.Rules)]
		out := randomText(r, s, 8)
		l, err := reverse.Best(given, out, 50)
		again := slices.Clone(l)
		for i := range l {
			l[i] = api.Result{Text: "spoilt", Cost: -1}
		}
		bestIs(t, given, out, 50, again, err)
		for _, a := range again {
			p, err := reverse.Pair(given, a.Text, out)
			spoilt := slices.Clone(p)
			for i := range p {
				p[i] = -1
			}
			pairIs(t, given, a.Text, out, spoilt, err == api.OK)
			p = append(p, -1)
			pairIs(t, given, a.Text, out, spoilt, true)
		}
		if !slices.Equal(room, slices.Concat(s.Rules, behind)) {
			t.Fatalf("the rules %v were changed: %v", s.Rules, room)
		}
	}
}

func TestManyInputs(t *testing.T) { // P6.1, P1: as many as there can be, of which the first 50 are told
	s := parsedScheme(t, "scheme 1 1,rule 0 0 a A 0,rule 0 0 b A 0")
	var want []api.Result
	for i := range 50 {
		in := []byte(strings.Repeat("a", 20))
		for bit := range 6 {
			if i>>bit&1 == 1 {
				in[19-bit] = 'b'
			}
		}
		want = append(want, api.Result{Text: string(in)})
	}
	bestIs(t, s, strings.Repeat("A", 20), 50, want, api.OK)
	all := api.Scheme{Modes: 1, Accept: 1}
	for i := range 64 {
		all.Rules = append(all.Rules, api.Rule{In: string([]byte{'a' + byte(i%26), 'a' + byte(i/26)}), Out: "A", Cost: 1000})
	}
	for i, in := range sortedIns(all)[:50] {
		want[i] = api.Result{Text: strings.Repeat("aa", 19) + in, Cost: 20000}
	}
	bestIs(t, all, strings.Repeat("A", 20), 50, want, api.OK)
}

// sortedIns returns what the rules take, in order.
func sortedIns(s api.Scheme) []string {
	var l []string
	for _, r := range s.Rules {
		l = append(l, r.In)
	}
	slices.Sort(l)
	return l
}

func TestManyRoutesToNoInput(t *testing.T) { // P6.1, P1: they all come to where nothing leads on, or take too many letters
	s := api.Scheme{Modes: 8, Accept: 128}
	for m := range 8 {
		for to := range 6 {
			s.Rules = append(s.Rules, api.Rule{From: m, To: to, In: "ab"[to%2 : to%2+1], Out: "A"})
		}
	}
	s.Rules = append(s.Rules, api.Rule{From: 6, To: 7, In: "c", Out: "C"}, api.Rule{From: 5, To: 6, In: "c", Out: "C"})
	bestIs(t, s, strings.Repeat("A", 20), 50, nil, api.ErrNone)
	bestIs(t, s, strings.Repeat("A", 19)+"C", 50, nil, api.ErrNone)
	l, err := reverse.Best(s, strings.Repeat("A", 18)+"CC", 50)
	if err != api.OK || len(l) != 50 || l[0].Text != strings.Repeat("a", 17)+"bcc" || l[1].Text != strings.Repeat("a", 16)+"bbcc" {
		t.Fatal(l, err)
	}
	long := parsedScheme(t, "scheme 2 3,rule 0 0 aaa A 0,rule 0 1 baa A 0,rule 1 0 aba A 0,rule 1 1 bba A 1")
	for n := 14; n <= 20; n++ {
		bestIs(t, long, strings.Repeat("A", n), 50, nil, api.ErrNone)
	}
}

func TestManyRoutesForFewInputs(t *testing.T) { // P6.1, P1: with rules between all modes, that take the same letter
	s := api.Scheme{Modes: 8, Accept: 255}
	for from := range 8 {
		for to := range 8 {
			out := ""
			if from == to {
				out = "A"
			}
			s.Rules = append(s.Rules, api.Rule{From: from, To: to, In: "a", Out: out})
		}
	}
	for n := range 21 {
		var want []api.Result
		for letters := n; letters <= min(40, n+7*(n+1)); letters++ {
			want = append(want, api.Result{Text: strings.Repeat("a", letters)})
		}
		bestIs(t, s, strings.Repeat("A", n), 50, want, api.OK)
	}
	for i := range s.Rules {
		s.Rules[i].Out = "A"
	}
	bestIs(t, s, strings.Repeat("A", 20), 50, found(strings.Repeat("a", 20), 0), api.OK)
	pairIs(t, s, strings.Repeat("a", 20), strings.Repeat("A", 20), make([]int, 20), true)
}

func TestTablesWithAllModes(t *testing.T) { // P6.1, P1: many rules between eight modes, most of which put out nothing
	r := rand.New(rand.NewSource(36))
	for range 6 {
		s := api.Scheme{Modes: 8, Accept: uint8(1 + r.Intn(255))}
		for len(s.Rules) < 40 {
			next := api.Rule{From: r.Intn(8), To: r.Intn(8), In: pick(r, []string{"a", "b", "ab"}), Out: pick(r, []string{"", "", "A", "B"}), Cost: r.Intn(4)}
			if !slices.Contains(s.Rules, next) {
				s.Rules = append(s.Rules, next)
			}
		}
		for _, out := range []string{"", "A", "AB", "BBA"} {
			inputsAre(t, s, out, tabled(s, out))
		}
	}
}
