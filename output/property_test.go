package output_test

import (
	"math/rand"
	"slices"
	"strings"
	"testing"

	"syllabary/api"
	"syllabary/flaw"
	"syllabary/output"
	"syllabary/scheme"
)

func TestTwoInputsTogether(t *testing.T) { // P5.6: with one mode, outputs one after the other cost at most the sum
	r := rand.New(rand.NewSource(13))
	joined, cheaper := 0, 0
	for range 1500 {
		s := anyShape(r, 1).random(r)
		a, b := randomInput(r, s, 20), randomInput(r, s, 20)
		first, _ := output.Best(s, a, 1+r.Intn(8))
		second, _ := output.Best(s, b, 1+r.Intn(8))
		for _, x := range first {
			for _, y := range second {
				cost := output.Cost(s, a+b, x.Text+y.Text)
				if cost < 0 || cost > x.Cost+y.Cost {
					t.Fatalf("%+v: %q has %v, %q has %v; together they cost %d", s, a, x, b, y, cost)
				}
				joined++
				if cost < x.Cost+y.Cost {
					cheaper++
				}
			}
		}
		if len(first) > 0 && len(second) > 0 {
			goesIs(t, s, a+b, true)
		}
	}
	if joined < 2000 || cheaper < 50 {
		t.Fatalf("%d outputs were joined, %d of them became cheaper", joined, cheaper)
	}
	s := soundScheme(t, "scheme 1 1,rule 0 0 a A 3,rule 0 0 b B 4,rule 0 0 ab AB 5")
	costIs(t, s, "aabb", "AABB", 12)
	a, b := strings.Repeat("a", 20), strings.Repeat("b", 20)
	costIs(t, s, a+b, strings.ToUpper(a+b), 138)
	costIs(t, s, a+b+"b", strings.ToUpper(a+b+"b"), -1)
}

func TestFurtherRules(t *testing.T) { // P5.7: at any place; nothing becomes dearer, and nothing is lost
	r := rand.New(rand.NewSource(14))
	cheaper, further := 0, 0
	for range 3000 {
		h := anyShape(r, 1+r.Intn(8))
		s := h.random(r)
		next := api.Rule{From: r.Intn(s.Modes), To: r.Intn(s.Modes), In: pick(r, append(h.Ins, "")), Out: pick(r, h.Outs), Cost: pick(r, h.Costs)}
		grown := s
		grown.Rules = slices.Insert(slices.Clone(s.Rules), r.Intn(len(s.Rules)+1), next)
		if flaw.Sound(grown) != api.OK {
			continue
		}
		in := randomInput(r, s, 8)
		l, _ := output.Best(s, in, 50)
		for _, a := range l {
			cost := output.Cost(grown, in, a.Text)
			if cost < 0 || cost > a.Cost {
				t.Fatalf("%q has %v in %+v; with the rule %+v it costs %d", in, a, s, next, cost)
			}
			if cost < a.Cost {
				cheaper++
			}
		}
		if output.Goes(s, in) {
			goesIs(t, grown, in, true)
		}
		all, _ := output.Best(grown, in, 50)
		if len(all) > len(l) {
			further++
		}
		if len(all) < len(l) && len(all) > 0 {
			t.Fatalf("%q has %v in %+v, and %v with the rule %+v", in, l, s, all, next)
		}
	}
	if cheaper < 30 || further < 100 {
		t.Fatalf("%d outputs became cheaper; %d inputs got further ones", cheaper, further)
	}
}

func TestOrderOfRulesDoesNotMatter(t *testing.T) { // P5.1
	r := rand.New(rand.NewSource(15))
	for range 500 {
		s := anyShape(r, 1+r.Intn(8)).random(r)
		in := randomInput(r, s, 8)
		l, err := output.Best(s, in, 50)
		turned := s
		turned.Rules = slices.Clone(s.Rules)
		r.Shuffle(len(turned.Rules), func(i, j int) { turned.Rules[i], turned.Rules[j] = turned.Rules[j], turned.Rules[i] })
		bestIs(t, turned, in, 50, l, err)
		goesIs(t, turned, in, output.Goes(s, in))
	}
}

func TestArgumentsRemain(t *testing.T) { // P5.1, E4, P2: also what stands behind the rules; and the same call has the same result
	r := rand.New(rand.NewSource(16))
	for range 500 {
		s := anyShape(r, 1+r.Intn(8)).random(r)
		if r.Intn(5) == 0 {
			s.Accept = 0
		}
		behind := append(slices.Clone(s.Rules), api.Rule{From: 7, In: "kept"})
		s.Rules = behind[:len(s.Rules)]
		kept, modes, accept := slices.Clone(behind), s.Modes, s.Accept
		in := randomInput(r, s, 10)
		l, err := output.Best(s, in, 50)
		copied := slices.Clone(l)
		text := ""
		if len(l) > 0 {
			text = l[len(l)-1].Text
		}
		cost, goes := output.Cost(s, in, text), output.Goes(s, in)
		for range 3 {
			again, _ := output.Best(s, in, 50)
			for i := range again[:cap(again)] {
				again[:cap(again)][i] = api.Result{Text: "spoilt", Cost: -7}
			}
			bestIs(t, s, in, 50, l, err)
			costIs(t, s, in, text, cost)
			goesIs(t, s, in, goes)
		}
		if !slices.Equal(behind, kept) || s.Modes != modes || s.Accept != accept || !slices.Equal(l, copied) {
			t.Fatalf("modified: %+v, %v; they were %+v, %v", behind, l, kept, copied)
		}
		if scheme.Valid(s) != (accept != 0) {
			t.Fatalf("the test has spoilt %+v", s)
		}
	}
}
