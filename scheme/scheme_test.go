package scheme_test

import (
	"math/rand"
	"reflect"
	"strings"
	"testing"

	"syllabary/api"
	"syllabary/scheme"
)

// numbered returns n rules that differ, for at least one mode.
func numbered(n int) []api.Rule {
	var l []api.Rule
	for i := range n {
		l = append(l, api.Rule{In: "a", Out: "B", Cost: i})
	}
	return l
}

func ordinary() api.Scheme {
	return api.Scheme{Modes: 3, Accept: 5, Rules: []api.Rule{
		{From: 0, To: 1, In: "k", Out: "", Cost: 0},
		{From: 1, To: 0, In: "a", Out: "ka", Cost: 5},
		{From: 0, To: 2, In: "", Out: "N9", Cost: 1000},
		{From: 2, To: 2, In: "abcz", Out: "aZ09", Cost: 17},
		{From: 2, To: 0, In: "", Out: "", Cost: 1},
	}}
}

func TestExamplesOfCheck(t *testing.T) { // P2.1
	ka := api.Rule{From: 0, To: 0, In: "ka", Out: "K", Cost: 5}
	checked(t, api.Scheme{Modes: 1, Accept: 1, Rules: []api.Rule{ka, ka}}, 1, api.ErrScheme)
	checked(t, api.Scheme{Modes: 1, Accept: 2}, -1, api.ErrScheme)
	checked(t, api.Scheme{Modes: 1, Accept: 1, Rules: []api.Rule{{From: 0, To: 1}}}, 0, api.ErrScheme)
}

func TestOrdinary(t *testing.T) { // P2.1
	checked(t, ordinary(), 5, api.OK)
	checked(t, api.Scheme{Modes: 1, Accept: 1}, 0, api.OK)
	checked(t, api.Scheme{Modes: 1, Accept: 1, Rules: []api.Rule{}}, 0, api.OK)
	checked(t, api.Scheme{Modes: 1, Accept: 1, Rules: []api.Rule{{}}}, 1, api.OK)
	checked(t, api.Scheme{}, -1, api.ErrScheme)
}

func TestModesAndAccept(t *testing.T) { // P2.1, P2.4: all masks, for numbers of modes around the limits
	for _, modes := range []int{-1 << 63, -1 << 32, -9, -8, -1, 0, 1, 2, 3, 4, 5, 6, 7, 8, 9, 10, 63, 64, 65, 1 << 32, 1<<32 + 1, 1<<63 - 1} {
		for accept := range 256 {
			agree(t, api.Scheme{Modes: modes, Accept: uint8(accept)})
			agree(t, api.Scheme{Modes: modes, Accept: uint8(accept), Rules: []api.Rule{{}, {In: "a"}}})
		}
	}
	for modes := 1; modes <= 8; modes++ {
		most := uint8(1<<modes - 1)
		checked(t, api.Scheme{Modes: modes, Accept: most}, 0, api.OK)
		checked(t, api.Scheme{Modes: modes, Accept: 1 << (modes - 1)}, 0, api.OK)
		checked(t, api.Scheme{Modes: modes, Accept: 0}, -1, api.ErrScheme)
		if modes < 8 {
			checked(t, api.Scheme{Modes: modes, Accept: most + 1}, -1, api.ErrScheme)
		}
	}
	checked(t, api.Scheme{Modes: 0, Accept: 1}, -1, api.ErrScheme)
	checked(t, api.Scheme{Modes: 9, Accept: 1}, -1, api.ErrScheme)
}

func TestNumberOfRules(t *testing.T) { // P2.4
	for n := range 65 {
		checked(t, api.Scheme{Modes: 1, Accept: 1, Rules: numbered(n)}, n, api.OK)
	}
	for _, n := range []int{65, 66, 128, 256, 1000} {
		checked(t, api.Scheme{Modes: 1, Accept: 1, Rules: numbered(n)}, -1, api.ErrScheme)
	}
	checked(t, api.Scheme{Modes: 1, Accept: 1, Rules: make([]api.Rule, 64)}, 1, api.ErrScheme)
	checked(t, api.Scheme{Modes: 1, Accept: 1, Rules: make([]api.Rule, 1<<20)}, -1, api.ErrScheme)
}

func TestModesOfRules(t *testing.T) { // P2.4
	for modes := 1; modes <= 8; modes++ {
		for from := -2; from <= 9; from++ {
			for to := -2; to <= 9; to++ {
				s := api.Scheme{Modes: modes, Accept: 1, Rules: []api.Rule{{From: from, To: to, In: "a"}}}
				if 0 <= from && from < modes && 0 <= to && to < modes {
					checked(t, s, 1, api.OK)
				} else {
					checked(t, s, 0, api.ErrScheme)
				}
			}
		}
	}
}

func TestCosts(t *testing.T) { // P2.4
	for cost := -3; cost <= 1003; cost++ {
		s := api.Scheme{Modes: 1, Accept: 1, Rules: []api.Rule{{Cost: cost}}}
		if cost < 0 || cost > 1000 {
			checked(t, s, 0, api.ErrScheme)
		} else {
			checked(t, s, 1, api.OK)
		}
	}
}

func TestLengths(t *testing.T) { // P2.4
	for n := range 300 {
		in := api.Scheme{Modes: 1, Accept: 1, Rules: []api.Rule{{In: strings.Repeat("k", n)}}}
		out := api.Scheme{Modes: 1, Accept: 1, Rules: []api.Rule{{Out: strings.Repeat("K", n)}}}
		if n <= 4 {
			checked(t, in, 1, api.OK)
			checked(t, out, 1, api.OK)
		} else {
			checked(t, in, 0, api.ErrScheme)
			checked(t, out, 0, api.ErrScheme)
		}
	}
}

func TestBytesOfRules(t *testing.T) { // P2.1: each byte, at each place of In and Out
	for c := range 256 {
		for n := range 4 {
			for at := range n + 1 {
				b := []byte(strings.Repeat("m", n+1))
				b[at] = byte(c)
				agree(t, api.Scheme{Modes: 1, Accept: 1, Rules: []api.Rule{{In: string(b)}}})
				agree(t, api.Scheme{Modes: 1, Accept: 1, Rules: []api.Rule{{Out: string(b)}}})
			}
		}
	}
}

func TestSpoiltRules(t *testing.T) { // P2.1, P2.3: the first rule that is not right is named
	s := ordinary()
	for i, r := range s.Rules {
		for _, wrong := range wrongRules(r, s.Modes) {
			one := withRule(s, i, wrong)
			checked(t, one, i, api.ErrScheme)
			if i > 0 {
				checked(t, withRule(one, 0, wrong), 0, api.ErrScheme)
			}
			one.Accept = 8
			checked(t, one, -1, api.ErrScheme)
			one.Accept, one.Modes = 1, 9
			checked(t, one, -1, api.ErrScheme)
		}
	}
	for n := range 64 {
		full := api.Scheme{Modes: 1, Accept: 1, Rules: numbered(64)}
		checked(t, withRule(full, n, api.Rule{Cost: -1}), n, api.ErrScheme)
	}
	checked(t, withRule(api.Scheme{Modes: 1, Accept: 1, Rules: numbered(65)}, 0, api.Rule{Cost: -1}), -1, api.ErrScheme)
}

func TestEqualRules(t *testing.T) { // P2.1, P2.3
	s := ordinary()
	for i := range s.Rules {
		for j := range i {
			checked(t, withRule(s, i, s.Rules[j]), i, api.ErrScheme)
		}
	}
	full := api.Scheme{Modes: 1, Accept: 1, Rules: numbered(64)}
	checked(t, withRule(full, 63, full.Rules[0]), 63, api.ErrScheme)
	checked(t, withRule(full, 0, full.Rules[63]), 63, api.ErrScheme)
}

func TestRulesThatDifferInOneField(t *testing.T) { // P2.1: they are not equal
	checked(t, api.Scheme{Modes: 2, Accept: 1, Rules: []api.Rule{
		{From: 0, To: 0, In: "a", Out: "b", Cost: 1},
		{From: 1, To: 0, In: "a", Out: "b", Cost: 1},
		{From: 0, To: 1, In: "a", Out: "b", Cost: 1},
		{From: 0, To: 0, In: "b", Out: "b", Cost: 1},
		{From: 0, To: 0, In: "a", Out: "B", Cost: 1},
		{From: 0, To: 0, In: "a", Out: "b", Cost: 0},
		{From: 0, To: 0, In: "", Out: "b", Cost: 1},
		{From: 0, To: 0, In: "a", Out: "", Cost: 1},
		{From: 0, To: 0, In: "ab", Out: "", Cost: 1},
		{From: 0, To: 0, In: "", Out: "ab", Cost: 1},
	}}, 10, api.OK)
}

func TestRandomSchemes(t *testing.T) { // P2.1, P2.2, P2.3
	r := rand.New(rand.NewSource(1))
	for range 3000 {
		s := randomScheme(r, 64)
		agree(t, s)
		checked(t, s, len(s.Rules), api.OK)
		if len(s.Rules) == 0 {
			continue
		}
		i := r.Intn(len(s.Rules))
		shorter := s
		shorter.Rules = s.Rules[:i]
		checked(t, shorter, i, api.OK)
		wrong := wrongRules(s.Rules[i], s.Modes)
		spoilt := withRule(s, i, wrong[r.Intn(len(wrong))])
		agree(t, spoilt)
		checked(t, spoilt, i, api.ErrScheme)
		j := r.Intn(len(s.Rules))
		agree(t, withRule(spoilt, j, wrong[r.Intn(len(wrong))]))
		if i != j {
			checked(t, withRule(s, i, s.Rules[j]), max(i, j), api.ErrScheme)
		}
	}
}

func TestOrderOfRules(t *testing.T) { // P2.5
	r := rand.New(rand.NewSource(2))
	for range 1000 {
		s := randomScheme(r, 12)
		if n := len(s.Rules); n > 1 && r.Intn(2) == 0 {
			i := r.Intn(n)
			wrong := append(wrongRules(s.Rules[i], s.Modes), s.Rules[(i+1)%n])
			s = withRule(s, i, wrong[r.Intn(len(wrong))])
		}
		valid := scheme.Valid(s)
		for range 5 {
			other := s
			other.Rules = nil
			for _, i := range r.Perm(len(s.Rules)) {
				other.Rules = append(other.Rules, s.Rules[i])
			}
			agree(t, other)
			if scheme.Valid(other) != valid {
				t.Fatalf("Valid(%+v) is %v, and Valid(%+v) is not", s, valid, other)
			}
		}
	}
}

func TestArgumentsRemain(t *testing.T) { // P2, B5
	wrong := withRule(ordinary(), 3, api.Rule{From: 7})
	for _, s := range []api.Scheme{ordinary(), wrong, {}, {Modes: 9, Accept: 1, Rules: numbered(65)}} {
		before := append([]api.Rule(nil), s.Rules...)
		n, err := scheme.Check(s)
		valid := scheme.Valid(s)
		text := scheme.Print(s)
		if len(before) > 0 && !reflect.DeepEqual(before, s.Rules) {
			t.Fatalf("the rules were changed to %+v", s.Rules)
		}
		again, errAgain := scheme.Check(s)
		if n != again || err != errAgain || valid != scheme.Valid(s) || text != scheme.Print(s) {
			t.Fatalf("%+v: a second call has another result", s)
		}
	}
}
