package single_test

import (
	"math"
	"math/rand"
	"slices"
	"strings"
	"testing"

	"syllabary/api"
	"syllabary/flaw"
	"syllabary/single"
)

// refused checks that the scheme is not sound, for this reason, and that it is refused though in has the outputs a and b.
func refused(t *testing.T, s api.Scheme, reason api.Errno, twice api.Twice) {
	t.Helper()
	if err := flaw.Sound(s); err != reason {
		t.Fatalf("%+v: Sound returns %v, not %v", s, err, reason)
	}
	checked(t, s, api.Twice{}, api.ErrScheme)
	proved(t, s, twice, false)
	proved(t, s, api.Twice{}, false)
}

func TestSchemesThatAreNotSound(t *testing.T) { // P8.1: whether they would be single or not
	both := api.Twice{In: "a", A: "A", B: "B"}
	for _, rules := range []string{",rule 0 0 a A 0", ",rule 0 0 a A 0,rule 0 0 a B 0"} {
		sound := parsedSound(t, "scheme 2 1"+rules)
		twice := strings.Contains(rules, "B")
		is(t, sound, "a", twice)
		proved(t, sound, both, twice)
		refused(t, more(sound, api.Rule{From: 0, To: 1, In: "b"}), api.ErrStuck, both)
		refused(t, more(sound, api.Rule{}), api.ErrEndless, both)
		refused(t, more(sound, api.Rule{Out: "A"}), api.ErrEndless, both)
		refused(t, more(sound, api.Rule{From: 0, To: 1}, api.Rule{From: 1, To: 0}), api.ErrEndless, both)
		refused(t, more(sound, sound.Rules[0]), api.ErrScheme, both)
		noEnd := sound
		noEnd.Accept = 2
		refused(t, noEnd, api.ErrNone, both)
		for _, change := range []func(s *api.Scheme){
			func(s *api.Scheme) { s.Modes = 0 }, func(s *api.Scheme) { s.Modes = -1 }, func(s *api.Scheme) { s.Modes = 9 }, func(s *api.Scheme) { s.Modes = math.MaxInt },
			func(s *api.Scheme) { s.Accept = 0 }, func(s *api.Scheme) { s.Accept = 5 },
			func(s *api.Scheme) { s.Rules = more(*s, api.Rule{From: 2, In: "b"}).Rules }, func(s *api.Scheme) { s.Rules = more(*s, api.Rule{To: -1, In: "b"}).Rules },
			func(s *api.Scheme) { s.Rules = more(*s, api.Rule{In: "abcde"}).Rules }, func(s *api.Scheme) { s.Rules = more(*s, api.Rule{In: "A"}).Rules },
			func(s *api.Scheme) { s.Rules = more(*s, api.Rule{In: "b", Out: "abcde"}).Rules }, func(s *api.Scheme) { s.Rules = more(*s, api.Rule{In: "b", Out: "-"}).Rules },
			func(s *api.Scheme) { s.Rules = more(*s, api.Rule{In: "b", Cost: 1001}).Rules }, func(s *api.Scheme) { s.Rules = more(*s, api.Rule{In: "b", Cost: -1}).Rules },
			func(s *api.Scheme) {
				for cost := range 64 {
					s.Rules = append(s.Rules, api.Rule{In: "b", Out: "B", Cost: cost})
				}
			},
		} {
			wrong := sound
			wrong.Rules = slices.Clone(sound.Rules)
			change(&wrong)
			refused(t, wrong, api.ErrScheme, both)
		}
	}
	refused(t, api.Scheme{}, api.ErrScheme, both)
	is(t, parsedSound(t, "scheme 2 1,rule 0 0 a A 0,rule 0 0 a A 1,rule 1 1 - - 0,rule 1 0 a B 0"), "", false) // dead rules do not matter
}

// sample has the outputs A and BC for a, and those after each other for more of them.
func sample(t *testing.T) api.Scheme {
	t.Helper()
	return parsedSound(t, "scheme 1 1,rule 0 0 a A 3,rule 0 0 a BC 0,rule 0 0 b b 0")
}

func TestNoProofs(t *testing.T) { // P8.1, P8.2
	s := sample(t)
	long := strings.Repeat("a", 40)
	for _, c := range []struct {
		in, a, b string
		want     bool
	}{
		{"a", "A", "BC", true}, {"a", "BC", "A", true}, {"aa", "AA", "ABC", true}, {"aa", "BCA", "ABC", true}, {"bab", "bAb", "bBCb", true},
		{long, strings.Repeat("A", 40), strings.Repeat("BC", 40), true},
		{long, strings.Repeat("ABC", 20), strings.Repeat("BCA", 20), true},
		{long, strings.Repeat("ABC", 20), strings.Repeat("BCA", 19), false},
		{long + "a", strings.Repeat("A", 41), strings.Repeat("BC", 41), false},
		{long + "a", strings.Repeat("A", 40), strings.Repeat("BC", 40), false},
		{"a", "A", "A", false}, {"a", "BC", "BC", false}, {"", "", "", false}, {"b", "b", "b", false}, // equal
		{"a", "A", "B", false}, {"a", "C", "BC", false}, {"a", "", "A", false}, {"a", "A", "", false}, {"a", "A", "AA", false}, {"a", "A", "BC ", false}, {"a", "a", "bc", false}, // no outputs
		{"", "A", "BC", false}, {"", "", "A", false}, {"aa", "A", "BC", false}, {"b", "b", "B", false}, {"b", "B", "b", false}, {"b", "A", "BC", false}, {"c", "A", "BC", false},
		{"A", "A", "BC", false}, {"a ", "A", "BC", false}, {" a", "A", "BC", false}, {"a\x00", "A", "BC", false}, {"á", "A", "BC", false}, {"1", "A", "BC", false}, {"\xff", "A", "BC", false}, // no letters
	} {
		proved(t, s, api.Twice{In: c.in, A: c.a, B: c.b}, c.want)
		proved(t, s, api.Twice{In: c.in, A: c.b, B: c.a}, c.want)
	}
}

func TestProofs(t *testing.T) { // P8.1, P8.2: all short inputs with two of their outputs, and with texts that are nearly outputs
	r := rand.New(rand.NewSource(5))
	accepted, rejected := 0, 0
	for range 250 {
		s := random(r, "ab")
		for in := range inputs("ab", 4) {
			outs := outputs(s, in)
			texts := cheapest(outs, 6)
			for _, out := range cheapest(outs, 3) {
				texts = append(texts, out+"A", "A"+out, strings.ToLower(out), out[:len(out)/2])
			}
			texts = append(texts, "", "A", "AB")
			for _, a := range texts {
				for _, b := range texts {
					_, first := outs[a]
					_, second := outs[b]
					want := first && second && a != b
					proved(t, s, api.Twice{In: in, A: a, B: b}, want)
					if want {
						accepted++
					} else {
						rejected++
					}
				}
			}
		}
	}
	if accepted < 4000 || rejected < 40000 {
		t.Fatalf("%d were accepted, %d were not", accepted, rejected)
	}
}

func TestAllValues(t *testing.T) { // P1: whatever the arguments are
	r := rand.New(rand.NewSource(6))
	numbers := []int{math.MinInt, -1, 0, 0, 1, 1, 2, 7, 8, 9, 255, 1000, 1001, 1 << 32, math.MaxInt}
	texts := []string{"", "a", "b", "ab", "abab", "ababa", "A", "-", " ", "\x00", "\xff\xfe", "é", "z9", strings.Repeat("a", 40), strings.Repeat("a", 41), strings.Repeat("A", 1<<16)}
	sound := 0
	for range 5000 {
		s := random(r, "ab")
		s.Rules = slices.Clone(s.Rules)
		if r.Intn(2) == 0 {
			s.Modes = pick(r, numbers)
		}
		if r.Intn(2) == 0 {
			s.Accept = uint8(r.Intn(256))
		}
		for r.Intn(3) > 0 {
			s.Rules = append(s.Rules, api.Rule{From: pick(r, numbers), To: pick(r, numbers), In: pick(r, texts), Out: pick(r, texts), Cost: pick(r, numbers)})
		}
		twice := api.Twice{In: pick(r, texts), A: pick(r, texts), B: pick(r, texts)}
		alone, proves := single.Is(s), single.Proves(s, twice)
		found, err := single.Check(s)
		if (err == api.ErrScheme) != (flaw.Sound(s) != api.OK) || alone != (err == api.OK) || err != api.ErrTwice && found != (api.Twice{}) || proves && alone {
			t.Fatalf("%+v, %+v: %v, %v, %+v, %v", s, twice, alone, proves, found, err)
		}
		if err != api.ErrScheme {
			sound++
		}
	}
	if sound < 300 {
		t.Fatalf("only %d schemes were sound", sound)
	}
}

func TestLongTexts(t *testing.T) { // P1: inputs and outputs of any length
	s := sample(t)
	for _, n := range []int{1 << 10, 1 << 16, 1 << 22} {
		long := strings.Repeat("A", n)
		proved(t, s, api.Twice{In: "a", A: "A", B: long}, false)
		proved(t, s, api.Twice{In: "a", A: long, B: long}, false)
		proved(t, s, api.Twice{In: strings.Repeat("a", 40), A: strings.Repeat("A", 40), B: long}, false)
		proved(t, s, api.Twice{In: strings.ToLower(long), A: long, B: strings.Repeat("BC", n)}, false)
	}
	far := s
	far.Rules = make([]api.Rule, 1<<20)
	checked(t, far, api.Twice{}, api.ErrScheme)
	proved(t, far, api.Twice{In: "a", A: "A", B: "BC"}, false)
}
