package single_test

import (
	"math/rand"
	"testing"

	"syllabary/api"
	"syllabary/flaw"
	"syllabary/single"
)

func TestExamples(t *testing.T) { // P8.1: each row
	for _, c := range []struct {
		text string
		want api.Twice
		err  api.Errno
	}{
		{"scheme 1 1,rule 0 0 a A 0,rule 0 0 b B 0", api.Twice{}, api.OK},
		{"scheme 1 1,rule 0 0 a A 3,rule 0 0 b B 7", api.Twice{}, api.OK},
		{"scheme 1 1,rule 0 0 a A 0,rule 0 0 ab B 0,rule 0 0 b - 0", api.Twice{In: "ab", A: "A", B: "B"}, api.ErrTwice},
		{"scheme 1 1,rule 0 0 a A 0,rule 0 0 aa AA 0", api.Twice{}, api.OK},
		{"scheme 1 1,rule 0 0 a A 2,rule 0 0 aa AA 5", api.Twice{}, api.OK},
		{"scheme 1 1,rule 0 0 a x 0,rule 0 0 aa y 0", api.Twice{In: "aa", A: "xx", B: "y"}, api.ErrTwice},
		{"scheme 1 1", api.Twice{}, api.OK},
	} {
		s := parsedSound(t, c.text)
		checked(t, s, c.want, c.err)
		proved(t, s, c.want, c.err == api.ErrTwice)
	}
}

func TestSingleSchemes(t *testing.T) { // P8.1: what looks like two outputs, but is one
	for _, text := range []string{
		"scheme 8 255",
		"scheme 1 1,rule 0 0 a - 0,rule 0 0 aa - 0,rule 0 0 b - 5,rule 0 0 bab - 1",
		"scheme 1 1,rule 0 0 a A 1,rule 0 0 a A 2",                                                      // the same but for the cost
		"scheme 2 3,rule 0 1 - - 0,rule 1 1 a A 0,rule 0 0 a A 0",                                       // by two ways into the same mode
		"scheme 2 2,rule 0 1 - A 0,rule 1 1 a aA 0,rule 0 0 a Aa 0",                                     // one way is ahead of the other
		"scheme 4 8,rule 0 1 a ABAB 0,rule 0 2 a AB 0,rule 1 3 b - 0,rule 2 3 b AB 0",                   // one way puts out later what the other one has put out
		"scheme 1 1,rule 0 0 ab A 0,rule 0 0 ba A 0,rule 0 0 a - 0,rule 0 0 b A 0",                      // an A for each b
		"scheme 3 1,rule 0 1 a X 0,rule 0 2 a Y 0,rule 1 0 b - 0,rule 2 0 c - 0",                        // what differs is taken by other letters
		"scheme 3 1,rule 0 1 ab X 0,rule 0 2 ac Y 0,rule 1 0 ab - 0,rule 2 0 ba - 0",                    // within rules
		"scheme 3 3,rule 0 1 a X 0,rule 0 2 a Y 0,rule 2 2 a Z 0,rule 2 0 b b 0",                        // only the mode 1 is accepting
		"scheme 2 1,rule 0 0 aba X 0,rule 0 1 ab Y 0,rule 1 0 b Z 0",                                    // a rest that does not go on
		"scheme 2 1,rule 1 0 a X 0,rule 1 0 a Y 0,rule 1 1 b Z 0",                                       // no route has these rules
		"scheme 4 9,rule 0 1 - A 0,rule 1 3 a B 0,rule 0 2 - AB 0,rule 2 3 a - 0,rule 3 3 a - 0",        // silent rules, and the same in the end
		"scheme 1 1,rule 0 0 a A 0,rule 0 0 ab AB 0,rule 0 0 b B 0,rule 0 0 ba BA 0,rule 0 0 aba ABA 0", // many ways, one output
	} {
		s := parsedSound(t, text)
		if first, twice, known := crowded(s, "abc"); twice || !known {
			t.Fatalf("%q: %q, %v", text, first, known)
		}
		is(t, s, "", false)
	}
}

func TestFirstInputs(t *testing.T) { // P8.1, P8.3: the shortest, and of those the first one
	for _, c := range []struct{ text, in, a, b string }{
		{"scheme 2 3,rule 0 1 - A 0", "", "", "A"},
		{"scheme 2 3,rule 0 1 - A 7,rule 0 1 - B 5,rule 0 1 - C 5", "", "", "B"},
		{"scheme 3 4,rule 0 1 - A 0,rule 0 2 - A 0,rule 1 2 - B 0,rule 2 2 a b 0", "", "A", "AB"},
		{"scheme 1 1,rule 0 0 a A 0,rule 0 0 a B 0", "a", "A", "B"},
		{"scheme 1 1,rule 0 0 a B 0,rule 0 0 a A 0", "a", "A", "B"},
		{"scheme 1 1,rule 0 0 a B 0,rule 0 0 a A 1", "a", "B", "A"},
		{"scheme 1 1,rule 0 0 a C 0,rule 0 0 a B 0,rule 0 0 a A 9", "a", "B", "C"},
		{"scheme 1 1,rule 0 0 z A 0,rule 0 0 z B 0", "z", "A", "B"},
		{"scheme 1 1,rule 0 0 z A 0,rule 0 0 z - 0,rule 0 0 b A 9,rule 0 0 b - 9", "b", "", "A"},
		{"scheme 1 1,rule 0 0 aa A 0,rule 0 0 aa - 0,rule 0 0 z A 9,rule 0 0 z - 9", "z", "", "A"},
		{"scheme 1 1,rule 0 0 ba A 0,rule 0 0 ba B 0,rule 0 0 az C 0,rule 0 0 az D 0", "az", "C", "D"},
		{"scheme 1 1,rule 0 0 a A 0,rule 0 0 b B 0,rule 0 0 ab C 9,rule 0 0 ba C 0", "ab", "AB", "C"},
		{"scheme 1 1,rule 0 0 aa A 0,rule 0 0 aaa B 0", "aaaaa", "AB", "BA"},
		{"scheme 1 1,rule 0 0 aaa A 0,rule 0 0 aaaa B 0", "aaaaaaa", "AB", "BA"},
		{"scheme 1 1,rule 0 0 aaa A 0,rule 0 0 aaaa A 0", "aaaaaaaaaaaa", "AAA", "AAAA"},
		{"scheme 1 1,rule 0 0 abab A 0,rule 0 0 ab B 0", "abab", "A", "BB"},
		{"scheme 2 1,rule 0 1 a A 0,rule 1 0 b B 0,rule 0 0 ab A 0", "ab", "A", "AB"},
		{"scheme 3 1,rule 0 1 a X 0,rule 0 2 a Y 0,rule 1 0 b - 0,rule 2 0 bb - 0,rule 0 0 b - 0", "abb", "X", "Y"},
		{"scheme 3 6,rule 0 1 a ABAB 0,rule 0 2 a ABA 0,rule 1 1 b - 0,rule 2 2 b A 0", "a", "ABA", "ABAB"},
		{"scheme 3 6,rule 0 1 ab A 0,rule 0 2 a AB 0,rule 2 2 b - 0", "ab", "A", "AB"},
		{"scheme 3 4,rule 0 1 a A 0,rule 1 2 - B 0,rule 0 2 a AB 0,rule 2 2 b B 0,rule 1 2 - BB 0", "a", "AB", "ABB"},
	} {
		s := parsedSound(t, c.text)
		first, twice, known := crowded(s, "abz")
		if !known || !twice || first != c.in {
			t.Fatalf("%q: %q, %v, %v", c.text, first, twice, known)
		}
		is(t, s, first, true)
		checked(t, s, api.Twice{In: c.in, A: c.a, B: c.b}, api.ErrTwice)
	}
}

// random returns a sound scheme of one of several kinds.
func random(r *rand.Rand, letters string) api.Scheme {
	s := turned(r, letters)
	if r.Intn(4) == 0 {
		s = plain(r, letters)
	}
	for r.Intn(4) > 0 {
		if changed, sound := spoilt(r, s, letters); sound {
			s = changed
		}
	}
	return s
}

func TestAllInputsOfFewLetters(t *testing.T) { // P8.1, P8.3: Check and Is against a search through all of them
	r := rand.New(rand.NewSource(1))
	for _, c := range []struct {
		letters string
		most    int
	}{{"a", 14}, {"ab", 7}, {"abc", 5}} {
		single, not, longer := 0, 0, 0
		for range 1500 {
			s := random(r, c.letters)
			first, twice := enumerated(s, c.letters, c.most)
			if twice {
				is(t, s, first, true)
				not++
				continue
			}
			if later(t, s, c.most) {
				longer++
			} else {
				single++
			}
		}
		if single < 300 || not < 300 {
			t.Fatalf("%q: %d schemes were single, %d were not, %d of them after more letters", c.letters, single, not+longer, longer)
		}
	}
}

// later checks what Check returns for a sound scheme in which no input of so many letters has two outputs, and returns whether a longer one has.
func later(t *testing.T, s api.Scheme, most int) bool {
	t.Helper()
	found, err := single.Check(s)
	if err == api.OK {
		is(t, s, "", false)
		return false
	}
	if err != api.ErrTwice || len(found.In) <= most || len(outputs(s, found.In)) < 2 {
		t.Fatalf("Check(%+v) = %+v, %v; no input of %d letters has two outputs", s, found, err, most)
	}
	proved(t, s, found, true)
	return true
}

func TestAllInputs(t *testing.T) { // P8.1, P8.3, P8.7: up to the greatest length, for schemes that can be searched in another way
	r := rand.New(rand.NewSource(2))
	lengths := map[int]int{}
	single, unknown := 0, 0
	for range 5000 {
		s := random(r, "ab")
		first, twice, known := crowded(s, "abc")
		if !known {
			unknown++
			continue
		}
		if few, early := enumerated(s, "ab", 3); early != (twice && len(first) <= 3) || early && few != first {
			t.Fatalf("%+v: the searches found %q and %q", s, few, first)
		}
		is(t, s, first, twice)
		if twice {
			lengths[len(first)]++
		} else {
			single++
		}
	}
	if single < 1500 || unknown > 100 || len(lengths) < 12 || lengths[0] < 100 || lengths[2] < 200 || lengths[4] < 100 || lengths[8] < 15 {
		t.Fatalf("%d schemes were single, %d could not be searched, the others have these lengths: %v", single, unknown, lengths)
	}
}

func TestOneLetter(t *testing.T) { // P8.1, P8.3, P8.7: all inputs up to the greatest length
	r := rand.New(rand.NewSource(3))
	lengths := map[int]int{}
	single := 0
	for range 3000 {
		s := random(r, "a")
		if _, twice, known := crowded(s, "ab"); !twice && !known {
			continue
		}
		first, twice := enumerated(s, "a", 40)
		is(t, s, first, twice)
		if twice {
			lengths[len(first)]++
		} else {
			single++
		}
	}
	if single < 1000 || len(lengths) < 12 || lengths[0] < 50 || lengths[2] < 100 || lengths[4] < 50 {
		t.Fatalf("%d schemes were single, the others have these lengths: %v", single, lengths)
	}
}

func TestSchemesThatAreSingleAsMade(t *testing.T) { // P8.1: also large ones
	r := rand.New(rand.NewSource(4))
	large := 0
	for range 2000 {
		s := turned(r, pick(r, []string{"a", "ab", "xyz"}))
		checked(t, s, api.Twice{}, api.OK)
		if len(s.Rules) > 12 {
			large++
		}
		if flaw.Sound(s) != api.OK {
			t.Fatalf("the test has spoilt %+v", s)
		}
	}
	if large < 200 {
		t.Fatalf("only %d schemes had more than 12 rules", large)
	}
}
