package output_test

import (
	"math/rand"
	"strings"
	"testing"

	"syllabary/api"
	"syllabary/output"
	"syllabary/route"
)

func TestGoesIntoRules(t *testing.T) { // P5.1: a rule may take more letters than are left
	s := soundScheme(t, "scheme 2 1,rule 0 1 abcd A 1,rule 1 0 b - 1,rule 1 0 ef - 1")
	for _, in := range []string{"", "a", "ab", "abc", "abcd", "abcdb", "abcde", "abcdef", "abcdba", "abcdefabcdbabc"} {
		goesIs(t, s, in, true)
	}
	for _, in := range []string{"b", "c", "d", "e", "aa", "ac", "abd", "abcc", "abcda", "abcdc", "abcdf", "abcdbb", "abcdeb", "abcdefb", "abcdefabcdbabcc"} {
		goesIs(t, s, in, false)
	}
	bestIs(t, s, "abcd", 50, nil, api.ErrNone)
	bestIs(t, s, "abcdb", 50, found("A", 2), api.OK)
}

func TestGoesAfterRulesThatTakeNothing(t *testing.T) { // P5.1: they may stand before the letters, and after them
	s := soundScheme(t, "scheme 4 8,rule 0 1 - - 0,rule 1 2 - x 0,rule 2 0 ab - 0,rule 1 3 c - 0,rule 2 3 - - 0")
	for _, in := range []string{"", "a", "ab", "aba", "abc", "c", "abababab", "ababc"} {
		goesIs(t, s, in, true)
	}
	for _, in := range []string{"b", "aa", "ca", "cc", "abb", "abca"} {
		goesIs(t, s, in, false)
	}
}

func TestGoesOfTheEmptyInput(t *testing.T) { // P5.1: if the scheme is sound, whether the mode 0 is accepting or not
	for modes := 1; modes <= 8; modes++ {
		for accept := 1; accept < 1<<modes; accept++ {
			s := api.Scheme{Modes: modes, Accept: uint8(accept)}
			goesIs(t, s, "", accept%2 == 1)
			for m := range modes - 1 {
				s.Rules = append(s.Rules, api.Rule{From: m, To: m + 1, In: "a"})
			}
			s.Rules = append(s.Rules, api.Rule{From: modes - 1, To: 0, In: "b"})
			goesIs(t, s, "", true)
			goesIs(t, s, strings.Repeat("a", modes), false)
			goesIs(t, s, strings.Repeat("a", modes-1)+"b", true)
		}
	}
}

func TestGoesForLongestInputs(t *testing.T) { // P5.1, P5.5: 40 letters, and 41, which whole routes take too
	s := soundScheme(t, "scheme 2 2,rule 0 0 a - 0,rule 0 1 bbbb - 0,rule 0 0 a A 0")
	for n := range 60 {
		a := strings.Repeat("a", n)
		goesIs(t, s, a, n <= 40)
		for m := 1; m <= 4; m++ {
			goesIs(t, s, a+"bbbb"[:m], n+m <= 40)
		}
		goesIs(t, s, a+"bc", false)
		goesIs(t, s, a+"bbbba", false)
	}
	long := soundScheme(t, "scheme 1 1,rule 0 0 abc - 0")
	in := strings.Repeat("abc", 20)
	for n := range 60 {
		goesIs(t, long, in[:n], n <= 40)
	}
	goesIs(t, long, in[:39]+"b", false)
	goesIs(t, long, "b"+in[:39], false)
}

func TestBeginningsGoOn(t *testing.T) { // P5.5: of what a whole route takes, also if it takes more than 40 letters
	r := rand.New(rand.NewSource(21))
	long := 0
	for range 2000 {
		s := anyShape(r, 1+r.Intn(8)).random(r)
		run := wholeRoute(t, r, s, r.Intn(40))
		for n := range min(len(run.In), 40) + 1 {
			goesIs(t, s, run.In[:n], true)
		}
		if len(run.In) > 40 {
			goesIs(t, s, run.In[:41], false)
			goesIs(t, s, run.In, false)
			long++
		}
	}
	if long < 100 {
		t.Fatalf("only %d routes took more than 40 letters", long)
	}
}

func TestInputsWithResultsGoOn(t *testing.T) { // P5.5
	r := rand.New(rand.NewSource(22))
	with, without := 0, 0
	for range 3000 {
		s := anyShape(r, 1+r.Intn(8)).random(r)
		in := randomInput(r, s, 8)
		_, err := output.Best(s, in, 1)
		goes := output.Goes(s, in)
		if err == api.OK && !goes {
			t.Fatalf("%q has a result in %+v, but does not go on", in, s)
		}
		if err == api.OK {
			with++
		} else if goes {
			without++
		}
	}
	if with < 1000 || without < 200 {
		t.Fatalf("%d inputs had a result, %d others went on", with, without)
	}
}

// beginnings returns, of what whole routes with at most so many rules take, all beginnings.
func beginnings(s api.Scheme, most int) map[string]bool {
	begun := map[string]bool{}
	var grow func(l []int)
	grow = func(l []int) {
		run := route.Run(s, l)
		if accepting(s, run.Mode) {
			for n := range len(run.In) + 1 {
				begun[run.In[:n]] = true
			}
		}
		for i, r := range s.Rules {
			if r.From == run.Mode && len(l) < most {
				grow(append(l[:len(l):len(l)], i))
			}
		}
	}
	grow(nil)
	return begun
}

func TestGoesForAllShortInputs(t *testing.T) { // P5.1: exactly those that whole routes begin with
	r := rand.New(rand.NewSource(23))
	on, off := 0, 0
	for range 400 {
		h := anyShape(r, 1+r.Intn(2))
		h.Most = 5
		s := h.random(r)
		// Three letters need no more than three rules that take some, with one before each that takes nothing, and then one to end.
		begun := beginnings(s, 7)
		var grow func(in string)
		grow = func(in string) {
			goesIs(t, s, in, begun[in])
			if begun[in] {
				on++
			} else {
				off++
			}
			for _, c := range "abc" {
				if len(in) < 3 {
					grow(in + string(c))
				}
			}
		}
		grow("")
	}
	if on < 1000 || off < 1000 {
		t.Fatalf("%d inputs went on, %d did not", on, off)
	}
}

func TestGoesAgainstQuestions(t *testing.T) { // P5.1: letter by letter, for one to eight modes and long inputs
	r := rand.New(rand.NewSource(24))
	on, off := 0, 0
	for range 4000 {
		s := anyShape(r, 1+r.Intn(8)).random(r)
		in := []byte(randomInput(r, s, 40))
		if len(in) > 0 && r.Intn(2) == 0 {
			in[r.Intn(len(in))] = "abc"[r.Intn(3)]
		}
		want := goesOn(s, 0, string(in))
		goesIs(t, s, string(in), want)
		if want && len(in) > 10 {
			on++
		}
		if !want && len(in) > 10 {
			off++
		}
	}
	if on < 300 || off < 300 {
		t.Fatalf("%d long inputs went on, %d did not", on, off)
	}
}

func TestGoesWithManyRoutes(t *testing.T) { // P5.1, P1: it has no limit
	s := product(32, 32)
	in := strings.Repeat("ab", 20)
	tooMany(t, s, in)
	goesIs(t, s, in, true)
	goesIs(t, s, in[:39]+"c", false)
	goesIs(t, s, in[:39]+"a", true)
	goesIs(t, s, "c"+in[:39], false)
}
