package single_test

import (
	"math/rand"
	"slices"
	"testing"

	"syllabary/api"
	"syllabary/flaw"
	"syllabary/output"
	"syllabary/single"
)

func TestWhatIsShownIsProved(t *testing.T) { // P8.2: and each of both outputs is one of a whole route
	r := rand.New(rand.NewSource(7))
	shown := 0
	for range 3000 {
		s := random(r, pick(r, []string{"a", "ab", "xyz"}))
		found, err := single.Check(s)
		proved(t, s, found, err == api.ErrTwice)
		if err != api.ErrTwice {
			continue
		}
		shown++
		outs := outputs(s, found.In)
		_, a := outs[found.A]
		_, b := outs[found.B]
		if !a || !b || found.A == found.B {
			t.Fatalf("Check(%+v) = %+v; the outputs are %v", s, found, outs)
		}
		proved(t, s, api.Twice{In: found.In, A: found.B, B: found.A}, true)
		proved(t, s, api.Twice{In: found.In, A: found.A, B: found.A}, false)
	}
	if shown < 1000 {
		t.Fatalf("only %d schemes were not single", shown)
	}
}

func TestNothingComesBefore(t *testing.T) { // P8.3: all shorter inputs, and all earlier ones of the same length
	r := rand.New(rand.NewSource(8))
	for range 1500 {
		s := random(r, "ab")
		found, err := single.Check(s)
		if err != api.ErrTwice || len(found.In) > 8 {
			continue
		}
		for in := range inputs("ab", len(found.In)) {
			if in == found.In {
				break
			}
			if l, err := output.Best(s, in, 2); err == api.OK && len(l) > 1 {
				t.Fatalf("Check(%+v) = %+v; but %q has %v", s, found, in, l)
			}
		}
	}
}

// taken returns what a random route takes: the first n letters of it, or fewer if no rule leads on.
func taken(r *rand.Rand, s api.Scheme, n int) string {
	in := ""
	for mode := 0; len(in) < n; {
		var next []api.Rule
		for _, rule := range s.Rules {
			if rule.From == mode {
				next = append(next, rule)
			}
		}
		if next == nil {
			return in
		}
		rule := pick(r, next)
		in, mode = in+rule.In, rule.To
	}
	return in[:n]
}

func TestOneResultAtMost(t *testing.T) { // P8.4: for inputs of any length in single schemes, short ones and what routes take
	r := rand.New(rand.NewSource(9))
	one, long := 0, 0
	for range 600 {
		s := random(r, "ab")
		if !single.Is(s) {
			continue
		}
		ins := slices.Collect(inputs("ab", 5))
		for range 40 {
			ins = append(ins, taken(r, s, r.Intn(41)))
		}
		for _, in := range ins {
			l, err := output.Best(s, in, 50)
			if len(l) > 1 || err == api.ErrArg {
				t.Fatalf("%+v is single, but %q has %v, %v", s, in, l, err)
			}
			if len(l) == 1 {
				one++
			}
			if len(l) == 1 && len(in) > 20 {
				long++
			}
		}
	}
	if one < 5000 || long < 1000 {
		t.Fatalf("%d inputs had one result, %d of them more than 20 letters", one, long)
	}
}

func TestWithoutOneRule(t *testing.T) { // P8.5: each one of a single scheme; and with more rules, the first input does not become longer
	r := rand.New(rand.NewSource(10))
	kept, lost, later := 0, 0, 0
	for range 500 {
		s := random(r, "ab")
		found, err := single.Check(s)
		for i := range s.Rules {
			fewer := s
			fewer.Rules = slices.Delete(slices.Clone(s.Rules), i, i+1)
			left, errLeft := single.Check(fewer)
			switch {
			case flaw.Sound(fewer) != api.OK:
				checked(t, fewer, api.Twice{}, api.ErrScheme)
				lost++
			case err == api.OK:
				checked(t, fewer, api.Twice{}, api.OK)
				kept++
			case errLeft == api.ErrTwice && (len(left.In) < len(found.In) || len(left.In) == len(found.In) && left.In < found.In):
				t.Fatalf("Check(%+v) = %+v; without rule %d it is %+v", s, found, i, left)
			case errLeft == api.OK:
				later++
			}
		}
	}
	if kept < 1000 || lost < 100 || later < 100 {
		t.Fatalf("%d were kept, %d were not sound, %d became single", kept, lost, later)
	}
}

func TestOtherCostsAndOtherOrder(t *testing.T) { // P8.6: the same input, though perhaps with other outputs
	r := rand.New(rand.NewSource(11))
	unique, same, others := 0, 0, 0
	for range 3000 {
		s := random(r, pick(r, []string{"a", "ab", "abc"}))
		found, err := single.Check(s)
		turned := s
		turned.Rules = slices.Clone(s.Rules)
		r.Shuffle(len(turned.Rules), func(i, j int) { turned.Rules[i], turned.Rules[j] = turned.Rules[j], turned.Rules[i] })
		checked(t, turned, found, err)
		dearest := pick(r, []int{1, 3, 1001})
		for i := range turned.Rules {
			turned.Rules[i].Cost = r.Intn(dearest)
		}
		if flaw.Sound(turned) != api.OK {
			continue // rules that were equal but for their costs
		}
		again, errAgain := single.Check(turned)
		if errAgain != err || again.In != found.In {
			t.Fatalf("Check(%+v) = %+v, %v; with other costs, %+v, it is %+v, %v", s, found, err, turned, again, errAgain)
		}
		is(t, turned, found.In, err == api.ErrTwice)
		switch {
		case err == api.OK:
			unique++
		case again != found:
			others++
		default:
			same++
		}
	}
	if unique < 1000 || same < 300 || others < 150 {
		t.Fatalf("%d schemes were single; of the others, %d had the same outputs then, and %d had other ones", unique, same, others)
	}
}

func TestRulesThatAreEqualButForCosts(t *testing.T) { // P8.6: as if there were one of them
	r := rand.New(rand.NewSource(12))
	for range 500 {
		s := random(r, "ab")
		found, err := single.Check(s)
		doubled := more(s)
		for _, rule := range s.Rules {
			rule.Cost += 500
			if len(doubled.Rules) < 64 && !slices.Contains(doubled.Rules, rule) {
				doubled.Rules = append(doubled.Rules, rule)
			}
		}
		checked(t, doubled, found, err)
	}
}

func TestArgumentsRemain(t *testing.T) { // P2, H4: also what stands behind the rules; and the same call has the same result
	r := rand.New(rand.NewSource(13))
	for range 500 {
		s := random(r, "ab")
		if r.Intn(5) == 0 {
			s.Accept = 0
		}
		behind := append(slices.Clone(s.Rules), api.Rule{From: 7, In: "kept"})
		s.Rules = behind[:len(s.Rules)]
		kept, modes, accept := slices.Clone(behind), s.Modes, s.Accept
		found, err := single.Check(s)
		proves := single.Proves(s, found)
		for range 3 {
			checked(t, s, found, err)
			proved(t, s, found, proves)
		}
		if !slices.Equal(behind, kept) || s.Modes != modes || s.Accept != accept {
			t.Fatalf("modified: %+v; they were %+v", behind, kept)
		}
	}
}
