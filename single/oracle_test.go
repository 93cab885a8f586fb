package single_test

import (
	"maps"
	"math/rand"
	"slices"
	"strconv"
	"strings"
	"testing"

	"syllabary/api"
	"syllabary/flaw"
	"syllabary/output"
	"syllabary/scheme"
	"syllabary/single"
)

// The functions here say again, in other ways than the package does, what inputs put out and which one of them is the first with two outputs.

func accepting(s api.Scheme, mode int) bool {
	return int(s.Accept)/(1<<mode)%2 == 1
}

// outputs returns what whole routes of a sound scheme put out that take in, with the least costs. It finds what can be put out for the ends of in first.
func outputs(s api.Scheme, in string) map[string]int {
	type spot struct{ Mode, At int }
	known := map[spot]map[string]int{}
	var from func(at spot) map[string]int
	from = func(at spot) map[string]int {
		if l, is := known[at]; is {
			return l
		}
		l := map[string]int{}
		if at.At == len(in) && accepting(s, at.Mode) {
			l[""] = 0
		}
		for _, r := range s.Rules {
			if r.From != at.Mode || !strings.HasPrefix(in[at.At:], r.In) {
				continue
			}
			for out, cost := range from(spot{r.To, at.At + len(r.In)}) {
				if old, is := l[r.Out+out]; !is || old > r.Cost+cost {
					l[r.Out+out] = r.Cost + cost
				}
			}
		}
		known[at] = l
		return l
	}
	return from(spot{})
}

// cheapest returns the n outputs that cost least, and of those that cost as much the lesser ones.
func cheapest(costs map[string]int, n int) []string {
	l := slices.Sorted(maps.Keys(costs))
	slices.SortStableFunc(l, func(a, b string) int { return costs[a] - costs[b] })
	return l[:min(n, len(l))]
}

// inputs yields all inputs of at most so many of the letters, shorter ones first.
func inputs(letters string, most int) func(yield func(in string) bool) {
	return func(yield func(in string) bool) {
		level := []string{""}
		for range most + 1 {
			var next []string
			for _, in := range level {
				if !yield(in) {
					return
				}
				for i := range letters {
					next = append(next, in+letters[i:i+1])
				}
			}
			level = next
		}
	}
}

// enumerated returns the first input of at most so many of the letters that has two outputs: it goes through all of them.
func enumerated(s api.Scheme, letters string, most int) (string, bool) {
	for in := range inputs(letters, most) {
		if len(outputs(s, in)) > 1 {
			return in, true
		}
	}
	return "", false
}

// stand is where a route stands that takes an input letter by letter: it has put out Out, takes Rest, and is then in Mode.
type stand struct {
	Mode      int
	Rest, Out string
}

// crowd has the stands of all routes that take an input.
type crowd map[stand]bool

// silent adds what rules that take nothing lead to.
func (c crowd) silent(s api.Scheme) {
	for n := -1; n != len(c); {
		n = len(c)
		for at := range maps.Clone(c) {
			for _, r := range s.Rules {
				if at.Rest == "" && r.From == at.Mode && r.In == "" {
					c[stand{r.To, "", at.Out + r.Out}] = true
				}
			}
		}
	}
}

// after returns the crowd after one letter more.
func (c crowd) after(s api.Scheme, letter string) crowd {
	next := crowd{}
	for at := range c {
		if strings.HasPrefix(at.Rest, letter) {
			next[stand{at.Mode, at.Rest[1:], at.Out}] = true
		}
		for _, r := range s.Rules {
			if at.Rest == "" && r.From == at.Mode && strings.HasPrefix(r.In, letter) {
				next[stand{r.To, r.In[1:], at.Out + r.Out}] = true
			}
		}
	}
	next.silent(s)
	return next
}

// twice reports whether there are two outputs.
func (c crowd) twice(s api.Scheme) bool {
	outs := map[string]bool{}
	for at := range c {
		if at.Rest == "" && accepting(s, at.Mode) {
			outs[at.Out] = true
		}
	}
	return len(outs) > 1
}

// name returns a text that is the same for crowds that can go on in the same ways, but for what all of their routes have put out at the beginning.
func (c crowd) name() string {
	var outs, l []string
	for at := range c {
		outs = append(outs, at.Out)
	}
	least, greatest, same := slices.Min(outs), slices.Max(outs), 0
	for same < len(least) && least[same] == greatest[same] {
		same++
	}
	for at := range c {
		l = append(l, strconv.Itoa(at.Mode)+" "+at.Rest+" "+at.Out[same:])
	}
	slices.Sort(l)
	return strings.Join(l, ",")
}

// crowded returns the first input with two outputs: it goes through all inputs of at most 40 letters, but leaves those out that can go on like an earlier one. Its last result is false if there are too many of them.
func crowded(s api.Scheme, letters string) (first string, twice, known bool) {
	type step struct {
		In    string
		Crowd crowd
	}
	start := crowd{stand{}: true}
	start.silent(s)
	seen := map[string]bool{start.name(): true}
	for queue := []step{{"", start}}; len(queue) > 0; queue = queue[1:] {
		at := queue[0]
		if at.Crowd.twice(s) {
			return at.In, true, true
		}
		if len(queue) > 300 || len(seen) > 3000 || len(at.Crowd) > 100 {
			return "", false, false
		}
		for i := 0; i < len(letters) && len(at.In) < 40; i++ {
			next := at.Crowd.after(s, letters[i:i+1])
			if len(next) > 0 && !seen[next.name()] {
				seen[next.name()] = true
				queue = append(queue, step{at.In + letters[i:i+1], next})
			}
		}
	}
	return "", false, true
}

// is checks the results of Check and Is for a sound scheme of which the first input with two outputs is known, and what Proves says of it.
func is(t *testing.T, s api.Scheme, first string, twice bool) {
	t.Helper()
	if !twice {
		checked(t, s, api.Twice{}, api.OK)
		return
	}
	l := cheapest(outputs(s, first), 2)
	found := api.Twice{In: first, A: l[0], B: l[1]}
	checked(t, s, found, api.ErrTwice)
	if best, err := output.Best(s, first, 50); err != api.OK || len(best) < 2 || best[0].Text != found.A || best[1].Text != found.B {
		t.Fatalf("Best(%+v, %q) = %v, %v; it should begin with %+v", s, first, best, err, found)
	}
	proved(t, s, found, true)
}

// checked checks the results of Check and Is.
func checked(t *testing.T, s api.Scheme, want api.Twice, err api.Errno) {
	t.Helper()
	if found, e := single.Check(s); found != want || e != err {
		t.Fatalf("Check(%+v) = %+v, %v; it should be %+v, %v", s, found, e, want, err)
	}
	if single.Is(s) != (err == api.OK) {
		t.Fatalf("Is(%+v) is %v, but Check returns %v", s, err != api.OK, err)
	}
}

// proved checks the result of Proves.
func proved(t *testing.T, s api.Scheme, twice api.Twice, want bool) {
	t.Helper()
	if single.Proves(s, twice) != want {
		t.Fatalf("Proves(%+v, %+v) is %v", s, twice, !want)
	}
}

// parsed parses the text of a scheme, whose newlines may be commas.
func parsed(t *testing.T, text string) api.Scheme {
	t.Helper()
	s, _, err := scheme.Parse(strings.ReplaceAll(text, ",", "\n") + "\n")
	if err != api.OK {
		t.Fatalf("%q: %v", text, err)
	}
	return s
}

// parsedSound parses the text of a scheme and checks that it is sound.
func parsedSound(t *testing.T, text string) api.Scheme {
	t.Helper()
	s := parsed(t, text)
	if err := flaw.Sound(s); err != api.OK {
		t.Fatalf("%q is not sound: %v", text, err)
	}
	return s
}

func pick[T any](r *rand.Rand, l []T) T { return l[r.Intn(len(l))] }

// text returns a random text of at most so many of the bytes.
func text(r *rand.Rand, bytes string, most int) string {
	b := make([]byte, r.Intn(most+1))
	for i := range b {
		b[i] = bytes[r.Intn(len(bytes))]
	}
	return string(b)
}

// plain returns a sound scheme whose rules put out anything, of which many are not single.
func plain(r *rand.Rand, letters string) api.Scheme {
	outs := pick(r, []string{"A", "AB", "aA1"})
	most := []int{2, 3, 5, 8, 12}[r.Intn(5)]
	return drawn(r, 1+r.Intn(8), most, func(from, to int, silent bool) (api.Rule, bool) {
		in := pick(r, []string{letters[:1], letters[len(letters)-1:], text(r, letters, 4)})
		if silent {
			in = ""
		}
		return api.Rule{In: in, Out: text(r, outs, 2)}, in != "" || silent
	})
}

// turned returns a sound scheme that is single: each letter stands for a text, and a mode for a text by which the routes that lead there are ahead of what they have taken. Accepting modes are ahead by the same text.
func turned(r *rand.Rand, letters string) api.Scheme {
	for {
		meant := map[rune]string{}
		for _, letter := range letters {
			meant[letter] = text(r, pick(r, []string{"A", "AB"}), 2)
		}
		aheads := []string{"", "", "A", "AA", "AB", "B", "BA", "ABA"}
		ahead := [8]string{}
		for mode := 1; mode < 8; mode++ {
			ahead[mode] = pick(r, aheads)
		}
		modes := 1 + r.Intn(8)
		s := drawn(r, modes, 8*modes, func(from, to int, silent bool) (api.Rule, bool) {
			in, out := text(r, letters, 4), ""
			if silent {
				in = ""
			}
			for _, letter := range in {
				out += meant[letter]
			}
			out, fits := strings.CutPrefix(out+ahead[to], ahead[from])
			return api.Rule{In: in, Out: out}, fits && len(out) <= 4 && (in != "" || silent)
		})
		same := pick(r, aheads)
		s.Accept = 0
		for mode := range s.Modes {
			if ahead[mode] == same && r.Intn(3) > 0 {
				s.Accept |= 1 << mode
			}
		}
		if flaw.Sound(s) == api.OK {
			return s
		}
	}
}

// drawn returns a sound scheme with at most so many rules, which draw makes, or refuses, for two modes. Rules may be silent, so take nothing, that lead to modes which come later in a random order.
func drawn(r *rand.Rand, modes, most int, draw func(from, to int, silent bool) (api.Rule, bool)) api.Scheme {
	for {
		order := r.Perm(modes)
		s := api.Scheme{Modes: modes, Accept: uint8(1 + r.Intn(1<<modes-1))}
		wanted := 1 + r.Intn(most)
		for range 5 * wanted {
			from, to := r.Intn(modes), r.Intn(modes)
			if r.Intn(2) == 0 {
				to = (from + 1) % modes
			}
			rule, fits := draw(from, to, r.Intn(4) == 0 && order[from] < order[to])
			rule.From, rule.To, rule.Cost = from, to, r.Intn(3)*r.Intn(3)
			if fits && !slices.Contains(s.Rules, rule) && len(s.Rules) < wanted {
				s.Rules = append(s.Rules, rule)
			}
		}
		if flaw.Sound(s) == api.OK {
			return s
		}
	}
}

// spoilt returns the scheme with one change, and whether it is still sound.
func spoilt(r *rand.Rand, s api.Scheme, letters string) (api.Scheme, bool) {
	s.Rules = slices.Clone(s.Rules)
	if len(s.Rules) == 0 {
		return s, true
	}
	rule := &s.Rules[r.Intn(len(s.Rules))]
	switch r.Intn(5) {
	case 0:
		rule.Out = text(r, "ABC", 4)
	case 1:
		rule.In = text(r, letters, 4)
	case 2:
		rule.To = r.Intn(s.Modes)
	case 3:
		rule.From = r.Intn(s.Modes)
	default:
		s.Accept = uint8(1 + r.Intn(1<<s.Modes-1))
	}
	return s, flaw.Sound(s) == api.OK
}
