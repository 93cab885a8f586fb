package slip_test

import (
	"math/rand"
	"slices"
	"strings"
	"testing"

	"syllabary/api"
	"syllabary/slip"
)

// The functions here say again, in other ways than the package does, what texts may be typed for another one, and what it costs.

// putCost returns what it costs to type b for a, which is another byte.
func putCost(l api.Slips, a, b byte) int {
	cost := l.Put
	for _, x := range l.Alike {
		if (x.A == a && x.B == b || x.A == b && x.B == a) && x.Cost < cost {
			cost = x.Cost
		}
	}
	return cost
}

// typings returns all texts of at most so many bytes, all of them bytes of the alphabet, that may be typed for meant, with their least costs: it goes through all lists of slips.
func typings(l api.Slips, meant, alphabet string, most int) map[string]int {
	costs := map[string]int{}
	var goOn func(rest, typed string, cost int)
	goOn = func(rest, typed string, cost int) {
		if len(typed) > most {
			return
		}
		for _, c := range []byte(alphabet) {
			goOn(rest, typed+string([]byte{c}), cost+l.Add)
		}
		if rest == "" {
			if old, is := costs[typed]; !is || old > cost {
				costs[typed] = cost
			}
			return
		}
		goOn(rest[1:], typed+rest[:1], cost)
		goOn(rest[1:], typed, cost+l.Drop)
		for _, c := range []byte(alphabet) {
			if c != rest[0] {
				goOn(rest[1:], typed+string([]byte{c}), cost+putCost(l, rest[0], c))
			}
		}
		if len(rest) > 1 && rest[0] != rest[1] {
			goOn(rest[2:], typed+rest[1:2]+rest[:1], cost+l.Swap)
		}
	}
	goOn(meant, "", 0)
	return costs
}

// spot is how much of two texts has been gone through.
type spot struct{ meant, typed int }

// searched returns the distance as the cost of the first spot at the ends of both texts, where spots are visited in the order of their costs.
func searched(l api.Slips, typed, meant string) int {
	open := map[int][]spot{0: {{}}}
	done := map[spot]bool{}
	for cost := 0; ; cost++ {
		for len(open[cost]) > 0 {
			at := open[cost][0]
			open[cost] = open[cost][1:]
			if done[at] {
				continue
			}
			done[at] = true
			m, t := meant[at.meant:], typed[at.typed:]
			if m == "" && t == "" {
				return cost
			}
			reach := func(m, t, more int) {
				open[cost+more] = append(open[cost+more], spot{at.meant + m, at.typed + t})
			}
			if m != "" {
				reach(1, 0, l.Drop)
			}
			if t != "" {
				reach(0, 1, l.Add)
			}
			if m != "" && t != "" && m[0] == t[0] {
				reach(1, 1, 0)
			}
			if m != "" && t != "" && m[0] != t[0] {
				reach(1, 1, putCost(l, m[0], t[0]))
			}
			if len(m) > 1 && len(t) > 1 && m[0] != m[1] && t[:2] == string([]byte{m[1], m[0]}) {
				reach(2, 2, l.Swap)
			}
		}
		delete(open, cost)
	}
}

// texts returns all texts of at most so many bytes of the alphabet.
func texts(alphabet string, most int) []string {
	all := []string{""}
	for i := 0; i < len(all); i++ {
		if len(all[i]) == most {
			continue
		}
		for _, c := range []byte(alphabet) {
			all = append(all, all[i]+string([]byte{c}))
		}
	}
	return all
}

// ranked returns all words with their distances, collected from the least distance on.
func ranked(l api.Slips, typed string, words []string) []api.Found {
	at := map[int][]api.Found{}
	for i, w := range words {
		cost := searched(l, typed, w)
		at[cost] = append(at[cost], api.Found{Word: i, Cost: cost})
	}
	var all []api.Found
	for cost := 0; len(all) < len(words); cost++ {
		all = append(all, at[cost]...)
	}
	return all
}

func pick[T any](r *rand.Rand, l []T) T { return l[r.Intn(len(l))] }

// randomText returns a text of at most so many bytes of the alphabet.
func randomText(r *rand.Rand, alphabet string, most int) string {
	var b strings.Builder
	for range r.Intn(most + 1) {
		b.WriteByte(alphabet[r.Intn(len(alphabet))])
	}
	return b.String()
}

// randomSlips returns slips with such costs, and with pairs of letters of the alphabet that are alike, in either order.
func randomSlips(r *rand.Rand, alphabet string, costs ...int) api.Slips {
	l := api.Slips{Swap: pick(r, costs), Drop: pick(r, costs), Add: pick(r, costs), Put: pick(r, costs)}
	for i := range len(alphabet) {
		for j := range i {
			if a, b := alphabet[i], alphabet[j]; len(l.Alike) < 20 && r.Intn(3) == 0 {
				if r.Intn(2) == 0 {
					a, b = b, a
				}
				l.Alike = append(l.Alike, api.Alike{A: a, B: b, Cost: pick(r, costs)})
			}
		}
	}
	r.Shuffle(len(l.Alike), func(i, j int) { l.Alike[i], l.Alike[j] = l.Alike[j], l.Alike[i] })
	return l
}

// someSlips returns slips for letters of the alphabet, whose costs are all alike, or few, or any.
func someSlips(r *rand.Rand, alphabet string) api.Slips {
	return randomSlips(r, alphabet, pick(r, [][]int{{1}, {1, 2, 3}, {2, 3, 4, 5, 7}, {1, 10, 100}, {1, 999, 1000}, {1 + r.Intn(30), 1 + r.Intn(30), 1 + r.Intn(30)}})...)
}

// exampleSlips are those of the section 'Examples'.
func exampleSlips() api.Slips {
	return api.Slips{Swap: 1, Drop: 2, Add: 2, Put: 3, Alike: []api.Alike{{A: 'a', B: 'e', Cost: 1}}}
}

func backwards(text string) string {
	b := []byte(text)
	slices.Reverse(b)
	return string(b)
}

// shown returns a text for a message: without its middle, if it is long.
func shown(text string) string {
	if len(text) > 200 {
		return text[:90] + " .. " + text[len(text)-90:]
	}
	return text
}

func distanceIs(t *testing.T, l api.Slips, typed, meant string, want int) {
	t.Helper()
	if got := slip.Distance(l, typed, meant); got != want {
		t.Fatalf("Distance(%+v, %q, %q) = %d, not %d", l, shown(typed), shown(meant), got, want)
	}
}

func nearestIs(t *testing.T, l api.Slips, typed string, words []string, most int, want []api.Found) {
	t.Helper()
	if got := slip.Nearest(l, typed, words, most); !slices.Equal(got, want) {
		t.Fatalf("Nearest(%+v, %q, %q, %d) = %v, not %v", l, typed, words, most, got, want)
	}
}

func TestTruthsAreTheSame(t *testing.T) { // the two oracles against each other
	r := rand.New(rand.NewSource(1))
	for range 100 {
		l := someSlips(r, "abc")
		meant := randomText(r, "abc", 4)
		for typed, cost := range typings(l, meant, "abc", 4) {
			if got := searched(l, typed, meant); got != cost {
				t.Fatalf("%+v: %q for %q costs %d, or %d", l, typed, meant, cost, got)
			}
		}
	}
	if n := len(typings(exampleSlips(), "ab", "abc", 4)); n != 121 || len(texts("abc", 4)) != 121 {
		t.Fatalf("there are %d texts of at most 4 bytes, or %d", n, len(texts("abc", 4)))
	}
}
