package output

import (
	"maps"
	"strings"

	"syllabary/api"
)

// pair is a mode to which a route leads, with the output that it puts out.
type pair struct {
	mode int
	out  string
}

// pairs has the least cost of a route for each pair at a place.
type pairs map[pair]int

// lower sets the cost of key if it has none or a greater one, and reports whether it did.
func lower[K comparable](costs map[K]int, key K, cost int) bool {
	if known, is := costs[key]; is && known <= cost {
		return false
	}
	costs[key] = cost
	return true
}

// A keeper returns what is kept of an output that is followed by more, and false if a route that puts them out does not matter.
type keeper func(out, more string) (string, bool)

func all(out, more string) (string, bool) { return out + more, true }

func nothing(out, more string) (string, bool) { return "", true }

// beginningsOf returns the keeper of outputs that text begins with.
func beginningsOf(text string) keeper {
	return func(out, more string) (string, bool) {
		if !strings.HasPrefix(text[len(out):], more) {
			return "", false
		}
		return text[:len(out)+len(more)], true
	}
}

// search follows the routes of a sound scheme that take in. Where it finds more than most pairs at a place, it does not find all of them.
type search struct {
	in    string
	rules map[string][]api.Rule // by what they take
	keep  keeper
	most  int
}

func searchFor(s api.Scheme, in string, keep keeper, most int) search {
	rules := map[string][]api.Rule{}
	for _, r := range s.Rules {
		rules[r.In] = append(rules[r.In], r)
	}
	return search{in: in, rules: rules, keep: keep, most: most}
}

// last returns the pairs at the last place, and whether there are not too many at any place.
func (w search) last() (pairs, bool) {
	var last pairs
	for _, at := range w.places {
		if len(at) > w.most {
			return nil, false
		}
		last = at
	}
	return last, true
}

// places yields each place of the input with the pairs there.
func (w search) places(yield func(i int, at pairs) bool) {
	known := map[int]pairs{}
	for i := range len(w.in) + 1 {
		at := pairs{}
		if i == 0 {
			at[pair{}] = 0
		}
		for n := 1; n <= min(i, api.MaxIn); n++ {
			w.lead(known[i-n], at, w.in[i-n:i])
		}
		w.complete(at)
		if !yield(i, at) {
			return
		}
		known[i] = at
		delete(known, i-api.MaxIn) // no rule takes so many letters that it is needed again
	}
}

// complete adds the pairs to which rules that take nothing lead from those at the same place. There is an end to it: in a sound scheme, such rules do not lead round from a mode that a route leads to.
func (w search) complete(at pairs) {
	for fresh := maps.Clone(at); len(fresh) > 0; {
		fresh = w.lead(fresh, at, "")
	}
}

// lead adds to the pairs at a place those to which rules that take the letters lead from others. It returns those that are new or have become cheaper.
func (w search) lead(from, at pairs, letters string) pairs {
	fresh := pairs{}
	for p, cost := range from {
		if len(at) > w.most {
			break
		}
		for _, r := range w.rules[letters] {
			if r.From != p.mode {
				continue
			}
			out, kept := w.keep(p.out, r.Out)
			next := pair{r.To, out}
			if kept && lower(at, next, cost+r.Cost) {
				fresh[next] = cost + r.Cost
			}
		}
	}
	return fresh
}
