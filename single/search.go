package single

import (
	"slices"

	"syllabary/api"
)

// enough is how many gaps are followed from two places: whatever both routes put out from there on, it makes their outputs equal for one gap at most, and so different for one of two.
const enough = 2

// places are where two routes stand that have taken the same input.
type places struct{ a, b place }

// pair has the places of two routes, and the gap between what they have put out.
type pair struct {
	at  places
	gap gap
}

// group has an input, and those of its pairs that are to be followed.
type group struct {
	in    string
	pairs []pair
}

// search follows pairs of routes of a scheme; known has the gaps that were found first for their places.
type search struct {
	scheme api.Scheme
	starts starts
	known  map[places][]gap
}

// firstTwice returns the first input of a sound scheme that has two outputs, and whether there is one. As groups come in the order of their inputs, what is found first is first.
func firstTwice(s api.Scheme) (string, bool) {
	w := search{scheme: s, starts: startsOf(s), known: map[places][]gap{}}
	first, twice := "", false
	waiting := []group{{pairs: w.complete(w.enter(nil, places{}, gap{}))}}
inputs:
	for len(waiting) > 0 {
		next := waiting[0]
		for _, p := range next.pairs {
			if w.differs(p) {
				first, twice = next.in, true
				break inputs
			}
		}
		waiting = append(waiting[1:], w.further(next)...)
	}
	return first, twice
}

// differs reports whether both routes are whole and have put out different texts.
func (w search) differs(p pair) bool {
	return p.gap != gap{} && w.whole(p.at.a) && w.whole(p.at.b)
}

func (w search) whole(p place) bool {
	return p.rest == "" && w.scheme.Accept>>p.mode&1 == 1
}

// further returns the groups of the inputs that have one letter more.
func (w search) further(from group) []group {
	if len(from.in) == api.MaxInput {
		return nil
	}
	var l []group
	for c := 'a'; c <= 'z'; c++ {
		letter := string(c)
		if pairs := w.follow(from.pairs, letter); len(pairs) > 0 {
			l = append(l, group{from.in + letter, pairs})
		}
	}
	return l
}

// follow returns the pairs that the letter leads to.
func (w search) follow(from []pair, letter string) []pair {
	var l []pair
	for _, p := range from {
		for _, a := range w.starts.steps(p.at.a, letter) {
			for _, b := range w.starts.steps(p.at.b, letter) {
				l = w.enter(l, places{a.to, b.to}, p.gap.with(a.out, b.out))
			}
		}
	}
	return w.complete(l)
}

// complete adds the pairs that rules which take nothing lead to, one of both routes after the other.
func (w search) complete(l []pair) []pair {
	for i := 0; i < len(l); i++ {
		p := l[i]
		for _, a := range w.starts.steps(p.at.a, "") {
			l = w.enter(l, places{a.to, p.at.b}, p.gap.with(a.out, ""))
		}
		for _, b := range w.starts.steps(p.at.b, "") {
			l = w.enter(l, places{p.at.a, b.to}, p.gap.with("", b.out))
		}
	}
	return l
}

// enter adds a pair, unless the same one or enough others are known from this input or earlier ones.
func (w search) enter(l []pair, at places, g gap) []pair {
	gaps := w.known[at]
	if len(gaps) == enough || slices.Contains(gaps, g) {
		return l
	}
	w.known[at] = append(gaps, g)
	return append(l, pair{at, g})
}
