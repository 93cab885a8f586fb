package flaw

import (
	"cmp"
	"slices"

	"syllabary/api"
)

func takesAny(r api.Rule) bool { return true }

func takesNothing(r api.Rule) bool { return r.In == "" }

func isRule(s api.Scheme, i int) bool { return 0 <= i && i < len(s.Rules) }

// firstChain returns the first chain, of at least one rule, that leads from start to one of the wanted modes, and has allowed rules only. It returns nil if there is none.
func firstChain(s api.Scheme, allowed func(api.Rule) bool, start int, wanted modes) []int {
	// A first chain without its last rule is a first chain too. So, as modes come out of the channel in the order of their first chains, what is found first is first.
	next := make(chan int, s.Modes)
	chains := make([][]int, s.Modes)
	next <- start
	for seen := only(start); len(next) > 0; {
		from := <-next
		for i, r := range s.Rules {
			if r.From != from || !allowed(r) {
				continue
			}
			if wanted.has(r.To) {
				return with(chains[from], i)
			}
			if !seen.has(r.To) {
				seen |= only(r.To)
				chains[r.To] = with(chains[from], i)
				next <- r.To
			}
		}
	}
	return nil
}

// with returns the chain with one rule more, in memory of its own.
func with(chain []int, i int) []int {
	return append(slices.Clone(chain), i)
}

// before reports whether the chain a comes before b.
func before(a, b []int) bool {
	return cmp.Or(cmp.Compare(len(a), len(b)), slices.Compare(a, b)) < 0
}

// follow returns the mode to which the chain l leads from start, and whether it is a chain of allowed rules.
func follow(s api.Scheme, allowed func(api.Rule) bool, start int, l []int) (int, bool) {
	mode := start
	for _, i := range l {
		if !isRule(s, i) || s.Rules[i].From != mode || !allowed(s.Rules[i]) {
			return 0, false
		}
		mode = s.Rules[i].To
	}
	return mode, true
}
