package route

import "syllabary/api"

// end has the indices of the rules of an end, and its cost.
type end struct {
	rules []int
	cost  int
}

// before reports whether e comes before other.
func (e end) before(other end) bool {
	if e.cost != other.cost {
		return e.cost < other.cost
	}
	if len(e.rules) != len(other.rules) {
		return len(e.rules) < len(other.rules)
	}
	for k, i := range e.rules {
		if i != other.rules[k] {
			return i < other.rules[k]
		}
	}
	return false
}

// startingWith returns the end that takes the rule i first, in memory of its own.
func (e end) startingWith(i, cost int) end {
	return end{rules: append([]int{i}, e.rules...), cost: cost + e.cost}
}

// firstEnds returns the first end from each mode that is live.
func firstEnds(s api.Scheme) map[int]end {
	ends := map[int]end{}
	for mode := range s.Modes {
		if accepting(s, mode) {
			ends[mode] = end{}
		}
	}
	rules := leaving(s)
	// A first end comes to no mode twice: without the rules in between, it would come before itself. So it has fewer rules than there are modes, and each round finds those with one rule more.
	for range s.Modes - 1 {
		improve(s, rules, ends)
	}
	return ends
}

// improve replaces ends by those that take one rule more and come before them. The order of the modes only decides which of them are found a round earlier.
func improve(s api.Scheme, rules map[int][]int, ends map[int]end) {
	for from, list := range rules {
		for _, i := range list {
			rest, live := ends[s.Rules[i].To]
			if !live {
				continue
			}
			found := rest.startingWith(i, s.Rules[i].Cost)
			if known, live := ends[from]; !live || found.before(known) {
				ends[from] = found
			}
		}
	}
}
