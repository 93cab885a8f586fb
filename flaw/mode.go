package flaw

import "syllabary/api"

// modes is a set of modes: the bit i, which has the value 2^i, stands for the mode i.
type modes uint8

func only(mode int) modes { return 1 << mode }

func (m modes) has(mode int) bool { return m&only(mode) != 0 }

// kinds has the modes to which chains lead from the mode 0, and those from which chains lead to accepting ones.
type kinds struct{ reached, live modes }

// useful returns the modes that whole routes come to.
func (k kinds) useful() modes { return k.reached & k.live }

func (k kinds) dead(r api.Rule) bool {
	return !k.reached.has(r.From) || !k.live.has(r.To)
}

// kindsOf needs no more rounds than there are modes but one: each round that finds anything finds a mode, and one is known before.
func kindsOf(s api.Scheme) kinds {
	k := kinds{reached: only(0), live: modes(s.Accept)}
	for range s.Modes - 1 {
		for _, r := range s.Rules {
			if k.reached.has(r.From) {
				k.reached |= only(r.To)
			}
			if k.live.has(r.To) {
				k.live |= only(r.From)
			}
		}
	}
	return k
}
