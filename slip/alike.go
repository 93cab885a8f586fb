package slip

import "syllabary/api"

// pair is two bytes, the lesser one first, since the order of letters that are alike does not matter.
type pair [2]byte

func pairOf(a, b byte) pair {
	return pair{min(a, b), max(a, b)}
}

// validAlike reports whether there are not too many elements, all of them are right, and no two have the same letters.
func validAlike(alike []api.Alike) bool {
	if len(alike) > maxAlike {
		return false
	}
	for i, a := range alike {
		if a.A == a.B || !isLetter(a.A) || !isLetter(a.B) || !isCost(a.Cost) {
			return false
		}
		for _, b := range alike[:i] {
			if pairOf(a.A, a.B) == pairOf(b.A, b.B) {
				return false
			}
		}
	}
	return true
}

func isLetter(c byte) bool {
	return 'a' <= c && c <= 'z'
}

// puts returns a function that tells what it costs to type one byte for another, or for the same one.
func puts(l api.Slips) func(meant, typed byte) int {
	pairs := make([]pair, len(l.Alike))
	for i, a := range l.Alike {
		pairs[i] = pairOf(a.A, a.B)
	}
	return func(meant, typed byte) int {
		if meant == typed {
			return 0
		}
		both := pairOf(meant, typed)
		for i, p := range pairs {
			if p == both {
				return min(l.Put, l.Alike[i].Cost)
			}
		}
		return l.Put
	}
}
