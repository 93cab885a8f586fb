package scheme

import "syllabary/api"

// Kinds of characters are bits, so that characters of several kinds can be asked for at once.
const (
	small = 1 << iota
	big
	digit
)

const ofWords = small | big | digit

// stretch says that all characters from first to last are of one kind.
type stretch struct {
	first, last byte
	kind        int
}

var stretches = [...]stretch{
	{'a', 'z', small},
	{'A', 'Z', big},
	{'0', '9', digit},
}

// Letters reports whether s are letters: at most api.MaxInput small letters.
func Letters(s string) bool {
	return len(s) <= api.MaxInput && only(s, small)
}

// Word reports whether s is a word: 1 to api.MaxWord letters and digits.
func Word(s string) bool {
	return 1 <= len(s) && len(s) <= api.MaxWord && only(s, ofWords)
}

// only reports whether all bytes of s are of one of the kinds.
func only(s string, kinds int) bool {
	for i := range len(s) {
		if kindOf(s[i])&kinds == 0 {
			return false
		}
	}
	return true
}

// kindOf returns 0 for a byte that is of no kind.
func kindOf(c byte) int {
	for _, t := range stretches {
		if t.first <= c && c <= t.last {
			return t.kind
		}
	}
	return 0
}
