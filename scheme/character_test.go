package scheme_test

import (
	"math/rand"
	"strings"
	"testing"

	"syllabary/scheme"
)

func oracleLetters(s string) bool { return len(s) <= 40 && madeOf(s, smallLetters) }

func oracleWord(s string) bool { return s != "" && len(s) <= 20 && madeOf(s, wordBytes) }

// told checks Letters and Word.
func told(t *testing.T, s string, letters, word bool) {
	t.Helper()
	if scheme.Letters(s) != letters {
		t.Fatalf("Letters(%q) is %v", s, !letters)
	}
	if scheme.Word(s) != word {
		t.Fatalf("Word(%q) is %v", s, !word)
	}
}

func TestLettersAndWords(t *testing.T) { // P2.1
	told(t, "", true, false)
	told(t, "a", true, true)
	told(t, smallLetters, true, false)
	told(t, "Kana", false, true)
	told(t, "0", false, true)
	told(t, "ABCDEFGHIJKLMNOPQRST", false, true)
	told(t, "UVWXYZ0123456789", false, true)
	for _, s := range []string{" ", "-", "a b", "a\n", "ab\x00", "\xff", "é", "a\u0301", "a_b", "٣", "ａ"} {
		told(t, s, false, false)
	}
}

func TestLengthsOfTexts(t *testing.T) { // P2.1, P2.4
	for n := range 300 {
		told(t, strings.Repeat("z", n), n <= 40, 1 <= n && n <= 20)
		told(t, strings.Repeat("Z", n), n == 0, 1 <= n && n <= 20)
		told(t, strings.Repeat("9", n), n == 0, 1 <= n && n <= 20)
	}
	told(t, strings.Repeat("a", 1<<20), false, false)
}

func TestBytesOfTexts(t *testing.T) { // P2.1: each byte, alone and at each place of the longest texts
	for c := range 256 {
		small := 'a' <= c && c <= 'z'
		of := small || 'A' <= c && c <= 'Z' || '0' <= c && c <= '9'
		told(t, string([]byte{byte(c)}), small, of)
		for at := range 40 {
			b := []byte(strings.Repeat("m", 40))
			b[at] = byte(c)
			told(t, string(b), small, false)
		}
		for at := range 20 {
			b := []byte(strings.Repeat("m", 20))
			b[at] = byte(c)
			told(t, string(b), small, of)
		}
	}
}

func TestTwoTextsTogether(t *testing.T) { // P2.7
	r := rand.New(rand.NewSource(3))
	for range 20000 {
		a, b := randomText(r, smallLetters, 40), randomText(r, smallLetters, 40)
		told(t, a+b, len(a)+len(b) <= 40, a+b != "" && len(a)+len(b) <= 20)
		a, b = randomText(r, wordBytes, 20), randomText(r, wordBytes, 20)
		told(t, a+b, oracleLetters(a+b), a+b != "" && len(a)+len(b) <= 20)
	}
}

func TestPartsOfTexts(t *testing.T) { // P2.7
	r := rand.New(rand.NewSource(4))
	for range 200 {
		letters, word := randomText(r, smallLetters, 40), randomText(r, wordBytes, 20)
		for i := range len(letters) + 1 {
			for j := i; j <= len(letters); j++ {
				told(t, letters[i:j], true, i < j && j-i <= 20)
			}
		}
		for i := range len(word) + 1 {
			for j := i; j <= len(word); j++ {
				told(t, word[i:j], oracleLetters(word[i:j]), i < j)
			}
		}
	}
}

func TestRandomTexts(t *testing.T) { // P2.1
	r := rand.New(rand.NewSource(5))
	for range 50000 {
		s := randomText(r, wordBytes+" -_\n\x00\x80\xff{`@[/:", 45)
		told(t, s, oracleLetters(s), oracleWord(s))
		s = randomText(r, smallLetters, 45)
		told(t, s, oracleLetters(s), oracleWord(s))
	}
}
