package slip_test

import (
	"math/rand"
	"strings"
	"testing"

	"syllabary/api"
	"syllabary/slip"
)

func TestExamples(t *testing.T) { // P7.1: the section 'Examples'
	l := exampleSlips()
	distanceIs(t, l, "ba", "ab", 1)
	distanceIs(t, l, "eb", "ab", 1)
	distanceIs(t, l, "cb", "ab", 3)
	distanceIs(t, l, "a", "ab", 2)
	distanceIs(t, l, "abc", "ab", 2)
	words := []string{"ab", "", "ba", "ab", "eb"}
	nearestIs(t, l, "ab", words, 1, []api.Found{{Word: 0, Cost: 0}, {Word: 3, Cost: 0}, {Word: 2, Cost: 1}, {Word: 4, Cost: 1}})
}

func TestAgainstAllSlips(t *testing.T) { // P7.1: all texts of at most 5 bytes that may be typed for one, for slips of all kinds
	r := rand.New(rand.NewSource(11))
	swaps, likes := 0, 0
	for range 150 {
		alphabet := pick(r, []string{"ab", "abc", "a", "az", "aA", "b\x00", "\xff\xfe"})
		l := someSlips(r, alphabet)
		plain, never := l, l
		plain.Alike = nil
		never.Swap = 1 << 40
		meant := randomText(r, alphabet, 4)
		for typed, cost := range typings(l, meant, alphabet, 5) {
			distanceIs(t, l, typed, meant, cost)
			if searched(never, typed, meant) > cost {
				swaps++
			}
			if searched(plain, typed, meant) > cost {
				likes++
			}
		}
	}
	if swaps < 200 || likes < 500 {
		t.Fatalf("%d distances are less for swaps, %d for letters that are alike", swaps, likes)
	}
}

func TestAgainstSearch(t *testing.T) { // P7.1: all pairs of short texts of two or three letters
	r := rand.New(rand.NewSource(12))
	for _, x := range []struct {
		alphabet string
		most     int
	}{{"ab", 5}, {"abc", 3}} {
		all := texts(x.alphabet, x.most)
		for range 20 {
			l := someSlips(r, x.alphabet)
			for _, meant := range all {
				for _, typed := range all {
					distanceIs(t, l, typed, meant, searched(l, typed, meant))
				}
			}
		}
	}
}

func TestLongerTexts(t *testing.T) { // P7.1: of any bytes, for up to 20 pairs of letters that are alike
	r := rand.New(rand.NewSource(13))
	for _, alphabet := range []string{"a", "ab", "abcd", "abcdefghij", "abXY01", "éü ", "abcdefghijklmnopqrstuvwxyz", "\x00\x01\x7f\x80\xff"} {
		small := strings.Trim(alphabet, "XY01éü \x00\x01\x7f\x80\xff")
		for range 60 {
			l := someSlips(r, small)
			if !slip.Valid(l) {
				t.Fatalf("%+v are not valid", l)
			}
			typed, meant := randomText(r, alphabet, 60), randomText(r, alphabet, 60)
			distanceIs(t, l, typed, meant, searched(l, typed, meant))
			typed = mistyped(r, alphabet, meant, 1+r.Intn(10))
			distanceIs(t, l, typed, meant, searched(l, typed, meant))
		}
	}
}

// mistyped returns a text with some slips, which may meet each other.
func mistyped(r *rand.Rand, alphabet, text string, slips int) string {
	for range slips {
		i, c := r.Intn(len(text)+1), randomText(r, alphabet, 1)
		switch kind := r.Intn(4); {
		case kind == 0 || i == len(text):
			text = text[:i] + c + text[i:]
		case kind == 1:
			text = text[:i] + text[i+1:]
		case kind == 2 || i+1 == len(text):
			text = text[:i] + c + text[i+1:]
		default:
			text = text[:i] + text[i+1:i+2] + text[i:i+1] + text[i+2:]
		}
	}
	return text
}

func TestKindsAlone(t *testing.T) { // P7.1: each kind of slip, while the others are dear
	dear := api.Slips{Swap: 1000, Drop: 1000, Add: 1000, Put: 1000}
	for _, cost := range []int{1, 2, 17, 999, 1000} {
		swap, drop, add, put, alike := dear, dear, dear, dear, dear
		swap.Swap, drop.Drop, add.Add, put.Put = cost, cost, cost, cost
		alike.Alike = []api.Alike{{A: 'a', B: 'z', Cost: cost}}
		distanceIs(t, swap, "ba", "ab", cost)
		distanceIs(t, swap, "badc", "abcd", 2*cost)
		distanceIs(t, swap, "acbd", "abcd", cost)
		distanceIs(t, swap, "az", "aa", 1000)
		distanceIs(t, drop, "", "a", cost)
		distanceIs(t, drop, "", "aaa", 3*cost)
		distanceIs(t, drop, "ac", "abc", cost)
		distanceIs(t, drop, "abc", "ac", 1000)
		distanceIs(t, add, "a", "", cost)
		distanceIs(t, add, "aaa", "", 3*cost)
		distanceIs(t, add, "abc", "ac", cost)
		distanceIs(t, add, "ac", "abc", 1000)
		distanceIs(t, put, "b", "a", cost)
		distanceIs(t, put, "abbba", "acdea", 3*cost)
		distanceIs(t, put, "ba", "ab", min(2*cost, 1000))
		distanceIs(t, alike, "z", "a", cost)
		distanceIs(t, alike, "a", "z", cost)
		distanceIs(t, alike, "zaza", "azaz", min(4*cost, 2000))
		distanceIs(t, alike, "b", "a", 1000)
		distanceIs(t, alike, "A", "z", 1000)
	}
}

func TestSwapAndTwoOthers(t *testing.T) { // P7.1: a swap may be dearer than two other slips, or cheaper
	for swap := 1; swap <= 12; swap++ {
		for _, x := range []struct{ drop, add, put, alike int }{{2, 3, 1000, 1000}, {1000, 2, 3, 1000}, {2, 1000, 4, 1000}, {1000, 1000, 3, 1000}, {1000, 1000, 1000, 4}, {5, 5, 5, 5}, {4, 4, 8, 3}} {
			l := api.Slips{Swap: swap, Drop: x.drop, Add: x.add, Put: x.put, Alike: []api.Alike{{A: 'a', B: 'b', Cost: x.alike}}}
			want := min(swap, x.drop+x.add, 2*x.put, 2*x.alike)
			distanceIs(t, l, "ba", "ab", want)
			distanceIs(t, l, "ab", "ba", want)
			distanceIs(t, l, "xbay", "xaby", want)
			distanceIs(t, l, "ba--ba", "ab--ab", searched(l, "ba--ba", "ab--ab"))
		}
	}
}

func TestLettersThatAreAlike(t *testing.T) { // P7.1: for Put or for less, in either order; not for other letters
	for _, x := range []api.Alike{{A: 'a', B: 'e'}, {A: 'e', B: 'a'}} {
		for cost := 1; cost <= 12; cost++ {
			x.Cost = cost
			l := api.Slips{Swap: 30, Drop: 20, Add: 20, Put: 7, Alike: []api.Alike{{A: 'a', B: 'f', Cost: 1}, x, {A: 'g', B: 'e', Cost: 1}}}
			distanceIs(t, l, "a", "e", min(cost, 7))
			distanceIs(t, l, "e", "a", min(cost, 7))
			distanceIs(t, l, "xay", "xey", min(cost, 7))
			distanceIs(t, l, "ee", "aa", min(2*cost, 14))
			distanceIs(t, l, "i", "a", 7)
			distanceIs(t, l, "E", "a", 7)
			distanceIs(t, l, "a", "A", 7)
			distanceIs(t, l, "f", "e", 7) // a is like both, but a byte is in one slip
			distanceIs(t, l, "f", "a", 1)
			distanceIs(t, l, "e", "g", 1)
			l.Drop, l.Add = 2, 3
			distanceIs(t, l, "a", "e", min(cost, 5))
			distanceIs(t, l, "e", "a", min(cost, 5))
		}
	}
}

func TestEachLetterAlike(t *testing.T) { // P7.1: all pairs of letters, with one pair that is alike for less
	for a := byte('a'); a <= 'z'; a++ {
		for b := byte('a'); b <= 'z'; b++ {
			l := api.Slips{Swap: 50, Drop: 50, Add: 50, Put: 40}
			if a == b {
				continue
			}
			l.Alike = []api.Alike{{A: a, B: b, Cost: 30}}
			for c := byte('a'); c <= 'z'; c++ {
				for d := byte('a'); d <= 'z'; d++ {
					want := 40
					switch {
					case c == d:
						want = 0
					case c == a && d == b || c == b && d == a:
						want = 30
					}
					distanceIs(t, l, string([]byte{c}), string([]byte{d}), want)
				}
			}
		}
	}
}

func TestPlacesInAlike(t *testing.T) { // P7.1: an element counts wherever it stands
	for i := range 20 {
		alike := letterPairs(20)
		for j := range alike {
			alike[j].Cost = 20
		}
		alike[i].Cost = 10
		l := api.Slips{Swap: 100, Drop: 100, Add: 100, Put: 30, Alike: alike}
		for j, x := range alike {
			want := 20
			if i == j {
				want = 10
			}
			distanceIs(t, l, string([]byte{x.A}), string([]byte{x.B}), want)
			distanceIs(t, l, string([]byte{x.B}), string([]byte{x.A}), want)
		}
		distanceIs(t, l, "z", "y", 30)
	}
}

func TestEqualNeighbors(t *testing.T) { // P7.1: they are not exchanged, but typed as they are
	for _, swap := range []int{1, 5, 1000} {
		l := api.Slips{Swap: swap, Drop: 3, Add: 4, Put: 5}
		distanceIs(t, l, "aa", "aa", 0)
		distanceIs(t, l, "aaa", "aa", 4)
		distanceIs(t, l, "aa", "aaa", 3)
		distanceIs(t, l, "bb", "aa", 10)
		distanceIs(t, l, "aab", "aba", min(swap, 7))
		distanceIs(t, l, "baa", "aab", 7)
		distanceIs(t, l, "abab", "baba", min(2*swap, 7))
		distanceIs(t, l, "bbaa", "aabb", searched(l, "bbaa", "aabb"))
	}
}

func TestEachByteInOneSlip(t *testing.T) { // P7.1: what was exchanged is neither dropped, nor added to, nor put, nor exchanged again
	l := api.Slips{Swap: 1, Drop: 10, Add: 10, Put: 100}
	distanceIs(t, l, "ca", "abc", 30) // not a swap of a and c, without b
	distanceIs(t, l, "abc", "ca", 30)
	distanceIs(t, l, "acb", "abc", 1)
	distanceIs(t, l, "cab", "abc", 20) // not two swaps
	distanceIs(t, l, "bca", "abc", 20)
	distanceIs(t, l, "cba", "abc", 21) // not three swaps, but one beside a drop and an add
	distanceIs(t, l, "bxa", "ab", 30)  // nothing between what was exchanged
	distanceIs(t, l, "ba", "axb", 30)
	l = api.Slips{Swap: 1, Drop: 10, Add: 10, Put: 3, Alike: []api.Alike{{A: 'a', B: 'b', Cost: 1}, {A: 'b', B: 'c', Cost: 1}}}
	distanceIs(t, l, "c", "a", 3) // not by b
	distanceIs(t, l, "cb", "ac", 4)
	distanceIs(t, l, "ca", "ab", 4)
	distanceIs(t, l, "bax", "abc", 4)
}

func TestOtherBytes(t *testing.T) { // P7.1: all bytes; only letters may be alike
	l := exampleSlips()
	l.Swap = 4
	for a := range 256 {
		for b := range 256 {
			x, y := string([]byte{byte(a)}), string([]byte{byte(b)})
			want := 3
			switch {
			case a == b:
				want = 0
			case a == 'a' && b == 'e' || a == 'e' && b == 'a':
				want = 1
			}
			distanceIs(t, l, x, y, want)
			distanceIs(t, l, "x"+x, "x"+y, want)
			if a != b {
				distanceIs(t, l, x+y, y+x, min(4, 2*want))
			}
		}
	}
	distanceIs(t, l, "", "é", 4) // two bytes
	distanceIs(t, l, "e", "é", 5)
	distanceIs(t, l, "\xa9\xc3", "é", 4)
	distanceIs(t, l, "a\x00b", "ab", 2)
	distanceIs(t, l, "ab\x00", "ab", 2)
}

func TestEmptyTexts(t *testing.T) { // P7.1
	l := api.Slips{Swap: 1, Drop: 3, Add: 5, Put: 1, Alike: letterPairs(20)}
	distanceIs(t, l, "", "", 0)
	for n := range 100 {
		for _, c := range []string{"a", "ab", "\x00", "é"} {
			text := strings.Repeat(c, n)
			distanceIs(t, l, "", text, 3*len(text))
			distanceIs(t, l, text, "", 5*len(text))
		}
	}
}

func TestLongTexts(t *testing.T) { // P7.1: of any length; sums beyond 2^32
	l := api.Slips{Swap: 999, Drop: 1000, Add: 998, Put: 997, Alike: []api.Alike{{A: 'a', B: 'b', Cost: 996}}}
	a, b, c := strings.Repeat("a", 3000), strings.Repeat("b", 2000), strings.Repeat("c", 2500)
	distanceIs(t, l, a, a, 0)
	distanceIs(t, l, a, b, 2000*996+1000*998)
	distanceIs(t, l, b, a, 2000*996+1000*1000)
	distanceIs(t, l, a, c, 2500*997+500*998)
	distanceIs(t, l, a+b, a+c, 2000*997+500*1000)
	distanceIs(t, l, a+"x"+b, a+"y"+b, 997)
	distanceIs(t, l, a+"yx"+b, a+"xy"+b, 999)
	distanceIs(t, l, "x"+a, a+"y", 2*997)
	distanceIs(t, l, strings.Repeat("ba-", 900), strings.Repeat("ab-", 900), 900*999)
	l.Drop, l.Add = 1000, 1000
	distanceIs(t, l, strings.Repeat("yx12345", 300), strings.Repeat("xy12345", 300), 300*999)
	huge := strings.Repeat("abcdefgh", 1<<20)
	distanceIs(t, l, "", huge, 1000<<23)
	distanceIs(t, l, huge, "", 1000<<23)
	distanceIs(t, l, huge, "h", 1000<<23-1000)
	distanceIs(t, l, "ha", huge, 1000<<23-2000)
}

func TestLongRandomTexts(t *testing.T) { // P7.1: a few hundred bytes, against the search
	r := rand.New(rand.NewSource(14))
	for range 12 {
		alphabet := pick(r, []string{"ab", "abcd", "abcdefghijklmnop"})
		l := someSlips(r, alphabet)
		meant := randomText(r, alphabet, 100) + strings.Repeat(alphabet, 10)
		for _, typed := range []string{randomText(r, alphabet, 250), mistyped(r, alphabet, meant, 40)} {
			distanceIs(t, l, typed, meant, searched(l, typed, meant))
		}
	}
}
