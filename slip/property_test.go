package slip_test

import (
	"math/rand"
	"slices"
	"strings"
	"testing"

	"syllabary/api"
	"syllabary/slip"
)

func TestNothing(t *testing.T) { // P7.2: 0 for equal texts, and more for all others
	r := rand.New(rand.NewSource(21))
	all := texts("abA", 4)
	for range 5 {
		l := someSlips(r, "ab")
		for i, a := range all {
			for j, b := range all {
				if d := slip.Distance(l, a, b); (d == 0) != (i == j) || d < 0 {
					t.Fatalf("Distance(%+v, %q, %q) = %d", l, a, b, d)
				}
			}
		}
	}
	least := api.Slips{Swap: 1, Drop: 1, Add: 1, Put: 1, Alike: letterPairs(20)}
	for range 300 {
		text := randomText(r, "abcdefg\x00\xff", 80)
		distanceIs(t, least, text, text, 0)
		distanceIs(t, least, text, strings.Clone(text), 0)
		other := mistyped(r, "abcdefg\x00\xff", text, 1)
		if d := slip.Distance(least, other, text); (d == 0) != (text == other) {
			t.Fatalf("Distance(%+v, %q, %q) = %d", least, other, text, d)
		}
	}
}

func TestSingleSlips(t *testing.T) { // P7.3: at any place, at most their own cost, and sometimes less
	r := rand.New(rand.NewSource(22))
	alphabet := "abcd\x80"
	own, less := 0, 0
	atMost := func(l api.Slips, typed, meant string, most int) {
		t.Helper()
		switch d := slip.Distance(l, typed, meant); {
		case d > most || d == 0:
			t.Fatalf("Distance(%+v, %q, %q) = %d, but one slip costs %d", l, typed, meant, d, most)
		case d == most:
			own++
		default:
			less++
		}
	}
	for range 300 {
		l := someSlips(r, "abcd")
		a := randomText(r, alphabet, 20)
		for i := range len(a) + 1 {
			for _, c := range []byte(alphabet) {
				atMost(l, a[:i]+string([]byte{c})+a[i:], a, l.Add)
				if i < len(a) && a[i] != c {
					atMost(l, a[:i]+string([]byte{c})+a[i+1:], a, l.Put)
					atMost(l, a[:i]+string([]byte{c})+a[i+1:], a, putCost(l, a[i], c))
				}
			}
			if i < len(a) {
				atMost(l, a[:i]+a[i+1:], a, l.Drop)
			}
			if i+1 < len(a) && a[i] != a[i+1] {
				atMost(l, a[:i]+a[i+1:i+2]+a[i:i+1]+a[i+2:], a, l.Swap)
			}
		}
	}
	if own < 10000 || less < 1000 {
		t.Fatalf("%d slips cost as much as they do, %d less", own, less)
	}
}

func TestParts(t *testing.T) { // P7.4: together they are at most as far as one after the other, and sometimes less
	r := rand.New(rand.NewSource(23))
	same, less := 0, 0
	for range 20000 {
		l := someSlips(r, "abc")
		a, b, c, d := randomText(r, "abc", 6), randomText(r, "abc", 6), randomText(r, "abc", 6), randomText(r, "abc", 6)
		sum := slip.Distance(l, a, b) + slip.Distance(l, c, d)
		switch both := slip.Distance(l, a+c, b+d); {
		case both > sum:
			t.Fatalf("%+v: %q from %q, and %q from %q, are %d, together %d", l, a, b, c, d, sum, both)
		case both == sum:
			same++
		default:
			less++
		}
	}
	if same < 1000 || less < 1000 {
		t.Fatalf("%d sums, %d distances that are less", same, less)
	}
	distanceIs(t, api.Slips{Swap: 1, Drop: 9, Add: 9, Put: 9}, "b"+"a", "a"+"b", 1) // a swap from one part to the other
}

func TestMirrors(t *testing.T) { // P7.5: backwards, and with typed and meant, and Drop and Add, exchanged
	r := rand.New(rand.NewSource(24))
	uneven := 0
	for range 10000 {
		l := someSlips(r, "abcd")
		a, b := randomText(r, "abcd\xc3", 15), randomText(r, "abcd\xc3", 15)
		d := slip.Distance(l, a, b)
		distanceIs(t, l, backwards(a), backwards(b), d)
		other := l
		other.Drop, other.Add = l.Add, l.Drop
		distanceIs(t, other, b, a, d)
		distanceIs(t, other, backwards(b), backwards(a), d)
		if slip.Distance(l, b, a) != d {
			uneven++
		}
	}
	if uneven < 1000 {
		t.Fatalf("only %d distances depend on the direction", uneven)
	}
}

func TestAlikeInAnyOrder(t *testing.T) { // P7.1: neither the order of the elements nor of their letters matters
	r := rand.New(rand.NewSource(25))
	for range 2000 {
		l := someSlips(r, "abcde")
		a, b := randomText(r, "abcde", 12), randomText(r, "abcde", 12)
		d := slip.Distance(l, a, b)
		l.Alike = slices.Clone(l.Alike)
		r.Shuffle(len(l.Alike), func(i, j int) { l.Alike[i], l.Alike[j] = l.Alike[j], l.Alike[i] })
		for i := range l.Alike {
			if x := &l.Alike[i]; r.Intn(2) == 0 {
				x.A, x.B = x.B, x.A
			}
		}
		distanceIs(t, l, a, b, d)
	}
}

// costsOf returns all costs of slips, in memory of their own: l has them as soon as these are changed.
func costsOf(l *api.Slips) []*int {
	l.Alike = slices.Clone(l.Alike)
	all := []*int{&l.Swap, &l.Drop, &l.Add, &l.Put}
	for i := range l.Alike {
		all = append(all, &l.Alike[i].Cost)
	}
	return all
}

func TestGreaterCosts(t *testing.T) { // P7.6: of one kind, or of all
	r := rand.New(rand.NewSource(26))
	same, more := 0, 0
	for range 3000 {
		l := someSlips(r, "abc")
		a, b := randomText(r, "abc", 8), randomText(r, "abc", 8)
		d := slip.Distance(l, a, b)
		all := l
		for i, cost := range costsOf(&all) {
			one := l
			c := costsOf(&one)[i]
			*c = min(1000, *c+1+r.Intn(5))
			*cost = *c
			for _, greater := range []api.Slips{one, all} {
				switch e := slip.Distance(greater, a, b); {
				case e < d:
					t.Fatalf("Distance(%+v, %q, %q) = %d; with %+v: %d", l, a, b, d, greater, e)
				case e == d:
					same++
				default:
					more++
				}
			}
		}
		none := l
		none.Alike = nil
		if e := slip.Distance(none, a, b); e < d {
			t.Fatalf("Distance(%+v, %q, %q) = %d; without Alike: %d", l, a, b, d, e)
		}
	}
	if same < 1000 || more < 1000 {
		t.Fatalf("%d distances remained, %d became greater", same, more)
	}
}

func TestTwiceTheCosts(t *testing.T) { // P7.6: as far as they are valid
	r := rand.New(rand.NewSource(27))
	for range 5000 {
		l := randomSlips(r, "abcd", 1, 2, 3, 50, 499, 500, 1+r.Intn(500))
		a, b := randomText(r, "abcd-", 15), randomText(r, "abcd-", 15)
		d := slip.Distance(l, a, b)
		for _, cost := range costsOf(&l) {
			*cost *= 2
		}
		if !slip.Valid(l) {
			t.Fatalf("%+v are not valid", l)
		}
		distanceIs(t, l, a, b, 2*d)
	}
}

func TestSeveralSlips(t *testing.T) { // P7.3, P7.4: on bytes of their own, at most the sum of their costs
	r := rand.New(rand.NewSource(28))
	for range 3000 {
		l := someSlips(r, "abc")
		typed, meant, sum := "", "", 0
		for range r.Intn(12) {
			c, d := pick(r, []string{"a", "b", "c"}), pick(r, []string{"a", "b", "c"})
			m, x, cost := c, c, 0
			switch r.Intn(6) {
			case 0:
				x, cost = "", l.Drop
			case 1:
				m, cost = "", l.Add
			case 2:
				x, cost = d, putCost(l, c[0], d[0])
			case 3:
				m, x, cost = c+d, d+c, l.Swap
			}
			typed, meant, sum = typed+x, meant+m, sum+cost
		}
		if d := slip.Distance(l, typed, meant); d > sum {
			t.Fatalf("Distance(%+v, %q, %q) = %d, not at most %d", l, typed, meant, d, sum)
		}
	}
}
