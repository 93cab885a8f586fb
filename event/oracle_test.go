package event_test

import (
	"fmt"
	"math/rand"
	"reflect"
	"regexp"
	"strings"

	"syllabary/api"
)

// The functions here say again, in other ways than the package does, which events are valid and what their lines are.

var keysOfChord = regexp.MustCompile(`\Aa?b?c?d?e?f?g?h?i?j?k?l?m?n?o?p?q?r?s?t?u?v?w?x?y?z?\z`)

func oracleLetters(s string) bool {
	return strings.Trim(s, "abcdefghijklmnopqrstuvwxyz") == ""
}

func oraclePoints(points []api.Point) bool {
	for _, p := range points {
		if p.X < 0 || p.X > 1000 || p.Y < 0 || p.Y > 1000 {
			return false
		}
	}
	return true
}

// alone reports whether no other field of e is set than those of own.
func alone(e, own api.Event) bool {
	own.Kind = e.Kind
	return e.Keys == own.Keys && e.Text == own.Text && e.N == own.N && e.L == own.L && len(e.P) == len(own.P)
}

func oracleValid(e api.Event) bool {
	switch e.Kind {
	case 1:
		return alone(e, api.Event{Keys: e.Keys}) && len(e.Keys) == 1 && oracleLetters(e.Keys)
	case 2:
		return alone(e, api.Event{Keys: e.Keys}) && len(e.Keys) >= 2 && len(e.Keys) <= 4 && keysOfChord.MatchString(e.Keys)
	case 3:
		return alone(e, api.Event{P: e.P}) && len(e.P) == 1 && oraclePoints(e.P)
	case 4:
		return alone(e, api.Event{P: e.P}) && len(e.P) >= 2 && len(e.P) <= 12 && oraclePoints(e.P)
	case 5:
		return alone(e, api.Event{Text: e.Text}) && len(e.Text) >= 1 && len(e.Text) <= 20 && oracleLetters(e.Text)
	case 9:
		return alone(e, api.Event{N: e.N, L: e.L}) && e.N >= 0 && e.N <= 39 && e.L >= 1 && e.L <= 40
	case 10:
		return alone(e, api.Event{N: e.N}) && e.N >= 0 && e.N <= 49
	case 6, 7, 8, 11, 12:
		return alone(e, api.Event{})
	}
	return false
}

const coordinate = `(?:0|[1-9][0-9]{0,2}|1000)`

var lineForm = regexp.MustCompile(`\A(?:key [a-z]` +
	`|chord [a-z]{2,4}` +
	`|touch ` + coordinate + ` ` + coordinate +
	`|stroke(?: ` + coordinate + ` ` + coordinate + `){2,12}` +
	`|paste [a-z]{1,20}` +
	`|erase|left|right|commit|cancel` +
	`|hold (?:[0-9]|[123][0-9]) (?:[1-9]|[123][0-9]|40)` +
	`|choose (?:[0-9]|[1234][0-9]))\z`)

// oracleLine reports whether s is the line of a valid event.
func oracleLine(s string) bool {
	if !lineForm.MatchString(s) {
		return false
	}
	keys, chord := strings.CutPrefix(s, "chord ")
	return !chord || keysOfChord.MatchString(keys)
}

func oraclePrint(e api.Event) string {
	switch e.Kind {
	case 1:
		return "key " + e.Keys
	case 2:
		return "chord " + e.Keys
	case 3:
		return fmt.Sprintf("touch %d %d", e.P[0].X, e.P[0].Y)
	case 4:
		s := "stroke"
		for _, p := range e.P {
			s += fmt.Sprintf(" %d %d", p.X, p.Y)
		}
		return s
	case 5:
		return "paste " + e.Text
	case 9:
		return fmt.Sprintf("hold %d %d", e.N, e.L)
	case 10:
		return fmt.Sprintf("choose %d", e.N)
	}
	return map[int]string{6: "erase", 7: "left", 8: "right", 11: "commit", 12: "cancel"}[e.Kind]
}

// sameEvent takes nil and empty lists for equal.
func sameEvent(a, b api.Event) bool {
	if len(a.P) == 0 && len(b.P) == 0 {
		a.P, b.P = nil, nil
	}
	return reflect.DeepEqual(a, b)
}

func randomCoordinate(r *rand.Rand) int {
	if r.Intn(3) == 0 {
		return []int{0, 1, 9, 10, 99, 100, 999, 1000}[r.Intn(8)]
	}
	return r.Intn(1001)
}

func randomPoints(r *rand.Rand, n int) []api.Point {
	var points []api.Point
	for range n {
		points = append(points, api.Point{X: randomCoordinate(r), Y: randomCoordinate(r)})
	}
	return points
}

func randomLetters(r *rand.Rand, n int) string {
	b := make([]byte, n)
	for i := range b {
		b[i] = byte('a' + r.Intn(26))
	}
	return string(b)
}

func randomChord(r *rand.Rand) string {
	n, s := 2+r.Intn(3), ""
	for _, i := range r.Perm(26)[:n] {
		s += string(rune('a' + i))
	}
	b := []byte(s)
	for i := range b {
		for j := range i {
			if b[j] > b[i] {
				b[i], b[j] = b[j], b[i]
			}
		}
	}
	return string(b)
}

func randomEvent(r *rand.Rand) api.Event {
	e := api.Event{Kind: 1 + r.Intn(12)}
	switch e.Kind {
	case 1:
		e.Keys = randomLetters(r, 1)
	case 2:
		e.Keys = randomChord(r)
	case 3:
		e.P = randomPoints(r, 1)
	case 4:
		e.P = randomPoints(r, 2+r.Intn(11))
	case 5:
		e.Text = randomLetters(r, 1+r.Intn(20))
	case 9:
		e.N, e.L = r.Intn(40), 1+r.Intn(40)
	case 10:
		e.N = r.Intn(50)
	}
	return e
}

// spoil changes a field of e, so that it is mostly not valid any more.
func spoil(r *rand.Rand, e api.Event) api.Event {
	texts := []string{"", "a", "ab", "ba", "aa", "abcd", "abcde", "A", "{", "`", "é", "a\x00", "\xff", " ", "a b", strings.Repeat("z", 20), strings.Repeat("z", 21)}
	numbers := []int{-1 << 63, -1, 0, 1, 39, 40, 41, 49, 50, 1<<63 - 1}
	switch r.Intn(6) {
	case 0:
		e.Kind = []int{-1 << 63, -1, 0, 1, 2, 3, 4, 5, 6, 7, 8, 9, 10, 11, 12, 13, 1<<63 - 1}[r.Intn(17)]
	case 1:
		e.Keys = texts[r.Intn(len(texts))]
	case 2:
		e.Text = texts[r.Intn(len(texts))]
	case 3:
		e.N = numbers[r.Intn(len(numbers))]
	case 4:
		e.L = numbers[r.Intn(len(numbers))]
	case 5:
		e.P = randomPoints(r, r.Intn(14))
		if len(e.P) > 0 && r.Intn(2) == 0 {
			e.P[r.Intn(len(e.P))] = []api.Point{{X: -1}, {Y: -1}, {X: 1001}, {Y: 1001}, {X: -1 << 63, Y: 1<<63 - 1}}[r.Intn(5)]
		}
	}
	return e
}

// edit changes one byte of a line, or takes it out, or puts one in.
func edit(r *rand.Rand, s string) string {
	at := r.Intn(len(s) + 1)
	put := string("abz 0129-+\n\r\t\x00A_"[r.Intn(16)])
	switch r.Intn(3) {
	case 0:
		return s[:at] + put + s[at:]
	case 1:
		return s[:at] + s[min(at+1, len(s)):]
	}
	return s[:at] + put + s[min(at+1, len(s)):]
}
