package event_test

import (
	"math/rand"
	"reflect"
	"strings"
	"testing"

	"syllabary/api"
	"syllabary/event"
)

type pair struct {
	e    api.Event
	line string
}

func points(xy ...int) []api.Point {
	var l []api.Point
	for i := 0; i+1 < len(xy); i += 2 {
		l = append(l, api.Point{X: xy[i], Y: xy[i+1]})
	}
	return l
}

// pairs has ordinary events and those at the limits.
func pairs() []pair {
	return []pair{
		{api.Event{Kind: api.Key, Keys: "a"}, "key a"},
		{api.Event{Kind: api.Key, Keys: "z"}, "key z"},
		{api.Event{Kind: api.Chord, Keys: "ab"}, "chord ab"},
		{api.Event{Kind: api.Chord, Keys: "amz"}, "chord amz"},
		{api.Event{Kind: api.Chord, Keys: "wxyz"}, "chord wxyz"},
		{api.Event{Kind: api.Touch, P: points(0, 0)}, "touch 0 0"},
		{api.Event{Kind: api.Touch, P: points(1000, 1000)}, "touch 1000 1000"},
		{api.Event{Kind: api.Touch, P: points(20, 305)}, "touch 20 305"},
		{api.Event{Kind: api.Stroke, P: points(1, 1, 2, 20)}, "stroke 1 1 2 20"},
		{api.Event{Kind: api.Stroke, P: points(0, 1000, 1000, 0, 10, 100)}, "stroke 0 1000 1000 0 10 100"},
		{api.Event{Kind: api.Stroke, P: points(7, 7, 7, 7)}, "stroke 7 7 7 7"},
		{api.Event{Kind: api.Stroke, P: points(1, 2, 3, 4, 5, 6, 7, 8, 9, 10, 11, 12, 13, 14, 15, 16, 17, 18, 19, 20, 21, 22, 23, 24)},
			"stroke 1 2 3 4 5 6 7 8 9 10 11 12 13 14 15 16 17 18 19 20 21 22 23 24"},
		{api.Event{Kind: api.Paste, Text: "q"}, "paste q"},
		{api.Event{Kind: api.Paste, Text: "abcdefghijklmnopqrst"}, "paste abcdefghijklmnopqrst"},
		{api.Event{Kind: api.Paste, Text: "zzya"}, "paste zzya"},
		{api.Event{Kind: api.Erase}, "erase"},
		{api.Event{Kind: api.Left}, "left"},
		{api.Event{Kind: api.Right}, "right"},
		{api.Event{Kind: api.Hold, N: 0, L: 2}, "hold 0 2"},
		{api.Event{Kind: api.Hold, N: 0, L: 1}, "hold 0 1"},
		{api.Event{Kind: api.Hold, N: 39, L: 40}, "hold 39 40"},
		{api.Event{Kind: api.Hold, N: 10, L: 30}, "hold 10 30"},
		{api.Event{Kind: api.Choose, N: 0}, "choose 0"},
		{api.Event{Kind: api.Choose, N: 49}, "choose 49"},
		{api.Event{Kind: api.Choose, N: 10}, "choose 10"},
		{api.Event{Kind: api.Commit}, "commit"},
		{api.Event{Kind: api.Cancel}, "cancel"},
	}
}

func wrongEvents() []api.Event {
	return []api.Event{
		{}, {Kind: -1}, {Kind: 13}, {Kind: 1 << 40}, {Keys: "a"},
		{Kind: api.Key}, {Kind: api.Key, Keys: "ab"}, {Kind: api.Key, Keys: "A"}, {Kind: api.Key, Keys: "`"},
		{Kind: api.Key, Keys: "{"}, {Kind: api.Key, Keys: " "}, {Kind: api.Key, Keys: "0"}, {Kind: api.Key, Keys: "\xe1"},
		{Kind: api.Key, Keys: "é"}, {Kind: api.Key, Text: "a"},
		{Kind: api.Chord}, {Kind: api.Chord, Keys: "a"}, {Kind: api.Chord, Keys: "ba"}, {Kind: api.Chord, Keys: "aa"},
		{Kind: api.Chord, Keys: "abcde"}, {Kind: api.Chord, Keys: "acb"}, {Kind: api.Chord, Keys: "abb"},
		{Kind: api.Chord, Keys: "abca"}, {Kind: api.Chord, Keys: "Ab"}, {Kind: api.Chord, Keys: "ab{"},
		{Kind: api.Chord, Keys: "aé"}, {Kind: api.Chord, Text: "ab"},
		{Kind: api.Touch}, {Kind: api.Touch, P: points(1, 1, 2, 2)}, {Kind: api.Touch, P: points(-1, 0)},
		{Kind: api.Touch, P: points(0, -1)}, {Kind: api.Touch, P: points(1001, 0)}, {Kind: api.Touch, P: points(0, 1001)},
		{Kind: api.Stroke}, {Kind: api.Stroke, P: points(1, 1)}, {Kind: api.Stroke, P: make([]api.Point, 13)},
		{Kind: api.Stroke, P: points(0, 0, 1001, 0)}, {Kind: api.Stroke, P: points(0, 0, 0, 0, 0, 1001)},
		{Kind: api.Stroke, P: points(-1, 0, 0, 0)}, {Kind: api.Stroke, P: points(0, 0, 0, -1)},
		{Kind: api.Paste}, {Kind: api.Paste, Text: "abcdefghijklmnopqrstu"}, {Kind: api.Paste, Text: "aB"},
		{Kind: api.Paste, Text: "a b"}, {Kind: api.Paste, Text: "a\n"}, {Kind: api.Paste, Text: "a1"},
		{Kind: api.Paste, Text: "\x00"}, {Kind: api.Paste, Text: "é"}, {Kind: api.Paste, Keys: "a"},
		{Kind: api.Hold}, {Kind: api.Hold, N: 0, L: 0}, {Kind: api.Hold, N: -1, L: 1}, {Kind: api.Hold, N: 40, L: 1},
		{Kind: api.Hold, N: 0, L: 41}, {Kind: api.Hold, N: 0, L: -1},
		{Kind: api.Choose, N: -1}, {Kind: api.Choose, N: 50},
	}
}

func wrongLines() []string {
	return []string{
		"", " ", "\n", "a", "keys a", "Key a", "KEY a", "1 a", "unknown", "tou", "holds 1 1",
		"key", "key ", "key  a", " key a", "key a ", "key ab", "key A", "key 1", "key -", "key a b", "key\ta", "key a\n", "key a\r", "key é",
		"chord", "chord ", "chord a", "chord ba", "chord aa", "chord abcde", "chord abb", "chord a b", "chord aB", "chord ab ", "chord  ab",
		"touch", "touch ", "touch 1", "touch 1 ", "touch 01 1", "touch 1 01", "touch 00 1", "touch 1 00", "touch 1 1 1", "touch 1 1 1 1",
		"touch 1001 0", "touch 0 1001", "touch 9999 0", "touch 10000 0", "touch 0 10000", "touch 01000 0", "touch -1 0", "touch -0 0", "touch +1 0",
		"touch 1  1", "touch  1 1", "touch 1 1 ", "touch 1,1", "touch 0x1 1", "touch 1e2 1", "touch 1.0 1", "touch 1_0 1", "touch a 1",
		"touch 18446744073709551616 0", "touch 18446744073709551617 1", "touch 4294967296 1", "touch ١ 1",
		"stroke", "stroke ", "stroke 1 1", "stroke 1 1 2", "stroke 1 1 2 2 3", "stroke 1 1 2 02", "stroke 1 1 1001 1", "stroke 1 1 2 2 ",
		"stroke 1 1  2 2", "stroke" + strings.Repeat(" 5 5", 13), "stroke" + strings.Repeat(" 5 5", 12) + " 5", "stroke" + strings.Repeat(" 5 5", 5000),
		"paste", "paste ", "paste A", "paste a1", "paste a b", "paste  a", "paste a ", "paste abcdefghijklmnopqrstu", "paste " + strings.Repeat("a", 5000), "paste é",
		"erase ", "erase a", "erase 0", "Erase", "erase\n", " erase", "erased", "left ", "left 1", "right ", "right 1",
		"hold", "hold ", "hold 0", "hold 0 ", "hold 0 0", "hold 40 1", "hold 0 41", "hold 00 1", "hold 0 01", "hold 01 2", "hold 1 1 1", "hold -1 1", "hold 1 -1", "hold 1  1", "hold 1 1 ",
		"choose", "choose ", "choose 50", "choose 01", "choose 00", "choose -1", "choose 1 1", "choose  1", "choose 1 ", "choose 18446744073709551616", "choose a",
		"commit ", "commit 1", "cancel ", "cancel 1", "commit\x00", "cancel\r",
	}
}

func TestPairs(t *testing.T) { // P1.1, P1.2
	for _, p := range pairs() {
		if !event.Valid(p.e) {
			t.Errorf("Valid(%+v) is false", p.e)
		}
		if s := event.Print(p.e); s != p.line {
			t.Errorf("Print(%+v) = %q, not %q", p.e, s, p.line)
		}
		e, err := event.Parse(p.line)
		if err != api.OK || !sameEvent(e, p.e) {
			t.Errorf("Parse(%q) = %+v, %v", p.line, e, err)
		}
	}
}

func TestEmptyListsAreNil(t *testing.T) { // DOC.md, Rules
	for _, p := range pairs() {
		if len(p.e.P) == 0 {
			p.e.P = []api.Point{}
			if !event.Valid(p.e) || event.Print(p.e) != p.line {
				t.Errorf("%+v with an empty list is another event", p.e)
			}
		}
	}
}

func TestWrongEvents(t *testing.T) { // P1.1
	for _, e := range wrongEvents() {
		if event.Valid(e) {
			t.Errorf("Valid(%+v) is true", e)
		}
		event.Print(e) // P1: it returns
	}
}

func TestOtherFields(t *testing.T) { // P1.1: all other fields are zero values
	for _, p := range pairs() {
		others := []func(e *api.Event) bool{
			func(e *api.Event) bool { free := e.Keys == ""; e.Keys = "a"; return free },
			func(e *api.Event) bool { free := e.Keys == ""; e.Keys = "ab"; return free },
			func(e *api.Event) bool { free := len(e.P) == 0; e.P = points(1, 1); return free },
			func(e *api.Event) bool { free := len(e.P) == 0; e.P = points(1, 1, 2, 2); return free },
			func(e *api.Event) bool { free := e.Text == ""; e.Text = "a"; return free },
			func(e *api.Event) bool { free := e.Kind != api.Hold && e.Kind != api.Choose; e.N = 1; return free },
			func(e *api.Event) bool { free := e.Kind != api.Hold && e.Kind != api.Choose; e.N = -1; return free },
			func(e *api.Event) bool { free := e.Kind != api.Hold; e.L = 1; return free },
			func(e *api.Event) bool { free := e.Kind != api.Hold; e.L = -1; return free },
		}
		for i, set := range others {
			e := p.e
			if set(&e) && event.Valid(e) {
				t.Errorf("the change %d: Valid(%+v) is true", i, e)
			}
		}
	}
}

func TestWrongLines(t *testing.T) { // P1.1, P1.2, P1
	for _, s := range wrongLines() {
		e, err := event.Parse(s)
		if err != api.ErrForm || !reflect.DeepEqual(e, api.Event{}) {
			t.Errorf("Parse(%q) = %+v, %v", s, e, err)
		}
	}
}

func TestAllSmallEvents(t *testing.T) { // P1.1, P1.2: each kind with all bytes and numbers around its limits
	var all []api.Event
	for kind := -1; kind <= 14; kind++ {
		all = append(all, api.Event{Kind: kind})
		for n := -2; n <= 52; n++ {
			for l := -2; l <= 42; l++ {
				all = append(all, api.Event{Kind: kind, N: n, L: l})
			}
		}
		for a := range 256 {
			all = append(all, api.Event{Kind: kind, Keys: string([]byte{byte(a)})}, api.Event{Kind: kind, Text: string([]byte{byte(a)})})
			for b := range 256 {
				all = append(all, api.Event{Kind: kind, Keys: string([]byte{byte(a), byte(b)})})
			}
		}
		for n := range 23 {
			text := strings.Repeat("k", n)
			all = append(all, api.Event{Kind: kind, Keys: text}, api.Event{Kind: kind, Text: text}, api.Event{Kind: kind, P: make([]api.Point, n)})
		}
		for x := -2; x <= 1002; x++ {
			all = append(all, api.Event{Kind: kind, P: points(x, 5)}, api.Event{Kind: kind, P: points(5, x)},
				api.Event{Kind: kind, P: points(x, 5, 6, 7)}, api.Event{Kind: kind, P: points(5, 6, 7, x)})
		}
	}
	for _, e := range all {
		agree(t, e)
	}
}

// agree checks one event against the oracles.
func agree(t *testing.T, e api.Event) {
	t.Helper()
	valid := oracleValid(e)
	if event.Valid(e) != valid {
		t.Fatalf("Valid(%+v) is %v", e, !valid)
	}
	line := event.Print(e)
	if !valid {
		return
	}
	if line != oraclePrint(e) {
		t.Fatalf("Print(%+v) = %q", e, line)
	}
	if back, err := event.Parse(line); err != api.OK || !sameEvent(back, e) {
		t.Fatalf("Parse(%q) = %+v, %v", line, back, err)
	}
}

func TestRandomEvents(t *testing.T) { // P1.1, P1.2
	r := rand.New(rand.NewSource(1))
	for range 20000 {
		e := randomEvent(r)
		if !event.Valid(e) {
			t.Fatalf("Valid(%+v) is false", e)
		}
		agree(t, e)
		agree(t, spoil(r, e))
	}
}

func TestEditedLines(t *testing.T) { // P1.1, P1.2: a line is accepted exactly if an event has it
	r := rand.New(rand.NewSource(2))
	for range 100000 {
		s := oraclePrint(randomEvent(r))
		for range 1 + r.Intn(2) {
			s = edit(r, s)
		}
		e, err := event.Parse(s)
		if oracleLine(s) != (err == api.OK) {
			t.Fatalf("Parse(%q) = %+v, %v", s, e, err)
		}
		if err == api.OK && (!event.Valid(e) || event.Print(e) != s) {
			t.Fatalf("Parse(%q) = %+v, which has the line %q", s, e, event.Print(e))
		}
		if err != api.OK && (err != api.ErrForm || !reflect.DeepEqual(e, api.Event{})) {
			t.Fatalf("Parse(%q) = %+v, %v", s, e, err)
		}
	}
}

func TestArgumentsRemain(t *testing.T) { // P2
	for _, p := range pairs() {
		before := append([]api.Point(nil), p.e.P...)
		event.Valid(p.e)
		first := event.Print(p.e)
		if len(before) > 0 && !reflect.DeepEqual(before, p.e.P) {
			t.Errorf("%q: the points were changed to %v", p.line, p.e.P)
		}
		if event.Print(p.e) != first {
			t.Errorf("%q: a second call has another result", p.line)
		}
		a, _ := event.Parse(p.line)
		b, _ := event.Parse(p.line)
		if len(a.P) > 0 {
			a.P[0].X++
			if !sameEvent(b, p.e) {
				t.Errorf("%q: results of two calls share their points", p.line)
			}
		}
	}
}
