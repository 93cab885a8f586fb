package event_test

import (
	"math/rand"
	"strings"
	"testing"

	"syllabary/api"
	"syllabary/event"
)

func sameEvents(a, b []api.Event) bool {
	if len(a) != len(b) {
		return false
	}
	for i := range a {
		if !sameEvent(a[i], b[i]) {
			return false
		}
	}
	return true
}

// refused checks that the script s is refused at the line n.
func refused(t *testing.T, s string, n int) {
	t.Helper()
	l, at, err := event.Script(s)
	if len(l) != 0 || at != n || err != api.ErrForm {
		t.Fatalf("Script(%q) = %+v, %d, %v; it should be refused at %d", s, l, at, err, n)
	}
}

// accepted checks that the script s has the events want.
func accepted(t *testing.T, s string, want []api.Event) {
	t.Helper()
	l, n, err := event.Script(s)
	if !sameEvents(l, want) || n != len(want) || err != api.OK {
		t.Fatalf("Script(%q) = %+v, %d, %v", s, l, n, err)
	}
}

func TestScripts(t *testing.T) { // P1.1
	accepted(t, "", nil)
	var all strings.Builder
	var events []api.Event
	for _, p := range pairs() {
		accepted(t, p.line+"\n", []api.Event{p.e})
		all.WriteString(p.line + "\n")
		events = append(events, p.e)
		accepted(t, all.String(), events)
	}
}

func TestWrongScripts(t *testing.T) { // P1.1, P1.4
	for _, w := range []struct {
		s string
		n int
	}{
		{"\n", 0}, {"\n\n", 0}, {"key a", 0}, {"key", 0}, {" ", 0}, {"\nkey a\n", 0},
		{"key a\n\n", 1}, {"key a\n\nkey b\n", 1}, {"key a\nkey b", 1}, {"key a\nkey b\nx", 2}, {"key a\n ", 1},
		{"key a\r\n", 0}, {"key a\nkey B\nkey c\n", 1}, {"key a\nkey B\nkey C\n", 1}, {"key a\nkey b\nkey cc\n", 2},
		{"key a\nchord ba\nkey c", 1}, {"key a\nkey c\nchord ba", 2}, {"erase \n", 0}, {"left\nhold 0 0\n", 1}, {"left\n\x00\n", 1},
	} {
		refused(t, w.s, w.n)
	}
	for _, s := range wrongLines() {
		if !strings.Contains(s, "\n") {
			refused(t, s+"\n", 0)
			refused(t, "left\nright\n"+s+"\nleft\n", 2)
		}
	}
	for _, p := range pairs() {
		refused(t, p.line, 0)
		refused(t, "commit\n"+p.line, 1)
	}
}

func randomScript(r *rand.Rand, most int) (string, []api.Event) {
	s := ""
	var l []api.Event
	for range r.Intn(most + 1) {
		e := randomEvent(r)
		s += oraclePrint(e) + "\n"
		l = append(l, e)
	}
	return s, l
}

func TestJoinedScripts(t *testing.T) { // P1.3
	r := rand.New(rand.NewSource(3))
	for range 3000 {
		a, la := randomScript(r, 6)
		b, lb := randomScript(r, 6)
		accepted(t, a, la)
		accepted(t, b, lb)
		accepted(t, a+b, append(append([]api.Event(nil), la...), lb...))
	}
}

func TestFirstWrongLine(t *testing.T) { // P1.4
	r := rand.New(rand.NewSource(4))
	for range 20000 {
		s, _ := randomScript(r, 5)
		for range 1 + r.Intn(3) {
			s = edit(r, s)
		}
		l, n, err := event.Script(s)
		lines := strings.SplitAfter(s, "\n")
		first := 0
		for first < len(lines) && strings.HasSuffix(lines[first], "\n") && oracleLine(strings.TrimSuffix(lines[first], "\n")) {
			first++
		}
		if first == len(lines)-1 && lines[first] == "" {
			if err != api.OK || n != first || len(l) != first {
				t.Fatalf("Script(%q) = %+v, %d, %v", s, l, n, err)
			}
			continue
		}
		refused(t, s, first)
		before := strings.Join(lines[:first], "")
		if l, n, err := event.Script(before); err != api.OK || n != first || len(l) != first {
			t.Fatalf("Script(%q) = %+v, %d, %v", before, l, n, err)
		}
		refused(t, before+lines[first], first)
	}
}

func TestEventsOfScriptsAreApart(t *testing.T) { // P2
	l, _, _ := event.Script("touch 1 2\ntouch 1 2\n")
	again, _, _ := event.Script("touch 1 2\ntouch 1 2\n")
	l[0].P[0].X = 9
	l[0].P = append(l[0].P, api.Point{X: 8, Y: 8})
	for _, e := range []api.Event{l[1], again[0], again[1]} {
		if !sameEvent(e, api.Event{Kind: api.Touch, P: points(1, 2)}) {
			t.Errorf("%+v shares its points", e)
		}
	}
}

func TestLongScript(t *testing.T) { // P1: it ends, also for many lines and for a long one
	const n = 20000
	l, at, err := event.Script(strings.Repeat("stroke 1 2 3 4\n", n))
	if len(l) != n || at != n || err != api.OK {
		t.Errorf("%d events, %d, %v", len(l), at, err)
	}
	refused(t, strings.Repeat("left\n", n)+"stroke"+strings.Repeat(" 1", 1<<20)+"\n", n)
	refused(t, "touch "+strings.Repeat("1", 1<<20)+" 1\n", 0)
	refused(t, "key "+strings.Repeat("a", 1<<20)+"\n", 0)
	refused(t, strings.Repeat(" ", 1<<20), 0)
}
