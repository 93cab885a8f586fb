// Package event is layer 1: what a user does, as values and as lines of text. See shared/doc/01-event.md.
package event

import (
	"strings"

	"syllabary/api"
)

// Valid reports whether e is valid.
func Valid(e api.Event) bool {
	return fits(forms(), e)
}

// Print returns the line of a valid event, without a newline, and the empty text for others.
func Print(e api.Event) string {
	table := forms()
	if !fits(table, e) {
		return ""
	}
	f := table[e.Kind]
	return f.name + f.write(e)
}

// Parse returns the valid event with the line s.
func Parse(s string) (api.Event, api.Errno) {
	e, ok := parse(forms(), s)
	if !ok {
		return api.Event{}, api.ErrForm
	}
	return e, api.OK
}

// Script returns the events of the script s and their number, or the number of the first wrong line.
func Script(s string) ([]api.Event, int, api.Errno) {
	table := forms()
	var events []api.Event
	for s != "" {
		line, rest, ended := strings.Cut(s, "\n")
		e, ok := parse(table, line)
		if !ok || !ended {
			return nil, len(events), api.ErrForm
		}
		events = append(events, e)
		s = rest
	}
	return events, len(events), api.OK
}

func fits(table map[int]form, e api.Event) bool {
	f, ok := table[e.Kind]
	return ok && f.fits(e)
}

func parse(table map[int]form, line string) (api.Event, bool) {
	name, rest := split(line)
	kind, ok := kindOf(table, name)
	if !ok {
		return api.Event{}, false
	}
	e, ok := table[kind].read(rest)
	if !ok {
		return api.Event{}, false
	}
	e.Kind = kind
	if !fits(table, e) {
		return api.Event{}, false
	}
	return e, true
}

// split leaves the space before the first field with the rest, so that a space at the end of a line is not lost.
func split(line string) (name, rest string) {
	at := strings.IndexByte(line, ' ')
	if at < 0 {
		return line, ""
	}
	return line[:at], line[at:]
}

func kindOf(table map[int]form, name string) (int, bool) {
	for kind, f := range table {
		if f.name == name {
			return kind, true
		}
	}
	return 0, false
}
