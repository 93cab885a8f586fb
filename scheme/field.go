package scheme

import (
	"math"
	"strings"

	"syllabary/api"
)

// No number of the text of a scheme has more digits than api.MaxCost.
const mostDigits = 4

// The functions here check the form of lines only. Those below readScheme panic at the first field that has not the form; readScheme knows the line.

// readScheme counts lines from -1, so that the line of a rule has the index of the rule, also when at is left by a panic.
func readScheme(s string) (read api.Scheme, at int, err api.Errno) {
	defer func() {
		if recover() != nil {
			read, err = api.Scheme{}, api.ErrForm
		}
	}()
	at = -1
	line, rest := cutLine(s)
	read = readFirst(line)
	for at = 0; rest != ""; at++ {
		line, rest = cutLine(rest)
		read.Rules = append(read.Rules, readRule(line))
	}
	return read, at, api.OK
}

func cutLine(s string) (line, rest string) {
	line, rest, ended := strings.Cut(s, "\n")
	if !ended {
		panic(api.ErrForm)
	}
	return line, rest
}

func readFirst(line string) api.Scheme {
	fields := cutFields(line, firstName, 2)
	return api.Scheme{Modes: readNumber(fields[0]), Accept: readMask(fields[1])}
}

func readRule(line string) api.Rule {
	fields := cutFields(line, ruleName, 5)
	return api.Rule{
		From: readNumber(fields[0]),
		To:   readNumber(fields[1]),
		In:   readText(fields[2]),
		Out:  readText(fields[3]),
		Cost: readNumber(fields[4]),
	}
}

// cutFields returns the n fields after the name. It splits off one field too many at most, so that a long line is refused without splitting all of it.
func cutFields(line, name string, n int) []string {
	fields := strings.SplitN(line, " ", n+2)
	if len(fields) != n+1 || fields[0] != name {
		panic(api.ErrForm)
	}
	return fields[1:]
}

func readNumber(field string) int {
	if field == "" || len(field) > mostDigits || !only(field, digit) {
		panic(api.ErrForm)
	}
	if len(field) > 1 && field[0] == '0' {
		panic(api.ErrForm)
	}
	n := 0
	for i := range len(field) {
		n = 10*n + int(field[i]-'0')
	}
	return n
}

func readMask(field string) uint8 {
	n := readNumber(field)
	if n > math.MaxUint8 {
		panic(api.ErrForm)
	}
	return uint8(n)
}

func readText(field string) string {
	if field == "" {
		panic(api.ErrForm)
	}
	if field == nothing {
		return ""
	}
	return field
}
