package scheme

import (
	"strconv"
	"strings"

	"syllabary/api"
)

const (
	firstName = "scheme"
	ruleName  = "rule"
	nothing   = "-" // stands for an empty text
)

// Print returns the text of a valid scheme, and the empty text for others.
func Print(s api.Scheme) string {
	if !Valid(s) {
		return ""
	}
	text := writeLine(firstName, strconv.Itoa(s.Modes), strconv.Itoa(int(s.Accept)))
	for _, r := range s.Rules {
		text += writeLine(ruleName, strconv.Itoa(r.From), strconv.Itoa(r.To), writeText(r.In), writeText(r.Out), strconv.Itoa(r.Cost))
	}
	return text
}

func writeLine(fields ...string) string { return strings.Join(fields, " ") + "\n" }

func writeText(s string) string {
	if s == "" {
		return nothing
	}
	return s
}

// Parse returns the scheme with the text s and the number of its rules; otherwise the index of the first wrong line less 1, or, if all lines have the form, what Check returns.
func Parse(s string) (api.Scheme, int, api.Errno) {
	read, at, err := readScheme(s)
	if err == api.OK {
		at, err = Check(read)
	}
	if err != api.OK {
		return api.Scheme{}, at, err
	}
	return read, at, api.OK
}
