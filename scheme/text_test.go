package scheme_test

import (
	"fmt"
	"math/rand"
	"strings"
	"testing"

	"syllabary/api"
	"syllabary/scheme"
)

const ordinaryText = "scheme 3 5\n" +
	"rule 0 1 k - 0\n" +
	"rule 1 0 a ka 5\n" +
	"rule 0 2 - N9 1000\n" +
	"rule 2 2 abcz aZ09 17\n" +
	"rule 2 0 - - 1\n"

// badForm checks that a text is refused for its form, at the index at.
func badForm(t *testing.T, text string, at int) {
	t.Helper()
	parsed(t, text, api.Scheme{}, at, api.ErrForm)
}

// badScheme checks that a text of the right form is refused, at the index at.
func badScheme(t *testing.T, text string, at int) {
	t.Helper()
	parsed(t, text, api.Scheme{}, at, api.ErrScheme)
}

func TestExamplesOfTexts(t *testing.T) { // P2.1
	s := api.Scheme{Modes: 2, Accept: 3, Rules: []api.Rule{{From: 0, To: 1, In: "k", Out: "", Cost: 7}}}
	if text := scheme.Print(s); text != "scheme 2 3\nrule 0 1 k - 7\n" {
		t.Errorf("Print: %q", text)
	}
	badForm(t, "scheme 2 3\nrule 0 1 k -\n", 0)
	badForm(t, "", -1)
	badScheme(t, "scheme 9 1\n", -1)
}

func TestPrint(t *testing.T) { // P2.1, P2.2
	if text := scheme.Print(ordinary()); text != ordinaryText {
		t.Errorf("Print: %q", text)
	}
	parsed(t, ordinaryText, ordinary(), 5, api.OK)
	if text := scheme.Print(api.Scheme{Modes: 8, Accept: 255}); text != "scheme 8 255\n" {
		t.Errorf("Print: %q", text)
	}
	parsed(t, "scheme 8 255\n", api.Scheme{Modes: 8, Accept: 255}, 0, api.OK)
	full := api.Scheme{Modes: 1, Accept: 1, Rules: numbered(64)}
	parsed(t, scheme.Print(full), full, 64, api.OK)
}

func TestPrintOfWrongSchemes(t *testing.T) { // P2.1: the empty text
	s := ordinary()
	wrong := []api.Scheme{{}, {Modes: 9, Accept: 1}, {Modes: 1, Accept: 2}, {Modes: 1, Accept: 1, Rules: numbered(65)}, withRule(s, 4, s.Rules[0])}
	for i, r := range s.Rules {
		for _, w := range wrongRules(r, s.Modes) {
			wrong = append(wrong, withRule(s, i, w))
		}
	}
	for _, s := range wrong {
		if text := scheme.Print(s); text != "" {
			t.Errorf("Print(%+v) = %q", s, text)
		}
	}
}

func TestEmptyTexts(t *testing.T) { // P2.2: `-` stands for an empty In and an empty Out
	for _, in := range []string{"", "k", "abcd"} {
		for _, out := range []string{"", "K", "aZ09"} {
			agree(t, api.Scheme{Modes: 1, Accept: 1, Rules: []api.Rule{{In: in, Out: out, Cost: 3}}})
		}
	}
	parsed(t, "scheme 1 1\nrule 0 0 - - 0\n", api.Scheme{Modes: 1, Accept: 1, Rules: []api.Rule{{}}}, 1, api.OK)
}

func TestWrongFirstLine(t *testing.T) { // P2.1
	for _, line := range []string{
		"", " ", "scheme", "scheme ", "scheme 1", "scheme 1 ", "scheme  1 1", "scheme 1  1", "scheme 1 1 ", " scheme 1 1", "scheme 1 1 1", "scheme11 1", "scheme1 1",
		"scheme\t1 1", "scheme 1\t1", "scheme 1 1\r", "Scheme 1 1", "SCHEME 1 1", "schemes 1 1", "schem 1 1", "rule 1 1", "rule 0 0 a b 1", "1 1", "- 1 1",
		"scheme 01 1", "scheme 1 01", "scheme 00 1", "scheme 1 00", "scheme 0001 1", "scheme 1 0255", "scheme 10000 1", "scheme 1 10000", "scheme 00001 1", "scheme 99999 1",
		"scheme 1 256", "scheme 1 257", "scheme 1 300", "scheme 1 511", "scheme 1 512", "scheme 1 1000", "scheme 1 9999", "scheme 9999 256",
		"scheme -1 1", "scheme 1 -1", "scheme -0 1", "scheme +1 1", "scheme 1 +1", "scheme 1 -", "scheme - 1", "scheme a 1", "scheme 1 a", "scheme 1a 1", "scheme 1 1a",
		"scheme 0x1 1", "scheme 1 1.0", "scheme 1e1 1", "scheme 1_0 1", "scheme 1 ١", "scheme 18446744073709551617 1", "scheme 1 4294967297", "scheme 1 18446744073709551617",
		"scheme 1 1\x00", "scheme\x001 1", "scheme 1 1 # one", "\ufeffscheme 1 1",
	} {
		badForm(t, line+"\n", -1)
		badForm(t, line, -1)
		badForm(t, line+"\nrule 0 0 a b 1\n", -1)
		badForm(t, line+"\nrule\n", -1)
	}
}

func wrongRuleLines() []string {
	return []string{
		"", " ", "rule", "rule ", "rule 0 0 a b", "rule 0 0 a b ", "rule 0 0 a 1", "rule 0 a b 1", "rule 0 0 a b 1 1", "rule 0 0 0 a b 1", "rule 0 0 a b c 1", "0 0 a b 1",
		" rule 0 0 a b 1", "rule 0 0 a b 1 ", "rule  0 0 a b 1", "rule 0  0 a b 1", "rule 0 0  a b 1", "rule 0 0 a  b 1", "rule 0 0 a b  1", "rule 0 0  b 1", "rule 0 0 a  1", "rule 0 0   1",
		"rule0 0 a b 1", "rule 00 a b 1", "rule 0 0a b 1", "rule 0 0 ab 1", "rule 0 0 a b1",
		"Rule 0 0 a b 1", "RULE 0 0 a b 1", "rules 0 0 a b 1", "rul 0 0 a b 1", "scheme 0 0 a b 1", "scheme 1 1", "rule\t0 0 a b 1", "rule 0\t0 a b 1", "rule 0 0 a b\t1", "rule 0 0 a b 1\r",
		"rule 00 0 a b 1", "rule 01 0 a b 1", "rule 0 00 a b 1", "rule 0 01 a b 1", "rule 0 0 a b 00", "rule 0 0 a b 01", "rule 0 0 a b 0100", "rule 0 0 a b 0000",
		"rule 10000 0 a b 1", "rule 0 10000 a b 1", "rule 0 0 a b 10000", "rule 00000 0 a b 1", "rule 0 00000 a b 1", "rule 0 0 a b 00001", "rule 0 0 a b 99999",
		"rule -1 0 a b 1", "rule 0 -1 a b 1", "rule 0 0 a b -1", "rule -0 0 a b 1", "rule +0 0 a b 1", "rule 0 +0 a b 1", "rule 0 0 a b +1", "rule - 0 a b 1", "rule 0 - a b 1", "rule 0 0 a b -",
		"rule x 0 a b 1", "rule 0 x a b 1", "rule 0 0 a b x", "rule 0 0 a b 1x", "rule 0 0 a b 1.0", "rule 0 0 a b 1e1", "rule 0 0 a b 0x1", "rule 0 0 a b 1_0", "rule 0 0 a b ١",
		"rule 18446744073709551616 0 a b 1", "rule 0 4294967296 a b 1", "rule 0 0 a b 18446744073709551617",
	}
}

func TestWrongRuleLines(t *testing.T) { // P2.1
	for _, line := range wrongRuleLines() {
		badForm(t, "scheme 1 1\n"+line+"\n", 0)
		badForm(t, "scheme 1 1\nrule 0 0 a a 1\nrule 0 0 b b 1\n"+line+"\nrule 0 0 c c 1\n", 2)
		badForm(t, "scheme 1 1\nrule 0 0 a a 1\n"+line+"\nrule 0 0 b b\n", 1)
		badForm(t, "scheme 9 0\nrule 9 9 A - 1\n"+line+"\n", 1)
	}
}

func TestFormComesBeforeScheme(t *testing.T) { // P2.1: a wrong form is told first, wherever it stands
	long := "scheme 1 1\n" + strings.Repeat("rule 0 0 a b 1\n", 100)
	badScheme(t, long, -1)
	badForm(t, long+"rule 0 0 a b 01\n", 100)
	badForm(t, long+"rule 0 0 a b 1", 100)
	badForm(t, "scheme 0 0\nrule 9 9 - - 9\nrule\n", 1)
	badForm(t, "scheme 1 256\nrule\n", -1)
}

func TestRests(t *testing.T) { // P2.1: what comes after the last newline
	badForm(t, "scheme 1 1", -1)
	badForm(t, "x", -1)
	badForm(t, "scheme 1 1\nrule 0 0 a b 1", 0)
	badForm(t, "scheme 1 1\nx", 0)
	badForm(t, "scheme 1 1\n ", 0)
	badForm(t, "scheme 1 1\n\n", 0)
	badForm(t, "\nscheme 1 1\n", -1)
	badForm(t, "\n", -1)
	badForm(t, "scheme 1 1\n\nrule 0 0 a b 1\n", 0)
	badForm(t, ordinaryText+"\n", 5)
	badForm(t, ordinaryText+"r", 5)
	badForm(t, ordinaryText+ordinaryText, 5)
	badForm(t, strings.TrimSuffix(ordinaryText, "\n"), 4)
	badForm(t, strings.TrimPrefix(ordinaryText, "scheme 3 5\n"), -1)
	badForm(t, strings.ReplaceAll(ordinaryText, "\n", "\r\n"), -1)
}

func TestBeginningsOfATextHaveARest(t *testing.T) { // P2.1
	for n := range len(ordinaryText) {
		begun := ordinaryText[:n]
		lines := strings.Count(begun, "\n")
		if !strings.HasSuffix(begun, "\n") {
			badForm(t, begun, lines-1)
			continue
		}
		s := ordinary()
		s.Rules = s.Rules[:lines-1]
		parsed(t, begun, s, lines-1, api.OK)
	}
}

func TestFormsOfSchemesThatAreNotValid(t *testing.T) { // P2.1: the results of Check
	for _, line := range []string{"scheme 0 1", "scheme 9 1", "scheme 9999 255", "scheme 1 0", "scheme 1 2", "scheme 1 3", "scheme 7 128", "scheme 7 255", "scheme 0 0"} {
		badScheme(t, line+"\n", -1)
		badScheme(t, line+"\nrule 0 0 a b 1\n", -1)
		badScheme(t, line+"\nrule 9 9 A . 9999\n", -1)
	}
	for _, line := range []string{
		"rule 1 0 a b 1", "rule 0 1 a b 1", "rule 9999 0 a b 1", "rule 0 9999 a b 1", "rule 0 0 a b 1001", "rule 0 0 a b 9999",
		"rule 0 0 abcde b 1", "rule 0 0 a abcde 1", "rule 0 0 A b 1", "rule 0 0 1 b 1", "rule 0 0 a . 1", "rule 0 0 -- b 1", "rule 0 0 a -- 1", "rule 0 0 a- b 1", "rule 0 0 a -b 1",
		"rule 0 0 a\t b 1", "rule 0 0 a \r 1", "rule 0 0 \x00 b 1", "rule 0 0 a \xff 1", "rule 0 0 é b 1", "rule 0 0 a é 1", "rule 0 0 a \u00a0 1", "rule 0 0 \u2003 b 1",
		"rule 0 0 " + strings.Repeat("a", 5000) + " b 1", "rule 0 0 a " + strings.Repeat("a", 5000) + " 1",
	} {
		badScheme(t, "scheme 1 1\n"+line+"\n", 0)
		badScheme(t, "scheme 1 1\nrule 0 0 a a 1\nrule 0 0 - - 1\n"+line+"\nrule 0 0 b b 1\n", 2)
		badScheme(t, "scheme 1 1\nrule 0 0 a a 1\n"+line+"\n"+line+"\n", 1)
	}
	badScheme(t, "scheme 1 1\nrule 0 0 a b 1\nrule 0 0 a b 2\nrule 0 0 a b 1\n", 2)
	badScheme(t, "scheme 1 1\nrule 0 0 - - 0\nrule 0 0 - - 0\n", 1)
	tooMany := api.Scheme{Modes: 1, Accept: 1, Rules: numbered(65)}
	badScheme(t, oraclePrint(tooMany), -1)
}

func TestNumbersOfTexts(t *testing.T) { // P2.4: all numbers of up to four digits, and some of five
	for n := range 10050 {
		for _, s := range []api.Scheme{
			{Modes: n, Accept: 1},
			{Modes: 1, Accept: 1, Rules: []api.Rule{{Cost: n}}},
			{Modes: 8, Accept: 1, Rules: []api.Rule{{From: n}}},
			{Modes: 8, Accept: 1, Rules: []api.Rule{{To: n}}},
		} {
			parseAgrees(t, oraclePrint(s))
		}
		parseAgrees(t, fmt.Sprintf("scheme 8 %d\n", n))
	}
}

// parseAgrees checks Parse against the oracle, and what was accepted against Print.
func parseAgrees(t *testing.T, text string) {
	t.Helper()
	s, at, err := oracleParse(text)
	parsed(t, text, s, at, err)
	if err == api.OK && scheme.Print(s) != text {
		t.Fatalf("Parse(%q) is printed as %q", text, scheme.Print(s))
	}
}

// edit changes one byte of a text, or takes it out, or puts one in.
func edit(r *rand.Rand, s string) string {
	at := r.Intn(len(s) + 1)
	put := string("ak Z0129-\n\r\t\x00+"[r.Intn(14)])
	switch r.Intn(3) {
	case 0:
		return s[:at] + put + s[at:]
	case 1:
		return s[:at] + s[min(at+1, len(s)):]
	}
	return s[:at] + put + s[min(at+1, len(s)):]
}

func TestEditedTexts(t *testing.T) { // P2.1, P2.2
	r := rand.New(rand.NewSource(6))
	accepted := 0
	for range 100000 {
		text := oraclePrint(randomScheme(r, 5))
		for range 1 + r.Intn(3) {
			text = edit(r, text)
		}
		parseAgrees(t, text)
		if _, _, err := scheme.Parse(text); err == api.OK {
			accepted++
		}
	}
	if accepted < 5000 {
		t.Errorf("only %d texts were accepted", accepted)
	}
}

func TestLines(t *testing.T) { // P2.6
	r := rand.New(rand.NewSource(7))
	for range 1000 {
		s := randomScheme(r, 64)
		lines := strings.SplitAfter(scheme.Print(s), "\n")
		if len(lines) != len(s.Rules)+2 || lines[len(lines)-1] != "" || !strings.HasPrefix(lines[0], "scheme ") {
			t.Fatalf("Print(%+v) has the lines %q", s, lines)
		}
		for i, rule := range s.Rules {
			one := api.Scheme{Modes: s.Modes, Accept: s.Accept, Rules: []api.Rule{rule}}
			if lines[0]+lines[i+1] != scheme.Print(one) {
				t.Fatalf("Print(%+v) has the line %q for the rule %d", s, lines[i+1], i)
			}
		}
	}
}

func TestResultsOfParseAreApart(t *testing.T) { // P2
	a, _, _ := scheme.Parse(ordinaryText)
	a.Rules[0].Cost = 999
	a.Rules = append(a.Rules[:1], a.Rules[2:]...)
	parsed(t, ordinaryText, ordinary(), 5, api.OK)
}

func TestLongTexts(t *testing.T) { // P1: it ends, also for many lines and for a long one
	const n = 1 << 20
	badForm(t, strings.Repeat("a", n), -1)
	badForm(t, strings.Repeat(" ", n)+"\n", -1)
	badForm(t, strings.Repeat("\n", n), -1)
	badForm(t, "scheme "+strings.Repeat("1", n)+" 1\n", -1)
	badForm(t, "scheme 1 1"+strings.Repeat(" ", n)+"\n", -1)
	badForm(t, "scheme 1 1\nrule 0 0 a b 1"+strings.Repeat(" 1", n)+"\n", 0)
	badForm(t, "scheme 1 1\nrule 0 0 a b "+strings.Repeat("0", n)+"\n", 0)
	badScheme(t, "scheme 1 1\nrule 0 0 "+strings.Repeat("a", n)+" b 1\n", 0)
	badScheme(t, "scheme 1 1\nrule 0 0 a "+strings.Repeat("-", n)+" 1\n", 0)
	badScheme(t, "scheme 1 1\n"+strings.Repeat("rule 0 0 - - 0\n", n), -1)
	badForm(t, "scheme 1 1\n"+strings.Repeat("rule 0 0 - - 0\n", n)+"x", n)
}
