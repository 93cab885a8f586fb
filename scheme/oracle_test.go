package scheme_test

import (
	"fmt"
	"math/rand"
	"reflect"
	"regexp"
	"strconv"
	"strings"
	"testing"

	"syllabary/api"
	"syllabary/scheme"
)

// The functions here say again, in other ways than the package does, which schemes are valid and what their texts are.

const (
	smallLetters = "abcdefghijklmnopqrstuvwxyz"
	wordBytes    = smallLetters + "ABCDEFGHIJKLMNOPQRSTUVWXYZ" + "0123456789"
)

func madeOf(s, bytes string) bool { return strings.Trim(s, bytes) == "" }

func oracleFramed(s api.Scheme) bool {
	most := map[int]int{1: 1, 2: 3, 3: 7, 4: 15, 5: 31, 6: 63, 7: 127, 8: 255}
	return s.Accept != 0 && int(s.Accept) <= most[s.Modes] && len(s.Rules) < 65
}

func oracleCheck(s api.Scheme) (int, api.Errno) {
	if !oracleFramed(s) {
		return -1, 20
	}
	seen := map[api.Rule]bool{}
	for i, r := range s.Rules {
		switch {
		case seen[r], r.From < 0, r.From >= s.Modes, r.To < 0, r.To >= s.Modes, r.Cost < 0, r.Cost > 1000,
			len(r.In) > 4, !madeOf(r.In, smallLetters), len(r.Out) > 4, !madeOf(r.Out, wordBytes):
			return i, 20
		}
		seen[r] = true
	}
	return len(s.Rules), 0
}

func oraclePrint(s api.Scheme) string {
	text := fmt.Sprintf("scheme %d %d\n", s.Modes, s.Accept)
	for _, r := range s.Rules {
		in, out := r.In, r.Out
		if in == "" {
			in = "-"
		}
		if out == "" {
			out = "-"
		}
		text += fmt.Sprintf("rule %d %d %s %s %d\n", r.From, r.To, in, out, r.Cost)
	}
	return text
}

const number = `(0|[1-9][0-9]{0,3})`

var (
	firstForm = regexp.MustCompile(`\Ascheme ` + number + ` ` + number + `\z`)
	ruleForm  = regexp.MustCompile(`(?s)\Arule ` + number + ` ` + number + ` ([^ ]+) ([^ ]+) ` + number + `\z`)
)

func toNumber(s string) int {
	n, err := strconv.Atoi(s)
	if err != nil {
		panic(err)
	}
	return n
}

func oracleParse(text string) (api.Scheme, int, api.Errno) {
	lines := strings.Split(text, "\n")
	rest := lines[len(lines)-1]
	lines = lines[:len(lines)-1]
	var s api.Scheme
	for i, line := range lines {
		if i == 0 {
			f := firstForm.FindStringSubmatch(line)
			if f == nil || toNumber(f[2]) > 255 {
				return api.Scheme{}, -1, 3
			}
			s.Modes, s.Accept = toNumber(f[1]), uint8(toNumber(f[2]))
			continue
		}
		f := ruleForm.FindStringSubmatch(line)
		if f == nil {
			return api.Scheme{}, i - 1, 3
		}
		for j := range f {
			if f[j] == "-" {
				f[j] = ""
			}
		}
		s.Rules = append(s.Rules, api.Rule{From: toNumber(f[1]), To: toNumber(f[2]), In: f[3], Out: f[4], Cost: toNumber(f[5])})
	}
	if len(lines) == 0 || rest != "" {
		return api.Scheme{}, len(lines) - 1, 3
	}
	at, err := oracleCheck(s)
	if err != 0 {
		return api.Scheme{}, at, err
	}
	return s, at, 0
}

// sameScheme takes nil and empty lists for equal.
func sameScheme(a, b api.Scheme) bool {
	if len(a.Rules) == 0 && len(b.Rules) == 0 {
		a.Rules, b.Rules = nil, nil
	}
	return reflect.DeepEqual(a, b)
}

// checked checks the results of Check and Valid.
func checked(t *testing.T, s api.Scheme, at int, err api.Errno) {
	t.Helper()
	if n, e := scheme.Check(s); n != at || e != err {
		t.Fatalf("Check(%+v) = %d, %v; it should be %d, %v", s, n, e, at, err)
	}
	if scheme.Valid(s) != (err == api.OK) {
		t.Fatalf("Valid(%+v) is %v", s, err != api.OK)
	}
}

// parsed checks the results of Parse.
func parsed(t *testing.T, text string, want api.Scheme, at int, err api.Errno) {
	t.Helper()
	s, n, e := scheme.Parse(text)
	if !sameScheme(s, want) || n != at || e != err {
		t.Fatalf("Parse(%q) = %+v, %d, %v; it should be %+v, %d, %v", text, s, n, e, want, at, err)
	}
}

// agree checks all functions against the oracles, and Print and Parse against each other.
func agree(t *testing.T, s api.Scheme) {
	t.Helper()
	at, err := oracleCheck(s)
	checked(t, s, at, err)
	text := scheme.Print(s)
	if err != api.OK {
		if text != "" {
			t.Fatalf("Print(%+v) = %q", s, text)
		}
		return
	}
	if text != oraclePrint(s) {
		t.Fatalf("Print(%+v) = %q", s, text)
	}
	parsed(t, text, s, len(s.Rules), api.OK)
}

func randomText(r *rand.Rand, bytes string, most int) string {
	b := make([]byte, r.Intn(most+1))
	for i := range b {
		b[i] = bytes[r.Intn(len(bytes))]
	}
	return string(b)
}

func randomRule(r *rand.Rand, modes int) api.Rule {
	return api.Rule{
		From: r.Intn(modes), To: r.Intn(modes),
		In: randomText(r, smallLetters, 4), Out: randomText(r, wordBytes, 4),
		Cost: []int{0, 1, 9, 10, 99, 100, 999, 1000, r.Intn(1001)}[r.Intn(9)],
	}
}

// randomScheme returns a valid scheme.
func randomScheme(r *rand.Rand, mostRules int) api.Scheme {
	modes := 1 + r.Intn(8)
	s := api.Scheme{Modes: modes, Accept: uint8(1 + r.Intn(1<<modes-1))}
	seen := map[api.Rule]bool{}
	for n := r.Intn(mostRules + 1); len(s.Rules) < n; {
		rule := randomRule(r, modes)
		if !seen[rule] {
			seen[rule] = true
			s.Rules = append(s.Rules, rule)
		}
	}
	return s
}

// withRule returns a scheme that has another rule at i, and shares nothing with s.
func withRule(s api.Scheme, i int, rule api.Rule) api.Scheme {
	s.Rules = append([]api.Rule(nil), s.Rules...)
	s.Rules[i] = rule
	return s
}

// wrongRules returns r with each of its fields spoilt in all ways.
func wrongRules(r api.Rule, modes int) []api.Rule {
	var l []api.Rule
	for _, n := range []int{-1 << 63, -1, modes, modes + 1, 256, 1 << 32, 1<<63 - 1} {
		from, to := r, r
		from.From, to.To = n, n
		l = append(l, from, to)
	}
	for _, n := range []int{-1 << 63, -1, 1001, 9999, 1 << 32, 1<<63 - 1} {
		cost := r
		cost.Cost = n
		l = append(l, cost)
	}
	for _, s := range []string{"abcde", "aaaaaaaaaaaaaaaaaaaaaa", "a ", " a", "-", "a-", "{", "`", "é", "a\n", "\x00", "\xff", "_", "/", ":", "@", "[", "٣"} {
		in, out := r, r
		in.In, out.Out = s, s
		l = append(l, in, out)
	}
	for _, s := range []string{"A", "Z", "0", "9", "aA", "a1", "aaaZ"} {
		in := r
		in.In = s
		l = append(l, in)
	}
	return l
}
