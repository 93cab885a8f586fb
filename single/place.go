package single

import "syllabary/api"

// place is where a route stands that takes its input letter by letter: its last rule, all of which it has put out, takes the rest and then leads to the mode.
type place struct {
	mode int
	rest string
}

// step leads to a place and puts out something.
type step struct {
	to  place
	out string
}

// start is a mode with the first letter that a rule takes there; no letter stands for rules that take nothing.
type start struct {
	mode   int
	letter string
}

// starts has the steps that begin a rule.
type starts map[start][]step

func startsOf(s api.Scheme) starts {
	m := starts{}
	for _, r := range s.Rules {
		letter := r.In[:min(1, len(r.In))]
		from := start{r.From, letter}
		m[from] = append(m[from], step{place{r.To, r.In[len(letter):]}, r.Out})
	}
	return m
}

// steps returns the steps from p that take the letter.
func (m starts) steps(p place, letter string) []step {
	if p.rest == "" {
		return m[start{p.mode, letter}]
	}
	if p.rest[:1] != letter {
		return nil
	}
	return []step{{to: place{p.mode, p.rest[1:]}}}
}

// gap is what two routes have put out, without what both outputs begin with.
type gap struct{ a, b string }

// with returns the gap after both routes have put out more. Outputs whose next bytes are different remain so whatever follows, so no more than these bytes is kept of them.
func (g gap) with(a, b string) gap {
	a, b = g.a+a, g.b+b
	for a != "" && b != "" {
		if a[0] != b[0] {
			return gap{a[:1], b[:1]}
		}
		a, b = a[1:], b[1:]
	}
	return gap{a, b}
}
