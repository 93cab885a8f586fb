package flaw_test

import (
	"math/rand"
	"slices"
	"testing"

	"syllabary/api"
	"syllabary/flaw"
	"syllabary/scheme"
)

// The functions here say again, in other ways than the package does, what chains, modes and flaws are.

func accepting(s api.Scheme, mode int) bool {
	return int(s.Accept)/(1<<mode)%2 == 1
}

// chain is a list of rules that fit together, with the modes between which it leads; Silent: none of its rules takes anything.
type chain struct {
	Rules    []int
	From, To int
	Silent   bool
}

// earlier compares chains by their lengths, and then lexicographically.
func earlier(a, b chain) int {
	key := func(c chain) []int { return append([]int{len(c.Rules)}, c.Rules...) }
	return slices.Compare(key(a), key(b))
}

// allChains returns all chains with at most so many rules, sorted.
func allChains(s api.Scheme, most int) []chain {
	var found []chain
	var grow func(c chain)
	grow = func(c chain) {
		found = append(found, c)
		if len(c.Rules) == most {
			return
		}
		for i, r := range s.Rules {
			if r.From == c.To {
				grow(chain{append(slices.Clone(c.Rules), i), c.From, r.To, c.Silent && r.In == ""})
			}
		}
	}
	for m := range s.Modes {
		grow(chain{From: m, To: m, Silent: true})
	}
	slices.SortFunc(found, earlier)
	return found
}

// truth is what there is to know of a scheme.
type truth struct {
	Reached, Live []bool
	Report        api.Report
}

// searched finds the truth by a search through all chains that have no more rules than there are modes.
func searched(s api.Scheme) truth {
	chains := allChains(s, s.Modes)
	w := truth{Reached: make([]bool, s.Modes), Live: make([]bool, s.Modes)}
	for _, c := range chains {
		w.Reached[c.To] = w.Reached[c.To] || c.From == 0
		w.Live[c.From] = w.Live[c.From] || accepting(s, c.To)
	}
	for i, r := range s.Rules {
		if !w.Reached[r.From] || !w.Live[r.To] {
			w.Report.Dead = append(w.Report.Dead, i)
		}
	}
	for _, c := range slices.Backward(chains) {
		if w.Live[0] && c.From == 0 && !w.Live[c.To] {
			w.Report.Stuck = c.Rules
		}
		if len(c.Rules) > 0 && c.Silent && c.From == c.To && w.Reached[c.From] && w.Live[c.From] {
			w.Report.Endless = c.Rules
		}
	}
	return w
}

// table has the first chains with exactly n rules between any two modes, for n from 0 up to 8; nil: there is none.
type table [9][8][8]*chain

// firstChains fills a table from chains that are one rule shorter, so that it can be made for schemes with many rules.
func firstChains(s api.Scheme, allowed func(r api.Rule) bool) table {
	var t table
	for m := range s.Modes {
		t[0][m][m] = &chain{From: m, To: m}
	}
	for n := 1; n < len(t); n++ {
		for i, r := range s.Rules {
			for to := range s.Modes {
				rest := t[n-1][r.To][to]
				if rest == nil || !allowed(r) {
					continue
				}
				c := chain{Rules: slices.Concat([]int{i}, rest.Rules), From: r.From, To: to}
				if old := t[n][r.From][to]; old == nil || earlier(c, *old) < 0 {
					t[n][r.From][to] = &c
				}
			}
		}
	}
	return t
}

// first returns the rules of the first chain in t with at least so many rules that is wanted.
func (t table) first(least int, wanted func(from, to int) bool) ([]int, bool) {
	for _, square := range t[least:] {
		var found []chain
		for from, row := range square {
			for to, c := range row {
				if c != nil && wanted(from, to) {
					found = append(found, *c)
				}
			}
		}
		if len(found) > 0 {
			return slices.MinFunc(found, earlier).Rules, true
		}
	}
	return nil, false
}

// tabled finds the truth by tables of first chains.
func tabled(s api.Scheme) truth {
	all := firstChains(s, func(api.Rule) bool { return true })
	silent := firstChains(s, func(r api.Rule) bool { return r.In == "" })
	var w truth
	for m := range s.Modes {
		_, reached := all.first(0, func(from, to int) bool { return from == 0 && to == m })
		_, live := all.first(0, func(from, to int) bool { return from == m && accepting(s, to) })
		w.Reached, w.Live = append(w.Reached, reached), append(w.Live, live)
	}
	for i := range s.Rules {
		if !(w.Reached[s.Rules[i].From] && w.Live[s.Rules[i].To]) {
			w.Report.Dead = append(w.Report.Dead, i)
		}
	}
	w.Report.Stuck, _ = all.first(0, func(from, to int) bool { return w.Live[0] && from == 0 && !w.Live[to] })
	w.Report.Endless, _ = silent.first(1, func(from, to int) bool { return from == to && w.Reached[from] && w.Live[from] })
	return w
}

// sound returns what Sound must return for a valid scheme.
func (w truth) sound() api.Errno {
	if !w.Live[0] {
		return api.ErrNone
	}
	if len(w.Report.Stuck) > 0 {
		return api.ErrStuck
	}
	if len(w.Report.Endless) > 0 {
		return api.ErrEndless
	}
	return api.OK
}

// fits returns the modes between which the rules lead, if there are any, and they are a chain.
func fits(s api.Scheme, l []int) (from, to int, ok bool) {
	var ends [][2]int
	for _, i := range l {
		if i < 0 || len(s.Rules) <= i {
			return 0, 0, false
		}
		ends = append(ends, [2]int{s.Rules[i].From, s.Rules[i].To})
	}
	for n := 1; n < len(ends); n++ {
		if ends[n-1][1] != ends[n][0] {
			return 0, 0, false
		}
	}
	if len(ends) == 0 {
		return 0, 0, false
	}
	return ends[0][0], ends[len(ends)-1][1], true
}

// right reports whether what r says of the valid scheme s is so.
func (w truth) right(s api.Scheme, r api.Report) bool {
	for n, i := range r.Dead {
		if !slices.Contains(w.Report.Dead, i) || n > 0 && r.Dead[n-1] >= i {
			return false
		}
	}
	from, to, ok := fits(s, r.Stuck)
	if len(r.Stuck) > 0 && !(ok && from == 0 && w.Live[0] && !w.Live[to]) {
		return false
	}
	if len(r.Endless) == 0 {
		return true
	}
	from, to, ok = fits(s, r.Endless)
	silent := func(i int) bool { return s.Rules[i].In == "" }
	return ok && from == to && w.Reached[from] && w.Live[from] &&
		!slices.ContainsFunc(r.Endless, func(i int) bool { return !silent(i) })
}

// sameReport takes nil and empty lists for equal.
func sameReport(a, b api.Report) bool {
	return slices.Equal(a.Dead, b.Dead) && slices.Equal(a.Stuck, b.Stuck) && slices.Equal(a.Endless, b.Endless)
}

func cloned(r api.Report) api.Report {
	return api.Report{Dead: slices.Clone(r.Dead), Stuck: slices.Clone(r.Stuck), Endless: slices.Clone(r.Endless)}
}

// agrees checks the results of Find and Sound for a valid scheme, and that its report is proved.
func agrees(t *testing.T, s api.Scheme, w truth) {
	t.Helper()
	r := flaw.Find(s)
	if !sameReport(r, w.Report) {
		t.Fatalf("Find(%+v) = %+v; it should be %+v", s, r, w.Report)
	}
	if err := flaw.Sound(s); err != w.sound() {
		t.Fatalf("Sound(%+v) = %v; it should be %v", s, err, w.sound())
	}
	if !flaw.Proves(s, r) {
		t.Fatalf("Proves(%+v, %+v) is false", s, r)
	}
}

// reported checks the results of Find and Sound for a valid scheme.
func reported(t *testing.T, s api.Scheme, r api.Report, err api.Errno) {
	t.Helper()
	if !scheme.Valid(s) {
		t.Fatalf("%+v is not valid", s)
	}
	if found := flaw.Find(s); !sameReport(found, r) {
		t.Fatalf("Find(%+v) = %+v; it should be %+v", s, found, r)
	}
	if e := flaw.Sound(s); e != err {
		t.Fatalf("Sound(%+v) = %v; it should be %v", s, e, err)
	}
}

// proved checks a result of Proves.
func proved(t *testing.T, s api.Scheme, r api.Report, want bool) {
	t.Helper()
	if flaw.Proves(s, r) != want {
		t.Fatalf("Proves(%+v, %+v) is %v", s, r, !want)
	}
}

// rules returns a scheme with the rules (from, to, what it takes), told apart by their costs.
func rules(modes int, accept uint8, list ...api.Rule) api.Scheme {
	s := api.Scheme{Modes: modes, Accept: accept}
	for i, r := range list {
		r.Cost = i
		s.Rules = append(s.Rules, r)
	}
	return s
}

func rule(from, to int, in string) api.Rule { return api.Rule{From: from, To: to, In: in} }

// randomScheme returns a valid scheme with so many modes, and at most so many rules from each mode and altogether. One rule in so many takes nothing. Half of the rules lead to the mode that comes next, so that some chains are long.
func randomScheme(r *rand.Rand, modes, fromEach, altogether, oneIn int) api.Scheme {
	s := api.Scheme{Modes: modes, Accept: uint8(1 << r.Intn(modes))}
	for r.Intn(3) == 0 {
		s.Accept |= 1 << r.Intn(modes)
	}
	leaving := make([]int, modes)
	for range r.Intn(altogether + 1) {
		next := api.Rule{From: r.Intn(modes), To: r.Intn(modes), In: "ab"[:1+r.Intn(2)], Out: []string{"", "A", "b9"}[r.Intn(3)], Cost: r.Intn(4)}
		if r.Intn(oneIn) == 0 {
			next.In = ""
		}
		if r.Intn(2) == 0 {
			next.To = (next.From + 1) % modes
		}
		if leaving[next.From] < fromEach && !slices.Contains(s.Rules, next) {
			leaving[next.From]++
			s.Rules = append(s.Rules, next)
		}
	}
	return s
}

// anyScheme returns a valid scheme of any size.
func anyScheme(r *rand.Rand) api.Scheme {
	return randomScheme(r, 1+r.Intn(8), 64, []int{4, 8, 12, 16, 64}[r.Intn(5)], 1+r.Intn(5))
}

// wrongSchemes returns schemes that are not valid, each one of them for one reason.
func wrongSchemes() []api.Scheme {
	flawed := rules(3, 1, rule(0, 0, ""), rule(0, 1, "b"), rule(2, 2, ""))
	var wrong []api.Scheme
	spoil := func(change func(s *api.Scheme)) {
		s := flawed
		s.Rules = slices.Clone(flawed.Rules)
		change(&s)
		wrong = append(wrong, s)
	}
	for _, modes := range []int{-1 << 63, -1, 0, 2, 9, 64, 1 << 40} {
		spoil(func(s *api.Scheme) { s.Modes = modes })
	}
	for _, accept := range []uint8{0, 8, 9, 255} {
		spoil(func(s *api.Scheme) { s.Accept = accept })
	}
	for _, mode := range []int{-1 << 63, -1, 3, 8, 1<<63 - 1} {
		spoil(func(s *api.Scheme) { s.Rules[2].From = mode })
		spoil(func(s *api.Scheme) { s.Rules[1].To = mode })
	}
	for _, in := range []string{"abcde", "A", "1", "-", "\xff"} {
		spoil(func(s *api.Scheme) { s.Rules[1].In = in })
	}
	for _, out := range []string{"abcde", "-", "é"} {
		spoil(func(s *api.Scheme) { s.Rules[0].Out = out })
	}
	for _, cost := range []int{-1, 1001} {
		spoil(func(s *api.Scheme) { s.Rules[0].Cost = cost })
	}
	spoil(func(s *api.Scheme) { s.Rules = append(s.Rules, s.Rules[1]) })
	spoil(func(s *api.Scheme) {
		for len(s.Rules) < 65 {
			s.Rules = append(s.Rules, api.Rule{In: "a", Cost: 100 + len(s.Rules)})
		}
	})
	return append(wrong, api.Scheme{})
}
