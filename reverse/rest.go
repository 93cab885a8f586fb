package reverse

import "syllabary/api"

// rest is what the rules cost that make a direct route whole and put out what is left of the text, and how many letters they take, if there are such rules.
type rest struct {
	cost, letters int
	is            bool
}

func (a rest) before(b rest) bool {
	if !a.is || !b.is {
		return a.is
	}
	if a.cost != b.cost {
		return a.cost < b.cost
	}
	return a.letters < b.letters
}

// rooms has, for each number of letters, the first rest that takes no more.
type rooms [api.MaxInput + 1]rest

// improve takes up the rests that begin with the rule r and go on with one of those.
func (l *rooms) improve(r api.Rule, those *rooms) {
	for room := len(r.In); room < len(l); room++ {
		a := those[room-len(r.In)]
		a.cost += r.Cost
		a.letters += len(r.In)
		if a.before(l[room]) {
			l[room] = a
		}
	}
}

// rests finds the first rests of direct routes for a text. They are the same for all routes that stand at the same place.
type rests struct {
	s     api.Scheme
	out   string
	known map[stand]*rooms
}

// ended reports whether routes that stand there are whole and have put out the text.
func (t *rests) ended(at stand) bool {
	return at.put == len(t.out) && accepting(t.s, at.mode)
}

// from returns the first rests of routes that stand there. It comes to an end, since each rule leads on in the text, or to a mode where the routes have not been.
func (t *rests) from(at stand) *rooms {
	if l, is := t.known[at]; is {
		return l
	}
	l := &rooms{}
	if t.ended(at) {
		for room := range l {
			l[room].is = true
		}
	}
	for _, r := range t.s.Rules {
		if next, may := at.after(r, t.out); may {
			l.improve(r, t.from(next))
		}
	}
	t.known[at] = l
	return l
}
