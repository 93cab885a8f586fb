package event

import "syllabary/api"

const (
	leastChord = 2
	mostChord  = 4
)

// span has the least and the greatest number allowed.
type span struct{ least, most int }

func (s span) has(n int) bool { return s.least <= n && n <= s.most }

// form says what the events of a kind are like. A field that a form does not name has the zero span, so it must be empty or 0.
type form struct {
	name               string
	keys, points, text span // lengths
	number, slots      span // N and L
	write              func(e api.Event) string
	read               func(rest string) (api.Event, bool)
}

func forms() map[int]form {
	return map[int]form{
		api.Key:    {name: "key", keys: span{1, 1}, write: writeKeys, read: readKeys},
		api.Chord:  {name: "chord", keys: span{leastChord, mostChord}, write: writeKeys, read: readKeys},
		api.Touch:  {name: "touch", points: span{1, 1}, write: writePoints, read: readPoints},
		api.Stroke: {name: "stroke", points: span{2, api.MaxPoints}, write: writePoints, read: readPoints},
		api.Paste:  {name: "paste", text: span{1, api.MaxWord}, write: writeText, read: readText},
		api.Erase:  bare("erase"),
		api.Left:   bare("left"),
		api.Right:  bare("right"),
		api.Hold: {name: "hold", number: span{0, api.MaxInput - 1}, slots: span{1, api.MaxInput},
			write: writeHold, read: readHold},
		api.Choose: {name: "choose", number: span{0, api.MaxPage - 1}, write: writeChoose, read: readChoose},
		api.Commit: bare("commit"),
		api.Cancel: bare("cancel"),
	}
}

func bare(name string) form {
	return form{name: name, write: writeNothing, read: readNothing}
}

// fits compares lengths first, so that long texts and lists are refused without going through them.
func (f form) fits(e api.Event) bool {
	return f.keys.has(len(e.Keys)) && f.points.has(len(e.P)) && f.text.has(len(e.Text)) &&
		f.number.has(e.N) && f.slots.has(e.L) &&
		letters(e.Keys) && increasing(e.Keys) && letters(e.Text) && inside(e.P)
}

func letters(s string) bool {
	for _, r := range s {
		if r < 'a' || r > 'z' {
			return false
		}
	}
	return true
}

func increasing(s string) bool {
	before := rune(-1)
	for _, r := range s {
		if r <= before {
			return false
		}
		before = r
	}
	return true
}

func inside(points []api.Point) bool {
	side := span{0, api.MaxSide}
	for _, p := range points {
		if !side.has(p.X) || !side.has(p.Y) {
			return false
		}
	}
	return true
}
