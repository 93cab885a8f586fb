package slip

import "syllabary/api"

// table has the distances of all beginnings of typed, a column for each, from beginnings of what was meant, a row for each. A swap looks back by two rows, so three of them are kept, the newest one last.
type table struct {
	slips api.Slips
	put   func(meant, typed byte) int
	typed string
	rows  [3][]int
}

func tableFor(l api.Slips, typed string) *table {
	t := &table{slips: l, put: puts(l), typed: typed}
	for i := range t.rows {
		t.rows[i] = make([]int, len(typed)+1)
	}
	return t
}

// distance returns the distance of typed from meant. What earlier texts left in the rows is written over before it is read.
func (t *table) distance(meant string) int {
	first := t.rows[2]
	for j := range first {
		first[j] = j * t.slips.Add
	}
	for i := range len(meant) {
		t.rows = [3][]int{t.rows[1], t.rows[2], t.rows[0]}
		t.fill(meant[:i+1])
	}
	return t.rows[2][len(t.typed)]
}

// fill fills the newest row, the one of a beginning of meant that is not empty, from the two rows before it.
func (t *table) fill(meant string) {
	l, rows := t.slips, t.rows
	last := meant[len(meant)-1]
	rows[2][0] = rows[1][0] + l.Drop
	for j := range len(t.typed) {
		cost := min(rows[1][j]+t.put(last, t.typed[j]), rows[1][j+1]+l.Drop, rows[2][j]+l.Add)
		if swapped(meant, t.typed[:j+1]) {
			cost = min(cost, rows[0][j-1]+l.Swap)
		}
		rows[2][j+1] = cost
	}
}

// swapped reports whether the last two bytes of typed are those of meant, exchanged. They may be equal, which is no swap; but as they are, they cost nothing, and so less than one.
func swapped(meant, typed string) bool {
	m, t := len(meant), len(typed)
	return m > 1 && t > 1 && meant[m-2] == typed[t-1] && meant[m-1] == typed[t-2]
}
