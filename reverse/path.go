package reverse

import (
	"container/heap"
	"slices"
	"strings"

	"syllabary/api"
)

// place is how much of an input a route has taken, how much of a text it has put out, and its mode.
type place struct{ taken, put, mode int }

// path is a route with its cost and its place.
type path struct {
	rules []int
	cost  int
	at    place
}

// with returns the route with one more rule. The list gets memory of its own, since several rules may follow the same route.
func (p path) with(i int, r api.Rule) path {
	n := len(p.rules)
	return path{
		rules: append(p.rules[:n:n], i),
		cost:  p.cost + r.Cost,
		at:    place{p.at.taken + len(r.In), p.at.put + len(r.Out), r.To},
	}
}

// before orders routes by their costs, then by the numbers of their rules, then lexicographically.
func (p path) before(q path) bool {
	if p.cost != q.cost {
		return p.cost < q.cost
	}
	if len(p.rules) != len(q.rules) {
		return len(p.rules) < len(q.rules)
	}
	return slices.Compare(p.rules, q.rules) < 0
}

// paths is a heap of routes.
type paths []path

func (l paths) Len() int           { return len(l) }
func (l paths) Less(i, j int) bool { return l[i].before(l[j]) }
func (l paths) Swap(i, j int)      { l[i], l[j] = l[j], l[i] }
func (l *paths) Push(x any)        { *l = append(*l, x.(path)) }

func (l *paths) Pop() any {
	last := len(*l) - 1
	p := (*l)[last]
	*l = (*l)[:last]
	return p
}

// between returns the first whole route that takes in and puts out out, and whether there is one. Of the routes to the same place only the first one is lengthened, since the same rules may follow all of them.
func between(s api.Scheme, in, out string) ([]int, bool) {
	open := &paths{{}}
	first := map[place]path{}
	for open.Len() > 0 {
		p := heap.Pop(open).(path)
		if p.at.taken == len(in) && p.at.put == len(out) && accepting(s, p.at.mode) {
			return p.rules, true
		}
		for i, r := range s.Rules {
			if r.From != p.at.mode || !strings.HasPrefix(in[p.at.taken:], r.In) || !strings.HasPrefix(out[p.at.put:], r.Out) {
				continue
			}
			q := p.with(i, r)
			if other, is := first[q.at]; !is || q.before(other) {
				first[q.at] = q
				heap.Push(open, q)
			}
		}
	}
	return nil, false
}
