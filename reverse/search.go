package reverse

import (
	"container/heap"

	"syllabary/api"
)

// bundle is the direct routes that take the same letters and stand at the same place: the least of their costs, and what the first whole routes that begin with them cost and take.
type bundle struct {
	in    string
	at    stand
	cost  int
	least rest
}

// covers reports whether what may follow b may follow a too, for no more. Both take the same letters, and lead to the same mode and the same place of the text.
func (a bundle) covers(b bundle) bool {
	return a.cost <= b.cost && a.at.been&^b.at.been == 0
}

// queue is a heap of bundles. Those come first whose whole routes cost less, or as much and take fewer letters, or as many and their letters come first; so inputs are found in their order.
type queue []bundle

func (q queue) Len() int      { return len(q) }
func (q queue) Swap(i, j int) { q[i], q[j] = q[j], q[i] }
func (q *queue) Push(x any)   { *q = append(*q, x.(bundle)) }

func (q queue) Less(i, j int) bool {
	a, b := q[i], q[j]
	if a.least != b.least {
		return a.least.before(b.least)
	}
	return a.in < b.in
}

func (q *queue) Pop() any {
	last := len(*q) - 1
	a := (*q)[last]
	*q = (*q)[:last]
	return a
}

// spot is where bundles meet of which one may cover another.
type spot struct {
	in        string
	mode, put int
}

// search has the bundles that are still to be lengthened, those that were begun so far, and the costs of the inputs that were found.
type search struct {
	rests *rests
	open  queue
	begun map[spot][]bundle
	costs map[string]int
}

// inputs returns the first k inputs of the text.
func inputs(s api.Scheme, out string, k int) []api.Result {
	var l []api.Result
	f := &search{
		rests: &rests{s: s, out: out, known: map[stand]*rooms{}},
		begun: map[spot][]bundle{},
		costs: map[string]int{},
	}
	f.begin(bundle{at: start()})
	for len(l) < k && len(f.open) > 0 {
		a := heap.Pop(&f.open).(bundle)
		if _, is := f.costs[a.in]; !is && f.rests.ended(a.at) {
			f.costs[a.in] = a.cost
			l = append(l, api.Result{Text: a.in, Cost: a.cost})
		}
		f.lengthen(a)
	}
	return l
}

// begin takes up a bundle, unless no input begins with it, or another one covers it.
func (f *search) begin(a bundle) {
	room := api.MaxInput - len(a.in)
	if room < 0 {
		return
	}
	left := f.rests.from(a.at)[room]
	if !left.is {
		return
	}
	here := spot{a.in, a.at.mode, a.at.put}
	for _, b := range f.begun[here] {
		if b.covers(a) {
			return
		}
	}
	f.begun[here] = append(f.begun[here], a)
	a.least = rest{cost: a.cost + left.cost, letters: len(a.in) + left.letters, is: true}
	heap.Push(&f.open, a)
}

// lengthen begins the bundles with one more rule.
func (f *search) lengthen(a bundle) {
	for _, r := range f.rests.s.Rules {
		if next, may := a.at.after(r, f.rests.out); may {
			f.begin(bundle{in: a.in + r.In, at: next, cost: a.cost + r.Cost})
		}
	}
}
