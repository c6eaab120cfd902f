package claims

import (
	"math"
	"math/rand/v2"
	"slices"
	"strconv"
	"strings"

	"caravan/api"
)

// world tells of each slot whose it is: what a list says by the chapter's words, slot by slot. An epoch of 0 is that of nobody.
type world [api.Slots]struct{ node, epoch int }

// painted is the world of a list, whose claims may be of any slots.
func painted(l []api.Claim) *world {
	var w world
	for _, c := range l {
		for n := max(c.From, 0); n < len(w) && n <= c.To; n++ {
			w[n].node, w[n].epoch = c.Node, c.Epoch
		}
	}
	return &w
}

// list is the valid list of a world.
func (w *world) list() []api.Claim {
	var l []api.Claim
	for n, o := range w {
		switch {
		case o.epoch == 0:
		case n > 0 && w[n-1] == o:
			l[len(l)-1].To = n
		default:
			l = append(l, api.Claim{From: n, To: n, Node: o.node, Epoch: o.epoch})
		}
	}
	return l
}

// joined is the world in which each slot is whose it is in either, and in both that of the greater epoch, for equal ones of the greater node.
func (w *world) joined(other *world) *world {
	out := *w
	for n, o := range other {
		switch mine := w[n]; {
		case o.epoch == 0:
		case mine.epoch == 0, o.epoch > mine.epoch, o.epoch == mine.epoch && o.node > mine.node:
			out[n] = o
		}
	}
	return &out
}

// given is the world in which all slots of the spans are the node's.
func (w *world) given(s []api.Span, node, epoch int) *world {
	out := *w
	for n := range out {
		for _, span := range s {
			if span.From <= n && n <= span.To {
				out[n].node, out[n].epoch = node, epoch
			}
		}
	}
	return &out
}

// owned is the valid list of spans of a node's slots.
func (w *world) owned(node int) []api.Span {
	var l []api.Span
	for n, o := range w {
		switch {
		case o.epoch == 0 || o.node != node:
		case len(l) > 0 && l[len(l)-1].To == n-1:
			l[len(l)-1].To = n
		default:
			l = append(l, api.Span{From: n, To: n})
		}
	}
	return l
}

// masters is the nodes that have slots.
func (w *world) masters() []int {
	var l []int
	for node := range api.MaxNodes {
		if len(w.owned(node)) > 0 {
			l = append(l, node)
		}
	}
	return l
}

// valid is what May is to say: all numbers are within their bounds, and the list is the one of its world.
func valid(l []api.Claim) bool {
	for _, c := range l {
		if c.From < 0 || c.From > 16383 || c.To < c.From || c.To > 16383 || c.Node < 0 || c.Node > 7 || c.Epoch < 1 || c.Epoch > 9007199254740992 {
			return false
		}
	}
	return slices.Equal(l, painted(l).list())
}

// of is a list of claims: the From, To, Node and Epoch of each.
func of(n ...int) []api.Claim {
	var l []api.Claim
	for i := 0; i+3 < len(n); i += 4 {
		l = append(l, api.Claim{From: n[i], To: n[i+1], Node: n[i+2], Epoch: n[i+3]})
	}
	return l
}

// to is a list of spans: the From and To of each.
func to(n ...int) []api.Span {
	var l []api.Span
	for i := 0; i+1 < len(n); i += 2 {
		l = append(l, api.Span{From: n[i], To: n[i+1]})
	}
	return l
}

// row is claims of one slot each, side by side from a slot on, as letters tell: - nobody, a node 1 since epoch 1, b node 2 since epoch 1, A node 1 since epoch 2, B node 2 since epoch 2. They are not joined.
func row(from int, letters string) []api.Claim {
	var l []api.Claim
	for i, letter := range letters {
		if letter == '-' {
			continue
		}
		c := api.Claim{From: from + i, To: from + i, Node: 1, Epoch: 1}
		if letter == 'b' || letter == 'B' {
			c.Node = 2
		}
		if letter == 'A' || letter == 'B' {
			c.Epoch = 2
		}
		l = append(l, c)
	}
	return l
}

// rows are the valid lists of all rows of so many slots from one on.
func rows(from, width int, letters string) [][]api.Claim {
	texts := []string{""}
	for range width {
		var longer []string
		for _, s := range texts {
			for _, letter := range letters {
				longer = append(longer, s+string(letter))
			}
		}
		texts = longer
	}
	var all [][]api.Claim
	for _, s := range texts {
		all = append(all, painted(row(from, s)).list())
	}
	return all
}

// lists are valid ones of any kind, from one claim to one a slot.
func lists(seed uint64, n int) [][]api.Claim {
	r := rand.New(rand.NewPCG(seed, 13))
	all := [][]api.Claim{nil, {}, of(0, 0, 0, 1), of(16383, 16383, 7, 1<<53), of(0, 16383, 3, 5), of(0, 0, 2, 2, 16383, 16383, 2, 2)}
	for len(all) < n {
		var w world
		wide := []int{12, 100, api.Slots}[r.IntN(3)]
		shift := []int{0, (api.Slots - wide) / 2, api.Slots - wide}[r.IntN(3)]
		nodes, epochs := 1+r.IntN(api.MaxNodes), 1+r.IntN(3)
		for range r.IntN(12) {
			node, epoch := r.IntN(nodes), 1+r.IntN(epochs)
			if r.IntN(9) == 0 {
				epoch = 1<<53 - r.IntN(2)
			}
			from := r.IntN(wide)
			for at := from; at < wide && at <= from+r.IntN(wide/2); at++ {
				w[shift+at].node, w[shift+at].epoch = node, epoch
			}
		}
		all = append(all, w.list())
	}
	return all
}

// spanLists are lists of spans of any kind: none of them has to be valid.
func spanLists(seed uint64, n int) [][]api.Span {
	r := rand.New(rand.NewPCG(seed, 2))
	edges := []int{math.MinInt, -1, 0, 1, 16382, 16383, 16384, math.MaxInt}
	all := [][]api.Span{nil, {}, to(0, 0), to(16383, 16383), to(0, 16383), to(math.MinInt, math.MaxInt), to(math.MaxInt, math.MinInt), to(5, 4)}
	for len(all) < n {
		var l []api.Span
		wide := []int{12, 100, api.Slots}[r.IntN(3)]
		for range r.IntN(8) {
			from := r.IntN(wide+wide/4) - wide/8
			l = append(l, api.Span{From: from, To: from + r.IntN(wide/4) - 2})
		}
		if r.IntN(3) == 0 && len(l) > 0 {
			l[r.IntN(len(l))].To = edges[r.IntN(len(edges))]
		}
		all = append(all, l)
	}
	return all
}

// each is one claim a slot, all of them of n nodes and epochs by turns.
func each(nodes, epochs int) []api.Claim {
	var l []api.Claim
	for n := range api.Slots {
		l = append(l, api.Claim{From: n, To: n, Node: n % nodes, Epoch: 1 + n%epochs})
	}
	return l
}

// told is the text of the claims as they stand.
func told(l []api.Claim) string {
	if len(l) > 30 {
		return told(l[:30]) + " and " + strconv.Itoa(len(l)-30) + " more"
	}
	var parts []string
	for _, c := range l {
		parts = append(parts, strconv.Itoa(c.From)+"-"+strconv.Itoa(c.To)+":"+strconv.Itoa(c.Node)+"@"+strconv.Itoa(c.Epoch))
	}
	return "[" + strings.Join(parts, " ") + "]"
}

// toldSpans is the text of the spans as they stand.
func toldSpans(l []api.Span) string {
	var parts []string
	for _, s := range l {
		parts = append(parts, strconv.Itoa(s.From)+"-"+strconv.Itoa(s.To))
	}
	return "[" + strings.Join(parts, " ") + "]"
}
