package move

import (
	"cmp"
	"fmt"
	"maps"
	"math/rand/v2"
	"slices"
	"strconv"
	"testing"

	"caravan/api"
	"caravan/claims"
	"caravan/feed"
	"caravan/route"
	"caravan/space"
)

// sent is a key on its way: who sent it, by which number.
type sent struct{ from, num int }

// world is nodes that hand slots to each other, with the messages under way.
type world struct {
	t      *testing.T
	nodes  []api.Node
	net    []api.Msg
	keys   []string
	latest map[string]string // what each key has, as the last call left it
	waits  map[sent]string   // the keys that are on their way, until they are acknowledged
	takes  map[sent]int      // how often each number was taken
	calls  int
	starts int
	given  int
}

// newWorld has nodes of which each owns as many slots as the others, and all of the keys.
func newWorld(t *testing.T, count int, keys ...string) *world {
	w := &world{t: t, keys: keys, latest: map[string]string{}, waits: map[sent]string{}, takes: map[sent]int{}}
	var owners []api.Claim
	for i := range count {
		w.nodes = append(w.nodes, api.Node{Count: count, Id: i, Master: -1, Epoch: 1})
		owners = append(owners, api.Claim{From: i * 16384 / count, To: (i+1)*16384/count - 1, Node: i, Epoch: 1})
	}
	for i := range w.nodes {
		w.nodes[i].Claims = owners
	}
	for _, k := range keys {
		w.call(0, k, false)
	}
	w.check()
	return w
}

// split is the world as it is, to go on in another way.
func (w *world) split() *world {
	c := *w
	c.nodes, c.net = slices.Clone(w.nodes), slices.Clone(w.net)
	c.latest, c.waits, c.takes = maps.Clone(w.latest), maps.Clone(w.waits), maps.Clone(w.takes)
	return &c
}

// call sets or deletes a key, wherever the call is sent on to, and is whether any node answers it.
func (w *world) call(at int, k string, del bool) bool {
	asking := false
	for range 5 {
		reply := route.Decide(w.nodes[at], []string{k}, asking)
		if reply == "" {
			w.write(at, k, del)
			return true
		}
		word, _, to := route.Read(reply)
		if word == "" {
			return false
		}
		at, asking = to, word == "ASK"
	}
	return false
}

func (w *world) write(at int, k string, del bool) {
	w.calls++
	e := put(k, text(strconv.Itoa(w.calls)))
	w.latest[k] = e.Item.S
	if del {
		e = gone(k)
		delete(w.latest, k)
	}
	n := &w.nodes[at]
	n.Db, n.Feed = space.Apply(n.Db, e), feed.Add(n.Feed, e)
}

func (w *world) start(at, slot, to int) {
	n, e := Start(w.nodes[at], slot, to)
	w.nodes[at] = n
	if e == api.OK {
		w.starts++
	}
}

func (w *world) tick(at int) {
	before := len(w.nodes[at].Moves)
	n, msgs := Tick(w.nodes[at])
	w.nodes[at] = n
	for _, m := range msgs {
		id := sent{m.From, m.Num}
		if k, is := w.waits[id]; is && k != m.Effects[0].Key || w.takes[id] > 0 && !is {
			w.t.Fatalf("16.5: a number is used again: %s", tell(m))
		}
		w.waits[id] = m.Effects[0].Key
	}
	w.net = append(w.net, msgs...)
	w.given += before - len(n.Moves)
}

// hear is the one node's claims told to the other one.
func (w *world) hear(at, from int) {
	n := &w.nodes[at]
	n.Epoch = max(n.Epoch, w.nodes[from].Epoch)
	n.Claims = claims.Join(n.Claims, w.nodes[from].Claims)
}

func (w *world) deliver(m api.Msg) {
	n := w.nodes[m.To]
	if m.Kind == api.GAck {
		after := Acked(n, m)
		_, waited := w.waits[sent{m.To, m.Num}]
		if waited == same(after, n) {
			w.t.Fatalf("16.4: an ack makes\n%s of\n%s", tell(after), tell(n))
		}
		delete(w.waits, sent{m.To, m.Num})
		w.nodes[m.To] = after
		return
	}
	after, acks := Take(n, m)
	if len(acks) != 1 {
		w.t.Fatalf("16.3: %s is not acknowledged", tell(m))
	}
	if !same(after, n) {
		w.takes[sent{m.From, m.Num}]++
	}
	w.nodes[m.To] = after
	w.net = append(w.net, acks...)
}

// check is that no number is taken twice, that each key on its way is kept and locked, and that each key is where it is to be found, as the last call left it.
func (w *world) check() {
	for _, n := range w.nodes {
		if !valid(n) {
			w.t.Fatalf("no valid node: %s", tell(n))
		}
	}
	for id, count := range w.takes {
		if count > 1 {
			w.t.Fatalf("16.5: the number %v was taken %d times", id, count)
		}
	}
	for id, k := range w.waits {
		n := w.nodes[id.from]
		held := slices.ContainsFunc(n.Moves, func(m api.Move) bool { return m.Num == id.num && m.Key == k })
		if _, has := space.Raw(n.Db, k); !held || !has || route.Decide(n, []string{k}, false) != "TRYAGAIN" {
			w.t.Fatalf("16.5: the key %q, on its way by %v, is not kept, locked, by %s", k, id, tell(n))
		}
	}
	for _, k := range w.keys {
		w.checkKey(k)
	}
}

func (w *world) checkKey(k string) {
	waits := slices.Contains(slices.Collect(maps.Values(w.waits)), k)
	want, is := w.latest[k]
	count := 0
	for _, n := range w.nodes {
		if i, has := space.Raw(n.Db, k); has {
			count++
			if !same(i, text(want)) {
				w.t.Fatalf("16.5: the key %q is %s at node %d, want %q", k, tell(i), n.Id, want)
			}
		}
	}
	switch {
	case !is && count != 0, is && count == 0, is && !waits && count > 1, count > 2:
		w.t.Fatalf("16.5: %d nodes have the key %q (is it there: %v, is it on its way: %v)", count, k, is, waits)
	}
}

// settle delivers all, and ticks, until no slot moves any more; each key is to be at the owner of its slot then.
func (w *world) settle() {
	for range 60 {
		for len(w.net) > 0 {
			m := w.net[0]
			w.net = w.net[1:]
			w.deliver(m)
			w.check()
		}
		for i := range w.nodes {
			w.tick(i)
			w.check()
		}
	}
	for i := range w.nodes {
		for j := range w.nodes {
			w.hear(i, j)
		}
	}
	for i := range w.nodes {
		w.hear(i, len(w.nodes)-1)
		if len(w.nodes[i].Moves) > 0 || !same(w.nodes[i].Claims, w.nodes[0].Claims) {
			w.t.Fatalf("16.5: at the end there is %s", tell(w.nodes[i]))
		}
	}
	for _, n := range w.nodes {
		for _, p := range n.Db {
			if reply := route.Decide(n, []string{p.Key}, false); reply != "" {
				w.t.Fatalf("16.5: at the end node %d has %q and replies %q", n.Id, p.Key, reply)
			}
		}
	}
	if len(w.waits) > 0 {
		w.t.Fatalf("16.5: at the end there are keys on their way: %v", w.waits)
	}
}

// any does something of no order; messages are lost, doubled and late.
func (w *world) any(r *rand.Rand, slots []int) {
	i, j := r.IntN(len(w.nodes)), r.IntN(len(w.nodes))
	switch n := r.IntN(100); {
	case n < 10:
		w.start(i, slots[r.IntN(len(slots))], j)
	case n < 35:
		w.tick(i)
	case n < 45:
		w.call(i, w.keys[r.IntN(len(w.keys))], r.IntN(4) == 0)
	case n < 55:
		w.hear(i, j)
	case len(w.net) == 0:
	case n < 60:
		w.pick(r, true)
	case n < 75:
		w.deliver(w.pick(r, false))
	default:
		w.deliver(w.pick(r, true))
	}
	if len(w.net) > 40 {
		w.pick(r, true)
	}
}

// pick is a message under way, which is gone then, or will come once more.
func (w *world) pick(r *rand.Rand, gone bool) api.Msg {
	at := r.IntN(len(w.net))
	m := w.net[at]
	if gone {
		w.net = slices.Delete(w.net, at, at+1)
	}
	return m
}

func TestNodesHandSlotsToEachOther(t *testing.T) {
	slots := []int{0, 15495, 3300}
	keys := []string{"", "a", "{a}1", "{a}2", "b", "{b}1"}
	starts, given, taken, calls := 0, 0, 0, 0
	for seed := range uint64(100) {
		r := rand.New(rand.NewPCG(16, seed))
		w := newWorld(t, 2+int(seed%2), keys...)
		for range 400 {
			w.any(r, slots)
			w.check()
		}
		w.settle()
		starts, given, taken, calls = starts+w.starts, given+w.given, taken+len(w.takes), calls+w.calls
	}
	if starts < 300 || given < 300 || taken < 500 || calls < 1000 {
		t.Errorf("there were only %d starts, %d slots given, %d keys taken and %d calls", starts, given, taken, calls)
	}
}

// next are all worlds that may come of this one by a single thing that happens. What was sent once may come at any time, and again.
func (w *world) next(slot, starts, calls int) []*world {
	var all []*world
	add := func(do func(c *world)) {
		c := w.split()
		do(c)
		slices.SortFunc(c.net, func(a, b api.Msg) int {
			return cmp.Or(cmp.Compare(a.Kind, b.Kind), cmp.Compare(a.From, b.From), cmp.Compare(a.Num, b.Num))
		})
		c.net = slices.CompactFunc(c.net, func(a, b api.Msg) bool { return same(a, b) })
		all = append(all, c)
	}
	for i := range w.nodes {
		j := 1 - i
		if w.starts < starts {
			add(func(c *world) { c.start(i, slot, j) })
		}
		add(func(c *world) { c.tick(i) })
		add(func(c *world) { c.hear(i, j) })
	}
	for _, m := range w.net {
		add(func(c *world) { c.deliver(m) })
	}
	for _, k := range w.keys {
		if w.calls < calls {
			add(func(c *world) { c.call(0, k, false) })
			add(func(c *world) { c.call(0, k, true) })
		}
	}
	return all
}

// TestAllThatMayHappen walks through all worlds of two nodes in which a slot goes over and back, and calls come between.
func TestAllThatMayHappen(t *testing.T) {
	for _, c := range []struct{ starts, calls int }{{1, 5}, {2, 4}, {3, 4}} {
		first := newWorld(t, 2, "a", "{a}1")
		known := map[string]struct{}{}
		rest := []*world{first}
		ends := 0
		for len(rest) > 0 {
			w := rest[len(rest)-1]
			rest = rest[:len(rest)-1]
			name := fmt.Sprint(w.nodes, w.net, w.latest, w.waits, w.takes, w.starts, w.calls)
			if _, is := known[name]; is {
				continue
			}
			known[name] = struct{}{}
			w.check()
			if w.given == c.starts {
				ends++
			}
			if len(known)%50 == 0 {
				w.split().settle()
			}
			rest = append(rest, w.next(15495, c.starts, c.calls)...)
		}
		if ends < 400 {
			t.Errorf("only %d of %d worlds came to their end", ends, len(known))
		}
	}
}
