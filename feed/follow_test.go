package feed

import (
	"math/rand/v2"
	"slices"
	"testing"

	"caravan/api"
)

// history is all effects of a master and the space behind each number of them.
type history struct {
	effects []api.Effect
	spaces  [][]api.Pair
}

func newHistory() *history { return &history{spaces: [][]api.Pair{nil}} }

func (h *history) add(e api.Effect) {
	h.effects = append(h.effects, e)
	h.spaces = append(h.spaces, applied(h.spaces[len(h.spaces)-1], []api.Effect{e}))
}

// until is the history as it was when it had so many effects.
func (h *history) until(off int) *history {
	return &history{slices.Clone(h.effects[:off]), slices.Clone(h.spaces[:off+1])}
}

// begins is whether both histories begin with the same effects, so many of them.
func (h *history) begins(other *history, off int) bool {
	return off <= min(len(h.effects), len(other.effects)) && equalEffects(h.effects[:off], other.effects[:off])
}

// member is a node: whom it follows (itself: it is a master), its feed and its space.
type member struct {
	master int
	feed   api.Feed
	db     []api.Pair
}

// world is nodes that follow one another, with the messages under way and all histories there are.
type world struct {
	t         *testing.T
	members   []member
	net       []api.Msg
	histories map[api.Rid]*history
	epoch     int
	count     int
	fed, full int // how many messages of either kind were taken
	changed   int // how many of those went on in another history
}

func newWorld(t *testing.T, count int) *world {
	w := &world{t: t, histories: map[api.Rid]*history{rid(0, 0): newHistory()}}
	for range count {
		w.members = append(w.members, member{})
	}
	return w
}

// write is an effect at a node, if that is a master.
func (w *world) write(i int) {
	m := &w.members[i]
	if m.master != i {
		return
	}
	e := nth(w.count * 7)
	w.count++
	m.feed = Add(m.feed, e)
	m.db = applied(m.db, []api.Effect{e})
	w.histories[m.feed.Rid].add(e)
}

// want is a replica's question, which goes on its way like all messages.
func (w *world) want(i int) {
	if m := w.members[i]; m.master != i {
		w.net = append(w.net, api.Msg{Kind: api.GWant, From: i, To: m.master, Rid: m.feed.Rid, Off: m.feed.Off})
	}
}

// promote makes a master of a replica, as a vote does; its history goes on from where it is.
func (w *world) promote(i int) {
	w.epoch++
	f := &w.members[i].feed
	w.members[i].master = i
	old := f.Rid
	f.Prev, f.Until, f.Rid = old, f.Off, rid(i, w.epoch)
	w.histories[f.Rid] = w.histories[old].until(f.Off)
}

// deliver gives a message to its node, which goes by it if it is for it to do so.
func (w *world) deliver(m api.Msg) {
	to := &w.members[m.To]
	switch {
	case m.Kind == api.GWant && to.master == m.To:
		answer := Answer(to.feed, to.db, m.Rid, m.Off)
		answer.From, answer.To = m.To, m.From
		w.net = append(w.net, answer)
	case m.Kind != api.GWant && to.master == m.From:
		before := to.feed
		var is bool
		to.feed, to.db, is = Got(to.feed, to.db, m)
		w.tally(before, to.feed, m, is)
	}
	w.check(m.To)
}

func (w *world) tally(before, after api.Feed, m api.Msg, is bool) {
	switch {
	case !is && !equalFeeds(before, after):
		w.t.Fatalf("15.3: a message that is not taken changes the %s to the %s", tellFeed(before), tellFeed(after))
	case is && m.Kind == api.GFeed:
		w.fed++
	case is:
		w.full++
	}
	if is && m.Kind == api.GFeed && before.Rid != after.Rid {
		w.changed++
	}
}

// check holds a node against the histories.
func (w *world) check(i int) {
	f, db := w.members[i].feed, w.members[i].db
	h := w.histories[f.Rid]
	if f.Off < 0 || f.Off > len(h.effects) || !equalSpaces(db, h.spaces[f.Off]) {
		w.t.Fatalf("15.4: node %d has the %s and the %s, no prefix of its history of %d", i, tellFeed(f), tellSpace(db), len(h.effects))
	}
	if len(f.Back) > min(f.Off, 64) || !equalEffects(f.Back, h.effects[f.Off-len(f.Back):f.Off]) {
		w.t.Fatalf("15.1: node %d keeps other effects than the last ones: the %s", i, tellFeed(f))
	}
	if f.Until < 0 || f.Until > f.Off || f.Until > 0 && !h.begins(w.histories[f.Prev], f.Until) {
		w.t.Fatalf("15.3: node %d does not share the history before: the %s", i, tellFeed(f))
	}
}

// any does something of no order.
func (w *world) any(r *rand.Rand, busy int) {
	i := r.IntN(len(w.members))
	switch n := r.IntN(100); {
	case n < 30:
		for range 1 + r.IntN(busy) {
			w.write(i)
		}
	case n < 60:
		w.want(i)
	case len(w.net) == 0:
	case n < 90:
		w.deliver(w.pick(r, n < 85))
	case n < 95:
		w.pick(r, true)
	case n < 97:
		if w.members[i].master != i {
			w.promote(i)
		}
	default:
		w.members[i].master = w.latest()
	}
	if len(w.net) > 30 {
		w.pick(r, true)
	}
}

// pick is a message under way, which is gone then, or is doubled.
func (w *world) pick(r *rand.Rand, gone bool) api.Msg {
	at := r.IntN(len(w.net))
	m := w.net[at]
	if gone {
		w.net = slices.Delete(w.net, at, at+1)
	}
	return m
}

// latest is the master of the greatest epoch.
func (w *world) latest() int {
	last := 0
	for i, m := range w.members {
		if m.master == i && m.feed.Rid.Epoch >= w.members[last].feed.Rid.Epoch {
			last = i
		}
	}
	return last
}

// settle has all follow one master, without losses; it is over once all have the same.
func (w *world) settle() {
	master := w.latest()
	w.net = nil
	for i := range w.members {
		w.members[i].master = master
	}
	own := w.members[master]
	for i := range w.members {
		for asked := 0; i != master && (w.members[i].feed.Rid != own.feed.Rid || w.members[i].feed.Off != own.feed.Off); asked++ {
			if asked > 64/16+1 {
				w.t.Fatalf("15.4: node %d with the %s does not come behind the %s", i, tellFeed(w.members[i].feed), tellFeed(own.feed))
			}
			w.want(i)
			for len(w.net) > 0 {
				m := w.net[0]
				w.net = w.net[1:]
				w.deliver(m)
			}
		}
		if !equalSpaces(w.members[i].db, own.db) {
			w.t.Fatalf("15.4: node %d has the %s, its master the %s", i, tellSpace(w.members[i].db), tellSpace(own.db))
		}
	}
}

// TestReplicasHavePrefixes has messages lost, doubled, late and in any order, masters that come and go and one that goes on meanwhile.
func TestReplicasHavePrefixes(t *testing.T) {
	fed, full, changed := 0, 0, 0
	for seed := range 120 {
		r := rand.New(rand.NewPCG(15, uint64(seed)))
		w := newWorld(t, 2+seed%4)
		for step := range 600 {
			w.any(r, 1+seed%7*3)
			if step%200 == 199 {
				w.settle()
			}
		}
		fed, full, changed = fed+w.fed, full+w.full, changed+w.changed
	}
	if fed < 1000 || full < 100 || changed < 100 {
		t.Errorf("15.4: only %d GFeeds (%d of them of another history) and %d GFulls were taken", fed, changed, full)
	}
}

// chosen are offsets at which something begins or ends.
func chosen() []int {
	return []int{0, 1, 2, 7, 8, 9, 15, 16, 17, 24, 31, 32, 33, 47, 48, 62, 63, 64, 65, 66, 71, 72}
}

// TestAnyAnswerAtAnyTime gives each answer that a master says at some time to some replica to each replica, however far that is.
func TestAnyAnswerAtAnyTime(t *testing.T) {
	h := newHistory()
	for _, e := range effects(0, 72) {
		h.add(e)
	}
	own, other := rid(1, 5), rid(1, 4)
	taken := 0
	for _, at := range chosen() {
		master := known(own, at, min(at, 64))
		for _, asked := range chosen() {
			for _, of := range []api.Rid{own, other} {
				m := Answer(master, h.spaces[at], of, asked)
				for _, is := range chosen() {
					g, db, ok := Got(known(own, is, min(is, 64)), h.spaces[is], m)
					if ok {
						taken++
					}
					if g.Off < is || g.Off > max(is, at) || ok && g.Off == is && len(m.Effects) > 0 || !equalSpaces(db, h.spaces[g.Off]) {
						t.Fatalf("15.4: a replica at %d is by the %s, answered at %d, at %d: %s", is, tellMsg(m), at, g.Off, tellSpace(db))
					}
				}
			}
		}
	}
	if taken < 500 {
		t.Errorf("only %d answers were taken", taken)
	}
}

// TestEachStepOfAReplica counts how many answers bring a replica behind its master.
func TestEachStepOfAReplica(t *testing.T) {
	h := newHistory()
	for _, e := range effects(0, 200) {
		h.add(e)
	}
	for _, prev := range []bool{false, true} {
		master := known(rid(1, 5), 200, 64)
		master.Prev, master.Until = rid(2, 3), 180
		for begin := range 201 {
			g, db := known(master.Rid, begin, min(begin, 5)), h.spaces[begin]
			if prev {
				g.Rid = master.Prev
			}
			want := (200 - begin + 15) / 16
			if begin < 136 || prev && begin > 180 {
				want = 1
			} else if prev {
				want = max(1, want)
			}
			steps := 0
			for ; g.Rid != master.Rid || g.Off != 200; steps++ {
				var is bool
				if g, db, is = Got(g, db, Answer(master, h.spaces[200], g.Rid, g.Off)); !is || steps > 9 {
					t.Fatalf("15.3: an answer to a replica at %d is not taken: %s", begin, tellFeed(g))
				}
			}
			if steps != want || !equalSpaces(db, h.spaces[200]) {
				t.Errorf("15.4: a replica from %d on is behind its master by %d answers, want %d", begin, steps, want)
			}
		}
	}
}

// TestTheHistoryBefore has a replica that is behind in the history from which its new master came.
func TestTheHistoryBefore(t *testing.T) {
	old, own := rid(0, 1), rid(1, 2)
	f := Add(api.Feed{Rid: old}, effects(0, 40)...)
	behind := Add(api.Feed{Rid: old}, effects(0, 30)...)
	db := applied(nil, effects(0, 30))
	// The one that becomes a master has all; its own history goes on.
	f.Prev, f.Until, f.Rid = f.Rid, f.Off, own
	f = Add(f, effects(40, 50)...)
	first := Answer(f, applied(nil, effects(0, 50)), behind.Rid, behind.Off)
	g, x, is := Got(behind, db, first)
	want := api.Feed{Rid: own, Off: 46, Back: effects(0, 46), Prev: old, Until: 30}
	if !is || !equalFeeds(g, want) || !equalSpaces(x, applied(nil, effects(0, 46))) {
		t.Fatalf("15.4: the replica is at the %s, want %s", tellFeed(g), tellFeed(want))
	}
	// The same answer again is for a history that isn't the replica's any more.
	if again, y, is := Got(g, x, first); is || !equalFeeds(again, g) || !equalSpaces(y, x) {
		t.Errorf("15.4: an answer that comes twice is taken twice: %s", tellFeed(again))
	}
	// One that went on in the old history beyond where the new one left it has to have all anew.
	ahead := Add(api.Feed{Rid: old}, append(effects(0, 40), effects(90, 95)...)...)
	m := Answer(f, applied(nil, effects(0, 50)), ahead.Rid, ahead.Off)
	g, x, is = Got(ahead, applied(nil, append(effects(0, 40), effects(90, 95)...)), m)
	if want = (api.Feed{Rid: own, Off: 50}); m.Kind != api.GFull || !is || !equalFeeds(g, want) || !equalSpaces(x, applied(nil, effects(0, 50))) {
		t.Errorf("15.4: by the %s the replica is at the %s, want %s", tellMsg(m), tellFeed(g), tellFeed(want))
	}
}
