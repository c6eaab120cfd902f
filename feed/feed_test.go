package feed

import (
	"math"
	"slices"
	"strconv"
	"testing"

	"caravan/api"
	"caravan/space"
)

func checkAdd(t *testing.T, f api.Feed, l ...api.Effect) {
	t.Helper()
	if got, want := Add(f, l...), added(f, l); !equalFeeds(got, want) {
		t.Errorf("15.1: Add of %s to the %s is the %s, want %s", tellEffects(l), tellFeed(f), tellFeed(got), tellFeed(want))
	}
}

func checkAnswer(t *testing.T, f api.Feed, db []api.Pair, r api.Rid, off int) {
	t.Helper()
	if got, want := Answer(f, db, r, off), answered(f, db, r, off); !equalMsgs(got, want) {
		t.Errorf("15.2: Answer for %s at %d of the %s and the %s is the %s, want %s", tellRid(r), off, tellFeed(f), tellSpace(db), tellMsg(got), tellMsg(want))
	}
}

// checkGot is also whether the message was taken.
func checkGot(t *testing.T, f api.Feed, db []api.Pair, m api.Msg) bool {
	t.Helper()
	g, after, is := Got(f, db, m)
	want, wantDb, wantIs := gotten(f, db, m)
	if is != wantIs || !equalFeeds(g, want) || !equalSpaces(after, wantDb) {
		t.Errorf("15.3: Got of the %s by the %s and the %s is %v, the %s and the %s, want %v, the %s and the %s",
			tellMsg(m), tellFeed(f), tellSpace(db), is, tellFeed(g), tellSpace(after), wantIs, tellFeed(want), tellSpace(wantDb))
	}
	return is
}

func TestAddExample(t *testing.T) {
	if got := Add(api.Feed{}, effects(0, 5)...).Off; got != 5 {
		t.Errorf("15.1: after 5 effects Off is %d", got)
	}
	if got := Add(api.Feed{}); !equalFeeds(got, api.Feed{}) {
		t.Errorf("15.1: no effects make the empty feed the %s", tellFeed(got))
	}
}

// TestAddWrittenOut also has effects that are all alike, and of which the last ones are Gone.
func TestAddWrittenOut(t *testing.T) {
	a, b, c := put("a", text("1")), gone("a"), put("b", api.Item{Kind: api.KList, L: []string{"x"}, Exp: 7})
	f := api.Feed{Rid: rid(1, 2), Off: 10, Back: []api.Effect{a, b}, Prev: rid(0, 1), Until: 9}
	for _, k := range []struct{ l, want []api.Effect }{
		{nil, []api.Effect{a, b}},
		{[]api.Effect{}, []api.Effect{a, b}},
		{[]api.Effect{c}, []api.Effect{a, b, c}},
		{[]api.Effect{b, b}, []api.Effect{a, b, b, b}},
		{[]api.Effect{c, a, b}, []api.Effect{a, b, c, a, b}},
		{slices.Repeat([]api.Effect{c}, 61), append([]api.Effect{a, b}, slices.Repeat([]api.Effect{c}, 61)...)},
		{slices.Repeat([]api.Effect{c}, 62), append([]api.Effect{a, b}, slices.Repeat([]api.Effect{c}, 62)...)},
		{slices.Repeat([]api.Effect{c}, 63), append([]api.Effect{b}, slices.Repeat([]api.Effect{c}, 63)...)},
		{slices.Repeat([]api.Effect{c}, 64), slices.Repeat([]api.Effect{c}, 64)},
		{append([]api.Effect{a}, slices.Repeat([]api.Effect{b}, 64)...), slices.Repeat([]api.Effect{b}, 64)},
		{append(slices.Repeat([]api.Effect{c}, 200), a), append(slices.Repeat([]api.Effect{c}, 63), a)},
	} {
		got, want := Add(f, k.l...), api.Feed{Rid: rid(1, 2), Off: 10 + len(k.l), Back: k.want, Prev: rid(0, 1), Until: 9}
		if !equalFeeds(got, want) {
			t.Errorf("15.1: Add of %s is the %s, want %s", tellEffects(k.l), tellFeed(got), tellFeed(want))
		}
	}
}

// TestAddToFeedsOfAllLengths has each number of kept effects, with fewer and with more of them than there were.
func TestAddToFeedsOfAllLengths(t *testing.T) {
	for kept := range api.MaxBack + 1 {
		for _, more := range []int{0, 1, 2, 63, 64, 65, 1000, 1<<31 - 1, 1<<53 - 400} {
			f := api.Feed{Rid: rid(3, 4), Off: kept + more, Back: effects(0, kept), Prev: rid(2, 9), Until: (kept + more) / 2}
			for _, n := range []int{0, 1, 2, 15, 16, 17, 31, 62, 63, 64, 65, 66, 127, 128, 129, 200} {
				checkAdd(t, f, effects(kept, kept+n)...)
			}
			checkAdd(t, f, effects(kept, kept+api.MaxBack-kept)...)
			checkAdd(t, f, effects(kept, kept+api.MaxBack-kept+1)...)
		}
	}
}

// TestAddInParts has the same effects one by one, in parts, and all at once.
func TestAddInParts(t *testing.T) {
	all := effects(0, 300)
	begin := api.Feed{Rid: rid(1, 1), Prev: rid(5, 0)}
	for _, part := range []int{1, 2, 3, 16, 50, 63, 64, 65, 100, 299, 300} {
		f := begin
		for at := 0; at < len(all); at += part {
			f = Add(f, all[at:min(at+part, len(all))]...)
		}
		want := api.Feed{Rid: rid(1, 1), Off: 300, Back: all[236:], Prev: rid(5, 0)}
		if !equalFeeds(f, want) {
			t.Errorf("15.1: 300 effects in parts of %d make the %s, want %s", part, tellFeed(f), tellFeed(want))
		}
	}
}

// TestAnswerWrittenOut goes by 100 effects, of which the last 64 are kept, so from the offset 36 on.
func TestAnswerWrittenOut(t *testing.T) {
	own, old := rid(1, 5), rid(2, 3)
	f := known(own, 100, 64)
	f.Prev, f.Until = old, 50
	db := []api.Pair{{Key: "", Item: text("1")}, {Key: "b", Item: api.Item{Kind: api.KSet, L: []string{"x", "y"}, Exp: 3}}}
	all := []api.Effect{put("", text("1")), put("b", api.Item{Kind: api.KSet, L: []string{"x", "y"}, Exp: 3})}
	for _, c := range []struct {
		name string
		rid  api.Rid
		off  int
		full bool
		want []api.Effect
	}{
		{"at Off", own, 100, false, nil},
		{"one behind", own, 99, false, effects(99, 100)},
		{"15 behind", own, 85, false, effects(85, 100)},
		{"16 behind", own, 84, false, effects(84, 100)},
		{"17 behind", own, 83, false, effects(83, 99)},
		{"32 behind", own, 68, false, effects(68, 84)},
		{"one above Until", own, 51, false, effects(51, 67)},
		{"at the first that Back reaches", own, 36, false, effects(36, 52)},
		{"one above that", own, 37, false, effects(37, 53)},
		{"one ahead of that", own, 35, true, all},
		{"at 0", own, 0, true, all},
		{"below 0", own, -1, true, all},
		{"above Off", own, 101, true, all},
		{"far above Off", own, math.MaxInt, true, all},
		{"far below 0", own, math.MinInt, true, all},
		{"Prev at Until", old, 50, false, effects(50, 66)},
		{"Prev one below Until", old, 49, false, effects(49, 65)},
		{"Prev one above Until", old, 51, true, all},
		{"Prev at Off", old, 100, true, all},
		{"Prev at the first that Back reaches", old, 36, false, effects(36, 52)},
		{"Prev one ahead of that", old, 35, true, all},
		{"Prev at 0", old, 0, true, all},
		{"Prev below 0", old, -1, true, all},
		{"another node", rid(2, 5), 90, true, all},
		{"another node at Off", rid(0, 5), 100, true, all},
		{"an epoch less", rid(1, 4), 100, true, all},
		{"an epoch more", rid(1, 6), 100, true, all},
		{"Prev's node, another epoch", rid(2, 4), 40, true, all},
		{"Prev's epoch, another node", rid(3, 3), 40, true, all},
		{"Rid's node, Prev's epoch", rid(1, 3), 40, true, all},
		{"zero", rid(0, 0), 40, true, all},
		{"zero at 0", rid(0, 0), 0, true, all},
	} {
		want := api.Msg{Kind: api.GFeed, Rid: own, Prev: c.rid, Off: c.off, Effects: c.want}
		if c.full {
			want = api.Msg{Kind: api.GFull, Rid: own, Off: 100, Effects: c.want}
		}
		if got := Answer(f, db, c.rid, c.off); !equalMsgs(got, want) {
			t.Errorf("15.2: Answer, %s, is the %s, want %s", c.name, tellMsg(got), tellMsg(want))
		}
	}
}

// TestAnswerOfTheEmptyFeed has Prev and Until zero, so the zero history is answered as the history before.
func TestAnswerOfTheEmptyFeed(t *testing.T) {
	db := []api.Pair{{Key: "a", Item: text("1")}}
	for _, f := range []api.Feed{{}, {Rid: rid(1, 0)}, {Rid: rid(0, 1)}} {
		for _, r := range []api.Rid{f.Rid, {}} {
			want := api.Msg{Kind: api.GFeed, Rid: f.Rid, Prev: r}
			if got := Answer(f, db, r, 0); !equalMsgs(got, want) {
				t.Errorf("15.2: Answer for %s at 0 of the %s is the %s", tellRid(r), tellFeed(f), tellMsg(got))
			}
		}
		for _, off := range []int{-1, 1} {
			want := api.Msg{Kind: api.GFull, Rid: f.Rid, Effects: []api.Effect{put("a", text("1"))}}
			if got := Answer(f, db, f.Rid, off); !equalMsgs(got, want) {
				t.Errorf("15.2: Answer at %d of the %s is the %s", off, tellFeed(f), tellMsg(got))
			}
		}
		want := api.Msg{Kind: api.GFull, Rid: f.Rid}
		if got := Answer(f, nil, rid(7, 7), 0); !equalMsgs(got, want) {
			t.Errorf("15.2: Answer of the %s without keys is the %s", tellFeed(f), tellMsg(got))
		}
	}
}

// feeds are valid ones of all kinds.
func feeds() []api.Feed {
	own, old := rid(1, 5), rid(2, 3)
	var l []api.Feed
	for _, size := range [][2]int{{0, 0}, {1, 1}, {1, 0}, {5, 5}, {16, 16}, {17, 17}, {64, 64}, {65, 64}, {70, 64}, {70, 3}, {200, 20}, {1<<53 - 300, 40}} {
		off, kept := size[0], size[1]
		for _, until := range []int{0, 1, off - kept - 1, off - kept, off - kept + 1, off - 7, off - 1, off} {
			if until < 0 || until > off {
				continue
			}
			for _, prev := range []api.Rid{old, own, {}, rid(1, 4), rid(7, 5)} {
				l = append(l, api.Feed{Rid: own, Off: off, Back: effects(200, 200+kept), Prev: prev, Until: until})
			}
		}
	}
	return append(l, api.Feed{}, api.Feed{Back: effects(0, 3), Off: 3, Until: 2}, api.Feed{Rid: old, Back: effects(0, 3), Off: 3, Prev: own, Until: 2})
}

// spaces are without keys, with one, with many, with items of all Kinds and with such as are alive at no time any more.
func spaces() [][]api.Pair {
	var many []api.Pair
	for i := range 300 {
		many = append(many, api.Pair{Key: "k" + strconv.Itoa(1000+i), Item: api.Item{Kind: api.KText, S: strconv.Itoa(i), Exp: i % 3}})
	}
	return [][]api.Pair{nil, {}, {{Key: "", Item: api.Item{Kind: api.KText, Exp: 1}}}, applied(nil, effects(0, 40)), many}
}

// offsets are all that matter for the feed, and those beside them.
func offsets(f api.Feed) []int {
	l := []int{math.MinInt, -1 << 53, -64, -1, 0, 1, 16, 64, 1 << 53, math.MaxInt}
	for _, at := range []int{f.Off - len(f.Back), f.Until, f.Off - 16, f.Off - 8, f.Off - 64, f.Off} {
		l = append(l, at-1, at, at+1)
	}
	slices.Sort(l)
	return slices.Compact(l)
}

func rids(f api.Feed) []api.Rid {
	r, p := f.Rid, f.Prev
	l := []api.Rid{r, p, {}, rid(r.Node, r.Epoch+1), rid(r.Node, r.Epoch-1), rid(r.Node+1, r.Epoch), rid(r.Node-1, r.Epoch+1), rid(r.Node+1, r.Epoch-1),
		rid(p.Node, p.Epoch+1), rid(p.Node+1, p.Epoch), rid(r.Node, p.Epoch), rid(p.Node, r.Epoch), rid(r.Epoch, r.Node), rid(-1, -1), rid(math.MaxInt, math.MinInt)}
	return l
}

func TestAnswerOfAllKinds(t *testing.T) {
	for i, f := range feeds() {
		db := spaces()[i%4]
		for _, r := range rids(f) {
			for _, off := range offsets(f) {
				checkAnswer(t, f, db, r, off)
			}
		}
	}
}

func TestAnswerAtEachOffset(t *testing.T) {
	for _, off := range []int{0, 1, 15, 16, 17, 63, 64, 65, 100} {
		for _, kept := range []int{0, 1, 16, 33, 64} {
			if kept > off {
				continue
			}
			f := known(rid(1, 5), off, kept)
			f.Prev, f.Until = rid(2, 3), off*2/3
			for at := -3; at <= off+3; at++ {
				for _, r := range []api.Rid{f.Rid, f.Prev, {}} {
					checkAnswer(t, f, nil, r, at)
				}
			}
		}
	}
}

// TestAnswerInFull also has keys that are no longer alive, and none of what is kept.
func TestAnswerInFull(t *testing.T) {
	for _, db := range spaces() {
		for _, f := range []api.Feed{{Rid: rid(1, 1)}, known(rid(1, 1), 100, 64), known(rid(1, 1), 1<<53, 10)} {
			checkAnswer(t, f, db, rid(4, 4), 90)
			m := Answer(f, db, rid(4, 4), 90)
			if m.Kind != api.GFull || m.Off != f.Off || !space.Same(space.Apply(nil, m.Effects...), db) {
				t.Errorf("15.2: the GFull for the %s is the %s", tellSpace(db), tellMsg(m))
			}
		}
	}
}

// TestGotWrittenOut goes by a replica with 5 effects of node 1 since epoch 4.
func TestGotWrittenOut(t *testing.T) {
	own, prev, other := rid(1, 4), rid(3, 2), rid(2, 6)
	f := api.Feed{Rid: own, Off: 5, Back: []api.Effect{put("a", text("0")), put("b", text("1"))}, Prev: prev, Until: 2}
	db := []api.Pair{{Key: "a", Item: text("0")}, {Key: "b", Item: text("1")}}
	l := []api.Effect{gone("a"), put("c", text("2")), put("b", text("3"))}
	after := []api.Pair{{Key: "b", Item: text("3")}, {Key: "c", Item: text("2")}}
	fed := slices.Concat(f.Back, l)
	for _, c := range []struct {
		name string
		m    api.Msg
		is   bool
		feed api.Feed
		db   []api.Pair
	}{
		{"feed", api.Msg{Kind: api.GFeed, Rid: own, Prev: own, Off: 5, Effects: l}, true, api.Feed{Rid: own, Off: 8, Back: fed, Prev: prev, Until: 2}, after},
		{"feed without effects", api.Msg{Kind: api.GFeed, Rid: own, Prev: own, Off: 5}, true, f, db},
		{"feed of another history", api.Msg{Kind: api.GFeed, Rid: other, Prev: own, Off: 5, Effects: l}, true, api.Feed{Rid: other, Off: 8, Back: fed, Prev: own, Until: 5}, after},
		{"feed of another history without effects", api.Msg{Kind: api.GFeed, Rid: other, Prev: own, Off: 5}, true, api.Feed{Rid: other, Off: 5, Back: f.Back, Prev: own, Until: 5}, db},
		{"feed of the same node's next epoch", api.Msg{Kind: api.GFeed, Rid: rid(1, 5), Prev: own, Off: 5, Effects: l}, true, api.Feed{Rid: rid(1, 5), Off: 8, Back: fed, Prev: own, Until: 5}, after},
		{"feed of an epoch before", api.Msg{Kind: api.GFeed, Rid: rid(1, 3), Prev: own, Off: 5, Effects: l}, true, api.Feed{Rid: rid(1, 3), Off: 8, Back: fed, Prev: own, Until: 5}, after},
		{"feed of the history before", api.Msg{Kind: api.GFeed, Rid: prev, Prev: own, Off: 5}, true, api.Feed{Rid: prev, Off: 5, Back: f.Back, Prev: own, Until: 5}, db},
		{"feed, Off one less", api.Msg{Kind: api.GFeed, Rid: own, Prev: own, Off: 4, Effects: l}, false, f, db},
		{"feed, Off one more", api.Msg{Kind: api.GFeed, Rid: own, Prev: own, Off: 6, Effects: l}, false, f, db},
		{"feed for another history", api.Msg{Kind: api.GFeed, Rid: own, Prev: other, Off: 5, Effects: l}, false, f, db},
		{"feed for the history before", api.Msg{Kind: api.GFeed, Rid: own, Prev: prev, Off: 5, Effects: l}, false, f, db},
		{"feed for the history before at Until", api.Msg{Kind: api.GFeed, Rid: own, Prev: prev, Off: 2, Effects: l}, false, f, db},
		{"feed for another node", api.Msg{Kind: api.GFeed, Rid: own, Prev: rid(2, 4), Off: 5, Effects: l}, false, f, db},
		{"feed for another epoch", api.Msg{Kind: api.GFeed, Rid: own, Prev: rid(1, 5), Off: 5, Effects: l}, false, f, db},
		{"feed of another history for another one", api.Msg{Kind: api.GFeed, Rid: other, Prev: other, Off: 5, Effects: l}, false, f, db},
		{"full of another node, more", api.Msg{Kind: api.GFull, Rid: other, Off: 9, Effects: l}, true, api.Feed{Rid: other, Off: 9}, after},
		{"full of another node, as much", api.Msg{Kind: api.GFull, Rid: other, Off: 5, Effects: l}, true, api.Feed{Rid: other, Off: 5}, after},
		{"full of another node, less", api.Msg{Kind: api.GFull, Rid: other, Off: 1, Effects: l[1:2]}, true, api.Feed{Rid: other, Off: 1}, after[1:]},
		{"full of another node, nothing", api.Msg{Kind: api.GFull, Rid: other}, true, api.Feed{Rid: other}, nil},
		{"full of another node, an epoch before", api.Msg{Kind: api.GFull, Rid: rid(0, 1), Off: 2, Effects: l}, true, api.Feed{Rid: rid(0, 1), Off: 2}, after},
		{"full of another node, the same epoch", api.Msg{Kind: api.GFull, Rid: rid(2, 4), Off: 2, Effects: l}, true, api.Feed{Rid: rid(2, 4), Off: 2}, after},
		{"full of the history before", api.Msg{Kind: api.GFull, Rid: prev, Off: 2, Effects: l}, true, api.Feed{Rid: prev, Off: 2}, after},
		{"full of the next epoch, more", api.Msg{Kind: api.GFull, Rid: rid(1, 5), Off: 6, Effects: l}, true, api.Feed{Rid: rid(1, 5), Off: 6}, after},
		{"full of the next epoch, as much", api.Msg{Kind: api.GFull, Rid: rid(1, 5), Off: 5, Effects: l}, true, api.Feed{Rid: rid(1, 5), Off: 5}, after},
		{"full of a later epoch, nothing", api.Msg{Kind: api.GFull, Rid: rid(1, 99)}, true, api.Feed{Rid: rid(1, 99)}, nil},
		{"full of the epoch before, more", api.Msg{Kind: api.GFull, Rid: rid(1, 3), Off: 9, Effects: l}, false, f, db},
		{"full of an epoch before, as much", api.Msg{Kind: api.GFull, Rid: rid(1, 0), Off: 5, Effects: l}, false, f, db},
		{"full, one more", api.Msg{Kind: api.GFull, Rid: own, Off: 6, Effects: l}, true, api.Feed{Rid: own, Off: 6}, after},
		{"full, far more, no keys", api.Msg{Kind: api.GFull, Rid: own, Off: 1 << 53}, true, api.Feed{Rid: own, Off: 1 << 53}, nil},
		{"full, as much", api.Msg{Kind: api.GFull, Rid: own, Off: 5, Effects: l}, false, f, db},
		{"full, one less", api.Msg{Kind: api.GFull, Rid: own, Off: 4, Effects: l}, false, f, db},
		{"full, nothing", api.Msg{Kind: api.GFull, Rid: own}, false, f, db},
		{"full, whatever Prev is", api.Msg{Kind: api.GFull, Rid: own, Prev: own, Off: 5, Effects: l}, false, f, db},
		{"no message", api.Msg{}, false, f, db},
		{"ping", api.Msg{Kind: api.GPing, Rid: own, Prev: own, Off: 5, Effects: l}, false, f, db},
		{"move", api.Msg{Kind: api.GMove, Rid: own, Prev: own, Off: 5, Effects: l}, false, f, db},
		{"ack", api.Msg{Kind: api.GAck, Rid: other, Prev: own, Off: 5, Effects: l}, false, f, db},
		{"want", api.Msg{Kind: api.GWant, Rid: own, Prev: own, Off: 5, Effects: l}, false, f, db},
		{"ask", api.Msg{Kind: api.GAsk, Rid: other, Off: 9, Effects: l}, false, f, db},
		{"vote", api.Msg{Kind: api.GVote, Rid: other, Off: 9, Effects: l}, false, f, db},
	} {
		g, x, is := Got(f, db, c.m)
		if is != c.is || !equalFeeds(g, c.feed) || !equalSpaces(x, c.db) {
			t.Errorf("15.3: %s: %v, the %s and the %s, want %v, the %s and the %s", c.name, is, tellFeed(g), tellSpace(x), c.is, tellFeed(c.feed), tellSpace(c.db))
		}
	}
}

// noisy is the message with something in each field of which no case speaks.
func noisy(m api.Msg, n int) api.Msg {
	m.From, m.To, m.Epoch, m.Node, m.Slot, m.Num = n%8, (n+1)%8, n%11, n%9, n%16384, n
	m.Claims, m.Nodes = []api.Claim{{From: n, To: n + 1, Node: 1, Epoch: 1}}, []int{n, n}
	return m
}

func TestGotOfAllKinds(t *testing.T) {
	lists := [][]api.Effect{nil, effects(50, 51), effects(60, 76), {put("a", text("1")), gone("a"), put("a", text("2")), gone("nix")}}
	dbs := spaces()[:4]
	n, taken := 0, 0
	for i, f := range feeds() {
		if i%5 > 0 && i < 400 {
			continue
		}
		for kind := -1; kind <= 9; kind++ {
			for _, r := range rids(f) {
				for _, prev := range rids(f)[:7] {
					for _, off := range []int{f.Off, f.Off - 1, f.Off + 1, f.Until} {
						n++
						if kind != api.GFeed && kind != api.GFull && n%20 > 0 {
							continue
						}
						m := noisy(api.Msg{Kind: kind, Rid: r, Prev: prev, Off: off, Effects: lists[n/3%len(lists)]}, n)
						if checkGot(t, f, dbs[n/7%len(dbs)], m) {
							taken++
						}
					}
				}
			}
		}
	}
	if taken < 1000 {
		t.Errorf("only %d of %d messages were taken", taken, n)
	}
}

// TestGotOfManyEffects has as many as a message has, as fill what is kept, and more.
func TestGotOfManyEffects(t *testing.T) {
	for _, kept := range []int{0, 1, 40, 63, 64} {
		f := known(rid(1, 5), 70, kept)
		db := applied(nil, effects(0, 70))
		for _, n := range []int{0, 1, 15, 16, 17, 23, 24, 25, 63, 64, 65, 200} {
			for _, r := range []api.Rid{f.Rid, rid(2, 9)} {
				if !checkGot(t, f, db, api.Msg{Kind: api.GFeed, Rid: r, Prev: f.Rid, Off: 70, Effects: effects(70, 70+n)}) {
					t.Errorf("15.3: a GFeed of %d effects is not taken", n)
				}
				if !checkGot(t, f, db, api.Msg{Kind: api.GFull, Rid: r, Off: 71, Effects: effects(70, 70+n)}) {
					t.Errorf("15.3: a GFull of %d effects is not taken", n)
				}
			}
		}
	}
}

// turnedItems are the item with a change in one place each.
func turnedItems(i api.Item) []api.Item {
	var l []api.Item
	add := func(turn func(j *api.Item)) {
		j := i
		j.F, j.L = slices.Clone(i.F), slices.Clone(i.L)
		turn(&j)
		l = append(l, j)
	}
	add(func(j *api.Item) { j.Kind++ })
	add(func(j *api.Item) { j.Kind = -j.Kind - 1 })
	add(func(j *api.Item) { j.S += "x" })
	add(func(j *api.Item) { j.S = "\x00" + j.S })
	add(func(j *api.Item) { j.Exp++ })
	add(func(j *api.Item) { j.Exp += 1 << 32 })
	add(func(j *api.Item) { j.F = append(j.F, api.Field{}) })
	add(func(j *api.Item) { j.L = append(j.L, "") })
	for n := range i.F {
		add(func(j *api.Item) { j.F[n].Name += "x" })
		add(func(j *api.Item) { j.F[n].Val += "x" })
		add(func(j *api.Item) { j.F = slices.Delete(j.F, n, n+1) })
	}
	for n := range i.L {
		add(func(j *api.Item) { j.L[n] += "x" })
		add(func(j *api.Item) { j.L = slices.Delete(j.L, n, n+1) })
	}
	return l
}

// turned are the feed with a change in one place each.
func turned(f api.Feed) []api.Feed {
	var l []api.Feed
	add := func(turn func(g *api.Feed)) {
		g := f
		g.Back = slices.Clone(f.Back)
		turn(&g)
		l = append(l, g)
	}
	for _, by := range []int{-1, 1, 64, 1 << 32} {
		add(func(g *api.Feed) { g.Rid.Node += by })
		add(func(g *api.Feed) { g.Rid.Epoch += by })
		add(func(g *api.Feed) { g.Off += by })
		add(func(g *api.Feed) { g.Prev.Node += by })
		add(func(g *api.Feed) { g.Prev.Epoch += by })
		add(func(g *api.Feed) { g.Until += by })
	}
	add(func(g *api.Feed) { g.Back = append(g.Back, api.Effect{}) })
	add(func(g *api.Feed) { g.Back = append(g.Back, nth(3)) })
	add(func(g *api.Feed) { g.Back = append([]api.Effect{nth(4)}, g.Back...) })
	for n, e := range f.Back {
		add(func(g *api.Feed) { g.Back = slices.Delete(g.Back, n, n+1) })
		add(func(g *api.Feed) { g.Back[n].Key += "x" })
		add(func(g *api.Feed) { g.Back[n].Gone = !e.Gone })
		for _, i := range turnedItems(e.Item) {
			add(func(g *api.Feed) { g.Back[n].Item = i })
		}
		if n > 0 {
			add(func(g *api.Feed) { g.Back[n], g.Back[n-1] = g.Back[n-1], g.Back[n] })
		}
	}
	return l
}

func checkSame(t *testing.T, a, b api.Feed, want bool) {
	t.Helper()
	if Same(a, b) != want || Same(b, a) != want {
		t.Errorf("15: Same is not %v of the %s and the %s", want, tellFeed(a), tellFeed(b))
	}
}

func TestSameOfTurnedFeeds(t *testing.T) {
	for _, f := range []api.Feed{{}, known(rid(1, 2), 1, 1), known(rid(0, 0), 30, 8), known(rid(7, 1<<52), 1<<53, 64),
		{Rid: rid(1, 2), Off: 3, Prev: rid(1, 2), Until: 3}, {Rid: rid(3, 4), Off: 2, Back: []api.Effect{gone(""), put("", text(""))}, Prev: rid(5, 6), Until: 1},
		// Not a valid feed, but one of which Same tells all the same.
		{Rid: rid(-1, -1), Off: -5, Back: effects(0, 80), Prev: rid(-1, 0), Until: 99}} {
		checkSame(t, f, f, true)
		checkSame(t, f, againFeed(f), true)
		for _, g := range turned(f) {
			checkSame(t, f, g, false)
		}
	}
}

func TestSameOfAllOfSome(t *testing.T) {
	all := feeds()
	for i := 0; i < len(all); i += 3 {
		for j := 1; j < len(all); j += 7 {
			checkSame(t, all[i], all[j], equalFeeds(all[i], all[j]))
		}
	}
}

// TestSameOfNilAndEmpty by DOC.md's R3.
func TestSameOfNilAndEmpty(t *testing.T) {
	var spare [4]api.Effect
	checkSame(t, api.Feed{}, api.Feed{Back: []api.Effect{}}, true)
	checkSame(t, api.Feed{}, api.Feed{Back: spare[:0]}, true)
	bare := put("a", text("1"))
	empty := put("a", api.Item{Kind: api.KText, S: "1", F: []api.Field{}, L: []string{}})
	checkSame(t, api.Feed{Off: 1, Back: []api.Effect{bare}}, api.Feed{Off: 1, Back: []api.Effect{empty}}, true)
}

func TestSameOfAddWithoutEffects(t *testing.T) {
	for _, f := range feeds() {
		checkSame(t, f, Add(f), true)
		checkSame(t, f, Add(f, nth(1)), false)
	}
}
