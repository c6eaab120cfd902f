package feed

import (
	"maps"
	"slices"
	"strconv"
	"strings"

	"caravan/api"
)

func rid(node, epoch int) api.Rid { return api.Rid{Node: node, Epoch: epoch} }

func text(s string) api.Item { return api.Item{Kind: api.KText, S: s} }

func put(key string, i api.Item) api.Effect { return api.Effect{Key: key, Item: i} }

func gone(key string) api.Effect { return api.Effect{Key: key, Gone: true} }

// keyNames are what keys the effects are on, the empty one and the longest among them.
func keyNames() []string {
	return []string{"a", "", "b", "{a}1", strings.Repeat("k", 40), "\xff\x00", "c", "a\x00", "é", "0", "zz"}
}

// nth is an effect that is like no other: an item of any Kind, with and without an end of life, or none, also one beside Gone.
func nth(n int) api.Effect {
	names := keyNames()
	key, s := names[n%len(names)], "v"+strconv.Itoa(n)
	switch n % 8 {
	case 0, 1:
		return put(key, text(s))
	case 2:
		return put(key, api.Item{Kind: api.KHash, F: []api.Field{{Name: "", Val: s}, {Name: s, Val: ""}}})
	case 3:
		return put(key, api.Item{Kind: api.KList, L: []string{s, "x", s}, Exp: n})
	case 4:
		return put(key, api.Item{Kind: api.KSet, L: []string{"", s}})
	case 5:
		return gone(key)
	case 6:
		// The Item beside Gone may be any.
		return api.Effect{Key: key, Gone: true, Item: api.Item{Kind: -n, S: s, F: []api.Field{{Name: s}}, L: []string{s}, Exp: -1}}
	}
	return put(key, api.Item{Kind: api.KText, S: strings.Repeat("x", 290) + s, Exp: 1 << 53})
}

// effects are those from one number up to ahead of another one.
func effects(from, to int) []api.Effect {
	var l []api.Effect
	for n := from; n < to; n++ {
		l = append(l, nth(n))
	}
	return l
}

// known is the feed with so many effects kept of those there were.
func known(r api.Rid, off, kept int) api.Feed {
	return api.Feed{Rid: r, Off: off, Back: effects(off-kept, off)}
}

// applied is the space after the effects, one by one, on a dictionary.
func applied(db []api.Pair, l []api.Effect) []api.Pair {
	m := map[string]api.Item{}
	for _, p := range db {
		m[p.Key] = p.Item
	}
	for _, e := range l {
		delete(m, e.Key)
		if !e.Gone {
			m[e.Key] = e.Item
		}
	}
	var after []api.Pair
	for _, key := range slices.Sorted(maps.Keys(m)) {
		after = append(after, api.Pair{Key: key, Item: m[key]})
	}
	return after
}

// added is what Add is to answer: one effect comes after the other, and the first one goes as soon as there are more than 64.
func added(f api.Feed, l []api.Effect) api.Feed {
	f.Back = slices.Clone(f.Back)
	for _, e := range l {
		f.Back = append(f.Back, e)
		if len(f.Back) > 64 {
			f.Back = f.Back[1:]
		}
		f.Off++
	}
	return f
}

// answered is what Answer is to say: each kept effect is looked for by how many there were ahead of it.
func answered(f api.Feed, db []api.Pair, r api.Rid, off int) api.Msg {
	at := map[int]api.Effect{}
	for i := range f.Back {
		at[f.Off-1-i] = f.Back[len(f.Back)-1-i]
	}
	has := r == f.Rid
	if r == f.Prev && off <= f.Until {
		has = true
	}
	_, reached := at[off]
	if has && (reached || off == f.Off) {
		m := api.Msg{Kind: 5, Rid: f.Rid, Prev: r, Off: off}
		for range 16 {
			if e, is := at[off+len(m.Effects)]; is {
				m.Effects = append(m.Effects, e)
			}
		}
		return m
	}
	m := api.Msg{Kind: 6, Rid: f.Rid, Off: f.Off}
	for _, p := range db {
		m.Effects = append(m.Effects, put(p.Key, p.Item))
	}
	return m
}

// gotten is what Got is to answer: the cases as the chapter has them.
func gotten(f api.Feed, db []api.Pair, m api.Msg) (api.Feed, []api.Pair, bool) {
	if m.Kind == 5 && m.Prev == f.Rid && m.Off == f.Off {
		g := added(f, m.Effects)
		if m.Rid != f.Rid {
			g.Prev = f.Rid
			g.Until = f.Off
			g.Rid = m.Rid
		}
		return g, applied(db, m.Effects), true
	}
	if m.Kind == 6 {
		other := m.Rid.Node != f.Rid.Node
		newer := m.Rid.Node == f.Rid.Node && m.Rid.Epoch > f.Rid.Epoch
		longer := m.Rid == f.Rid && m.Off > f.Off
		if other || newer || longer {
			return api.Feed{Rid: m.Rid, Off: m.Off}, applied(nil, m.Effects), true
		}
	}
	return f, db, false
}

func equalItems(a, b api.Item) bool {
	return a.Kind == b.Kind && a.S == b.S && slices.Equal(a.F, b.F) && slices.Equal(a.L, b.L) && a.Exp == b.Exp
}

func equalSpaces(a, b []api.Pair) bool {
	return slices.EqualFunc(a, b, func(p, q api.Pair) bool { return p.Key == q.Key && equalItems(p.Item, q.Item) })
}

func equalEffects(a, b []api.Effect) bool {
	return slices.EqualFunc(a, b, func(d, e api.Effect) bool {
		return d.Key == e.Key && d.Gone == e.Gone && equalItems(d.Item, e.Item)
	})
}

func equalFeeds(a, b api.Feed) bool {
	return a.Rid == b.Rid && a.Off == b.Off && equalEffects(a.Back, b.Back) && a.Prev == b.Prev && a.Until == b.Until
}

func equalMsgs(a, b api.Msg) bool {
	return a.Kind == b.Kind && a.From == b.From && a.To == b.To && a.Epoch == b.Epoch && slices.Equal(a.Claims, b.Claims) && slices.Equal(a.Nodes, b.Nodes) &&
		a.Node == b.Node && a.Slot == b.Slot && a.Num == b.Num && a.Rid == b.Rid && a.Prev == b.Prev && a.Off == b.Off && equalEffects(a.Effects, b.Effects)
}

// short is an effect for what a test tells.
func short(e api.Effect) string {
	s := strconv.Quote(e.Key) + ":"
	if e.Gone {
		s += "gone,"
	}
	s += strconv.Itoa(e.Item.Kind) + "," + strconv.Quote(e.Item.S[max(0, len(e.Item.S)-6):])
	return s + "," + strconv.Itoa(len(e.Item.F)) + "," + strconv.Itoa(len(e.Item.L)) + "," + strconv.Itoa(e.Item.Exp)
}

func tellEffects(l []api.Effect) string {
	s := strconv.Itoa(len(l)) + " effects"
	for i, e := range l {
		if i < 2 || i > len(l)-2 {
			s += " " + short(e)
		}
	}
	return s
}

func tellRid(r api.Rid) string {
	return "(" + strconv.Itoa(r.Node) + " since " + strconv.Itoa(r.Epoch) + ")"
}

func tellFeed(f api.Feed) string {
	return "feed of " + tellRid(f.Rid) + " at " + strconv.Itoa(f.Off) + ", ahead of it " + tellRid(f.Prev) + " up to " + strconv.Itoa(f.Until) + ", " + tellEffects(f.Back)
}

func tellMsg(m api.Msg) string {
	s := "message " + strconv.Itoa(m.Kind) + " of " + tellRid(m.Rid) + ", " + tellRid(m.Prev) + " at " + strconv.Itoa(m.Off) + ", " + tellEffects(m.Effects)
	for _, n := range []int{m.From, m.To, m.Epoch, len(m.Claims), len(m.Nodes), m.Node, m.Slot, m.Num} {
		s += ", " + strconv.Itoa(n)
	}
	return s
}

func tellSpace(db []api.Pair) string {
	var l []api.Effect
	for _, p := range db {
		l = append(l, put(p.Key, p.Item))
	}
	return "space of " + tellEffects(l)
}
