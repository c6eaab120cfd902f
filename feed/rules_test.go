package feed

import (
	"math"
	"runtime"
	"slices"
	"strconv"
	"strings"
	"testing"
	"unsafe"

	"caravan/api"
)

// againItem, againEffects, againFeed and againSpace are equal in memory of their own, with spare capacity.
func againItem(i api.Item) api.Item {
	i.F = append(make([]api.Field, 0, len(i.F)+2), i.F...)
	i.L = append(make([]string, 0, len(i.L)+2), i.L...)
	return i
}

func againEffects(l []api.Effect) []api.Effect {
	same := make([]api.Effect, 0, len(l)+3)
	for _, e := range l {
		e.Item = againItem(e.Item)
		same = append(same, e)
	}
	return same
}

func againFeed(f api.Feed) api.Feed {
	f.Back = againEffects(f.Back)
	return f
}

func againSpace(db []api.Pair) []api.Pair {
	same := make([]api.Pair, 0, len(db)+3)
	for _, p := range db {
		same = append(same, api.Pair{Key: p.Key, Item: againItem(p.Item)})
	}
	return same
}

func openedItem(i api.Item) api.Item {
	i.F, i.L = slices.Clone(i.F[:cap(i.F)]), slices.Clone(i.L[:cap(i.L)])
	return i
}

// opened is the effects as they are now, all spare capacity as a part of them.
func opened(l []api.Effect) []api.Effect {
	var all []api.Effect
	for _, e := range l[:cap(l)] {
		e.Item = openedItem(e.Item)
		all = append(all, e)
	}
	return all
}

func openedSpace(db []api.Pair) []api.Pair {
	var all []api.Pair
	for _, p := range db[:cap(db)] {
		all = append(all, api.Pair{Key: p.Key, Item: openedItem(p.Item)})
	}
	return all
}

func spoilItem(i api.Item) {
	for n := range i.F[:cap(i.F)] {
		i.F[:cap(i.F)][n] = api.Field{Name: "spoilt", Val: "spoilt"}
	}
	for n := range i.L[:cap(i.L)] {
		i.L[:cap(i.L)][n] = "spoilt"
	}
}

// spoil writes into all that can be written into, the spare capacity too.
func spoil(l []api.Effect) {
	for n, e := range l[:cap(l)] {
		spoilItem(e.Item)
		l[:cap(l)][n] = put("spoilt", text("spoilt"))
	}
}

func spoilSpace(db []api.Pair) {
	for n, p := range db[:cap(db)] {
		spoilItem(p.Item)
		db[:cap(db)][n] = api.Pair{Key: "spoilt", Item: text("spoilt")}
	}
}

// given is what the calls are given, all at once.
type given struct {
	f, g api.Feed
	db   []api.Pair
	l    []api.Effect
	rid  api.Rid
	off  int
	m    api.Msg
}

func (a given) again() given {
	a.f, a.g, a.db, a.l, a.m.Effects = againFeed(a.f), againFeed(a.g), againSpace(a.db), againEffects(a.l), againEffects(a.m.Effects)
	return a
}

// opened is the arguments with their spare capacity as a part of them.
func (a given) opened() given {
	a.f.Back, a.g.Back, a.db, a.l, a.m.Effects = opened(a.f.Back), opened(a.g.Back), openedSpace(a.db), opened(a.l), opened(a.m.Effects)
	return a
}

func (a given) equal(b given) bool {
	return equalFeeds(a.f, b.f) && equalFeeds(a.g, b.g) && equalSpaces(a.db, b.db) && equalEffects(a.l, b.l) && equalMsgs(a.m, b.m)
}

func (a given) spoil() {
	spoil(a.f.Back)
	spoil(a.g.Back)
	spoilSpace(a.db)
	spoil(a.l)
	spoil(a.m.Effects)
}

func (a given) tell() string {
	return tellFeed(a.f) + ", " + tellSpace(a.db) + ", " + tellEffects(a.l) + ", " + tellRid(a.rid) + " at " + strconv.Itoa(a.off) + ", " + tellMsg(a.m)
}

// answers is what the calls answer.
type answers struct {
	added, got api.Feed
	m          api.Msg
	after      []api.Pair
	is, same   bool
}

func ask(a given) answers {
	b := answers{added: Add(a.f, a.l...), m: Answer(a.f, a.db, a.rid, a.off), same: Same(a.f, a.g)}
	b.got, b.after, b.is = Got(a.f, a.db, a.m)
	return b
}

func (b answers) equal(c answers) bool {
	return equalFeeds(b.added, c.added) && equalFeeds(b.got, c.got) && equalMsgs(b.m, c.m) && equalSpaces(b.after, c.after) && b.is == c.is && b.same == c.same
}

func (b answers) spoil() {
	spoil(b.added.Back)
	spoil(b.got.Back)
	spoil(b.m.Effects)
	spoilSpace(b.after)
}

// givings lead to all cases of all calls.
func givings() []given {
	var all []given
	for i, f := range []api.Feed{{}, known(rid(1, 5), 3, 3), known(rid(1, 5), 30, 20), known(rid(1, 5), 70, 64)} {
		f.Prev, f.Until = rid(2, 3), f.Off/2
		others := turned(f)
		for j, l := range [][]api.Effect{nil, effects(100, 101), effects(100, 116), effects(100, 170)} {
			db := spaces()[(i+j)%5]
			for _, m := range []api.Msg{
				{Kind: api.GFeed, Rid: f.Rid, Prev: f.Rid, Off: f.Off}, {Kind: api.GFeed, Rid: rid(3, 3), Prev: f.Rid, Off: f.Off}, {Kind: api.GFeed, Rid: f.Rid, Prev: f.Rid, Off: f.Off + 1},
				{Kind: api.GFull, Rid: rid(3, 3), Off: 1}, {Kind: api.GFull, Rid: f.Rid, Off: f.Off}, {Kind: api.GMove, Rid: f.Rid, Prev: f.Rid, Off: f.Off},
			} {
				m.Effects = l
				for _, off := range []int{f.Off, f.Off - 3, f.Off / 2, -1} {
					g := others[(i*7+j)%len(others)]
					all = append(all, given{f, f, db, l, f.Rid, off, m}, given{f, g, db, l, f.Prev, off, m})
				}
			}
		}
	}
	return all
}

func TestArgumentsStayAndAnswersAreNewMemory(t *testing.T) {
	for _, a := range givings() {
		own := a.again()
		before := own.opened()
		want := ask(a.again())
		first, second := ask(own), ask(own)
		if !first.equal(want) || !second.equal(want) {
			t.Fatalf("R1: the same calls answer otherwise: %s", a.tell())
		}
		if !own.opened().equal(before) {
			t.Fatalf("R3: a call changes its arguments: %s", a.tell())
		}
		first.spoil()
		if !own.opened().equal(before) {
			t.Fatalf("R3: writing into answers changes arguments: %s", a.tell())
		}
		if !second.equal(want) || !ask(own).equal(want) {
			t.Fatalf("R3: writing into answers changes other answers: %s", a.tell())
		}
		own.spoil()
		if !second.equal(want) {
			t.Fatalf("R3: writing into arguments changes answers: %s", a.tell())
		}
	}
}

// place is memory from one address up to another.
type place struct{ from, to uintptr }

func placeOf[T any](l []T) place {
	var one T
	from := uintptr(unsafe.Pointer(unsafe.SliceData(l)))
	return place{from: from, to: from + uintptr(cap(l))*unsafe.Sizeof(one)}
}

func places(l []api.Effect) []place {
	all := []place{placeOf(l)}
	for _, e := range l[:cap(l)] {
		all = append(all, placeOf(e.Item.F), placeOf(e.Item.L))
	}
	return all
}

func placesOfSpace(db []api.Pair) []place {
	all := []place{placeOf(db)}
	for _, p := range db[:cap(db)] {
		all = append(all, placeOf(p.Item.F), placeOf(p.Item.L))
	}
	return all
}

// overlap is whether any two of the places do; those that are empty don't.
func overlap(l []place) bool {
	l = slices.DeleteFunc(slices.Clone(l), func(p place) bool { return p.from == p.to })
	slices.SortFunc(l, func(a, b place) int { return int(a.from) - int(b.from) })
	for i := 1; i < len(l); i++ {
		if l[i].from < l[i-1].to {
			return true
		}
	}
	return false
}

// TestListsOfTheirOwn has effects that share their lists, in the feed, in the space and in the message.
func TestListsOfTheirOwn(t *testing.T) {
	list := append(make([]string, 0, 9), "a", "b")
	field := append(make([]api.Field, 0, 9), api.Field{Name: "a"})
	i, h := api.Item{Kind: api.KList, L: list}, api.Item{Kind: api.KHash, F: field}
	shared := []api.Effect{put("a", i), put("b", h), put("c", i), put("d", h), {Key: "e", Gone: true, Item: i}, put("a", h), put("b", i)}
	db := []api.Pair{{Key: "a", Item: h}, {Key: "b", Item: h}, {Key: "y", Item: i}, {Key: "z", Item: i}}
	f := api.Feed{Rid: rid(1, 1), Off: 7, Back: shared}
	all := givings()
	for _, m := range []api.Msg{{Kind: api.GFeed, Rid: rid(2, 2), Prev: rid(1, 1), Off: 7}, {Kind: api.GFull, Rid: rid(2, 2)}, {}} {
		m.Effects = shared
		for _, off := range []int{0, 99} {
			all = append(all, given{f, f, db, shared, rid(1, 1), off, m})
		}
	}
	for _, a := range all {
		b := ask(a)
		got := append(places(b.got.Back), placesOfSpace(b.after)...)
		if overlap(places(b.added.Back)) || overlap(places(b.m.Effects)) || overlap(got) {
			t.Fatalf("R3: two lists of one answer share memory: %s", a.tell())
		}
		arguments := slices.Concat(places(a.f.Back), placesOfSpace(a.db), places(a.l), places(a.m.Effects))
		for _, p := range slices.Concat(places(b.added.Back), places(b.m.Effects), got) {
			if slices.ContainsFunc(arguments, func(q place) bool { return p.from < q.to && q.from < p.to }) {
				t.Fatalf("R3: an answer shares memory with an argument: %s", a.tell())
			}
		}
		// What is free again may be the memory of a later answer.
		runtime.KeepAlive(a)
		runtime.KeepAlive(b)
	}
}

// loan makes strings of bytes that the test may write into once the call is over, as nothing of them is to be kept.
type loan struct{ all [][]byte }

func (o *loan) text(s string) string {
	b := append(make([]byte, 0, len(s)+1), s...)
	o.all = append(o.all, b)
	return unsafe.String(unsafe.SliceData(b), len(b))
}

func (o *loan) item(i api.Item) api.Item {
	c := api.Item{Kind: i.Kind, S: o.text(i.S), Exp: i.Exp}
	for _, f := range i.F {
		c.F = append(c.F, api.Field{Name: o.text(f.Name), Val: o.text(f.Val)})
	}
	for _, s := range i.L {
		c.L = append(c.L, o.text(s))
	}
	return c
}

func (o *loan) effects(l []api.Effect) []api.Effect {
	var same []api.Effect
	for _, e := range l {
		same = append(same, api.Effect{Key: o.text(e.Key), Gone: e.Gone, Item: o.item(e.Item)})
	}
	return same
}

func (o *loan) given(a given) given {
	var db []api.Pair
	for _, p := range a.db {
		db = append(db, api.Pair{Key: o.text(p.Key), Item: o.item(p.Item)})
	}
	a.f.Back, a.g.Back, a.db, a.l, a.m.Effects = o.effects(a.f.Back), o.effects(a.g.Back), db, o.effects(a.l), o.effects(a.m.Effects)
	return a
}

// TestStringsAreNewMemory by their bytes.
func TestStringsAreNewMemory(t *testing.T) {
	for _, a := range givings() {
		want := ask(a.again())
		var lent loan
		own := lent.given(a)
		got := ask(own)
		if !own.equal(a) {
			t.Fatalf("R3: a call writes into strings: %s", a.tell())
		}
		for _, b := range lent.all {
			for i := range b {
				b[i] = '?'
			}
		}
		if !got.equal(want) {
			t.Fatalf("R3: answers have memory of the arguments: %s", a.tell())
		}
	}
}

// TestAnswersAreArguments adds to answers, and gives them to the calls in turn.
func TestAnswersAreArguments(t *testing.T) {
	for _, a := range givings() {
		b := ask(a)
		want := againFeed(b.added)
		grown := append(b.added.Back, nth(9))
		if !equalFeeds(b.added, want) || len(grown) != len(want.Back)+1 {
			t.Fatalf("R3: answers can't be added to: %s", a.tell())
		}
		checkAdd(t, b.added, b.m.Effects...)
		checkAnswer(t, b.got, b.after, b.added.Rid, b.added.Off)
		checkGot(t, b.added, b.after, b.m)
	}
}

// TestCallsDoNotAffectEachOther asks all of them forwards and backwards.
func TestCallsDoNotAffectEachOther(t *testing.T) {
	all := givings()
	var alone []answers
	for _, a := range all {
		alone = append(alone, ask(a))
	}
	for i := len(all) - 1; i >= 0; i-- {
		if !ask(all[i]).equal(alone[i]) {
			t.Fatalf("R5: behind other calls the answers differ: %s", all[i].tell())
		}
	}
}

// TestNothingPanics gives feeds, spaces and effects that are not valid, of which nothing is promised but that all calls end.
func TestNothingPanics(t *testing.T) {
	ints := []int{math.MinInt, math.MinInt + 1, math.MinInt + 63, math.MinInt + 64, -65, -64, -1, 0, 1, 64, 65, 1<<53 + 1, math.MaxInt - 64, math.MaxInt - 1, math.MaxInt}
	long := strings.Repeat("x", 1000)
	odd := []api.Effect{put(long, api.Item{}), {}, put("b", api.Item{Kind: -1, L: []string{long}, F: []api.Field{{}, {}}, Exp: math.MinInt}), put("a", api.Item{Kind: api.KHash}), gone(long)}
	backs := [][]api.Effect{nil, odd, slices.Repeat(odd, 13), slices.Repeat(odd, 20)}
	dbs := [][]api.Pair{nil, {{Key: "b"}, {Key: "a"}, {Key: "a", Item: api.Item{Kind: 9, S: long}}}, {{Key: long}, {Key: "", Item: api.Item{Exp: math.MaxInt}}}}
	n := 0
	for _, at := range ints {
		for _, until := range ints {
			for _, off := range ints {
				n++
				r := rid(ints[n%len(ints)], ints[n/3%len(ints)])
				f := api.Feed{Rid: r, Off: at, Back: backs[n%4], Prev: rid(until, off), Until: until}
				m := api.Msg{Kind: ints[n%7], Rid: rid(off, at), Prev: r, Off: at, Effects: backs[n/4%4]}
				if n%3 > 0 {
					m.Kind = 4 + n%3
				}
				a := given{f, f, dbs[n%3], backs[n/2%4], r, off, m}
				if n%2 == 0 {
					a.rid = f.Prev
				}
				if first := ask(a); !first.equal(ask(a)) {
					t.Fatalf("R1: the same calls answer otherwise: %s", a.tell())
				}
			}
		}
	}
}

// TestGreatCallsEnd would go on for very long if a call went through all of it again and again.
func TestGreatCallsEnd(t *testing.T) {
	var many []api.Effect
	var db []api.Pair
	for i := range 200000 {
		key := "k" + strconv.Itoa(1000000+i)
		many = append(many, put(key, text("1")))
		db = append(db, api.Pair{Key: key, Item: text("1")})
	}
	f := Add(known(rid(1, 1), 50, 50), many...)
	if want := (api.Feed{Rid: rid(1, 1), Off: 200050, Back: many[199936:]}); !equalFeeds(f, want) {
		t.Errorf("15.1: Add of many effects is the %s", tellFeed(f))
	}
	for _, e := range many[:30000] {
		f = Add(f, e)
	}
	if want := (api.Feed{Rid: rid(1, 1), Off: 230050, Back: many[29936:30000]}); !equalFeeds(f, want) {
		t.Errorf("15.1: many Adds make the %s", tellFeed(f))
	}
	m := Answer(f, db, rid(2, 2), 0)
	if !equalEffects(m.Effects, many) {
		t.Errorf("15.2: Answer of many keys has %s", tellEffects(m.Effects))
	}
	if g, after, is := Got(api.Feed{}, db[:9], m); !is || g.Off != 230050 || !equalSpaces(after, db) {
		t.Errorf("15.3: Got of many effects is %v, the %s and the %s", is, tellFeed(g), tellSpace(after))
	}
	m = api.Msg{Kind: api.GFeed, Rid: rid(1, 1), Prev: rid(1, 1), Effects: many}
	if g, after, is := Got(api.Feed{}, nil, m); is || g.Off != 0 || len(after) != 0 {
		t.Errorf("15.3: Got of many effects for another history is %v, the %s and the %s", is, tellFeed(g), tellSpace(after))
	}
}

// TestEffectsAreLeft goes through the kept effects from each offset on, leaves them anywhere, and goes through them again.
func TestEffectsAreLeft(t *testing.T) {
	f := known(rid(1, 1), 10, 6)
	for off := -1; off <= 12; off++ {
		all := after(f, off)
		for most := range 8 {
			from := min(max(off, 4), 10)
			want := effects(from, min(from+most, 10))
			for range 2 {
				if got := copies(all, most); !equalEffects(got, want) {
					t.Errorf("the first %d effects after %d are %s, want %s", most, off, tellEffects(got), tellEffects(want))
				}
			}
		}
	}
}
