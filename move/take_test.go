package move

import (
	"math"
	"slices"
	"strings"
	"testing"

	"caravan/api"
	"caravan/slot"
)

// brings is the message of another node to node 1 by which a key comes; its slot is the key's.
func brings(from, num int, key string, i api.Item) api.Msg {
	return api.Msg{Kind: api.GMove, From: from, To: 1, Slot: slot.Of(key), Num: num, Effects: []api.Effect{put(key, i)}}
}

// checkTaken is that the effect is applied, and Seen is this.
func checkTaken(t *testing.T, n api.Node, m api.Msg, seen ...api.Seen) api.Node {
	t.Helper()
	got, msgs := Take(n, m)
	want := applied(n, m.Effects[0])
	want.Seen = seen
	if !same(got, want) {
		t.Errorf("16.3: Take of %s is\n%s, want\n%s", tell(m), tell(got), tell(want))
	}
	if !same(msgs, []api.Msg{{Kind: api.GAck, From: n.Id, To: m.From, Slot: m.Slot, Num: m.Num}}) {
		t.Errorf("16.3: Take of %s sends %s", tell(m), tell(msgs))
	}
	return got
}

// checkPassed is that the message is acknowledged, and nothing else.
func checkPassed(t *testing.T, n api.Node, m api.Msg) {
	t.Helper()
	got, msgs := Take(n, m)
	if !same(got, n) {
		t.Errorf("16.3: Take of %s, which was seen, is\n%s, want\n%s", tell(m), tell(got), tell(n))
	}
	if !same(msgs, []api.Msg{{Kind: api.GAck, From: n.Id, To: m.From, Slot: m.Slot, Num: m.Num}}) {
		t.Errorf("16.3: Take of %s, which was seen, sends %s", tell(m), tell(msgs))
	}
}

// checkRefused is that nothing comes of the message at all.
func checkRefused(t *testing.T, n api.Node, m api.Msg, name string) {
	t.Helper()
	if got, msgs := Take(n, m); len(msgs) != 0 || !same(got, n) {
		t.Errorf("16.3: Take, %s, sends %s, and is\n%s, want\n%s", name, tell(msgs), tell(got), tell(n))
	}
}

func TestTakeExample(t *testing.T) {
	n, m := ours(), brings(2, 8, "a", text("new"))
	first, msgs := Take(n, m)
	again, more := Take(first, m)
	if !same(again, first) || !same(more, msgs) || len(msgs) != 1 || same(first, n) {
		t.Errorf("16.3: Take of the same message again sends %s, and is %s", tell(more), tell(again))
	}
}

func TestTakeRefusals(t *testing.T) {
	good := func() api.Msg { return brings(2, 8, "a", text("new")) }
	long := "{a}" + strings.Repeat("k", 37)
	checkTaken(t, ours(), good(), api.Seen{Node: 0, Slot: 15495, Num: 3}, api.Seen{Node: 2, Slot: 7365, Num: 5}, api.Seen{Node: 2, Slot: 15495, Num: 8})
	checkTaken(t, ours(), brings(2, 8, long, text("")), api.Seen{Node: 0, Slot: 15495, Num: 3}, api.Seen{Node: 2, Slot: 7365, Num: 5}, api.Seen{Node: 2, Slot: 15495, Num: 8})
	for name, turn := range map[string]func(m *api.Msg){
		"no effect":                  func(m *api.Msg) { m.Effects = nil },
		"an empty list of effects":   func(m *api.Msg) { m.Effects = []api.Effect{} },
		"two effects":                func(m *api.Msg) { m.Effects = append(m.Effects, put("{a}1", text("2"))) },
		"the same effect twice":      func(m *api.Msg) { m.Effects = append(m.Effects, m.Effects[0]) },
		"a second one that is Gone":  func(m *api.Msg) { m.Effects = append(m.Effects, gone("a")) },
		"many effects":               func(m *api.Msg) { m.Effects = slices.Repeat(m.Effects, 100) },
		"the Num 0":                  func(m *api.Msg) { m.Num = 0 },
		"the Num -1":                 func(m *api.Msg) { m.Num = -1 },
		"the least Num":              func(m *api.Msg) { m.Num = math.MinInt },
		"Gone":                       func(m *api.Msg) { m.Effects[0] = gone("a") },
		"Gone with an item":          func(m *api.Msg) { m.Effects[0].Gone = true },
		"a key of one byte too many": func(m *api.Msg) { m.Effects[0].Key = long + "k" },
		"a long key":                 func(m *api.Msg) { m.Effects[0].Key = long + strings.Repeat("k", 1<<20) },
		"a slot less":                func(m *api.Msg) { m.Slot-- },
		"a slot more":                func(m *api.Msg) { m.Slot++ },
		"the slot 0":                 func(m *api.Msg) { m.Slot = 0 },
		"the slot below 0":           func(m *api.Msg) { m.Slot = -1 },
		"the slot that far more":     func(m *api.Msg) { m.Slot += 16384 },
		"the slot that far less":     func(m *api.Msg) { m.Slot -= 16384 },
		"the key of another slot":    func(m *api.Msg) { m.Effects[0].Key = "b" },
	} {
		m := good()
		turn(&m)
		checkRefused(t, ours(), m, name)
		// What was seen is not acknowledged then, either.
		seen := ours()
		for i := range seen.Seen {
			seen.Seen[i].Num = 1 << 52
		}
		checkRefused(t, seen, m, name+", of a number that was seen")
	}
	for _, master := range []int{0, 2, 3} {
		replica := ours()
		replica.Master = master
		checkRefused(t, replica, good(), "by a replica")
		checkRefused(t, replica, brings(2, 7, "a", text("new")), "by a replica, of a number that was seen")
	}
}

// TestTakeOfItems has one valid item of each Kind at its bounds, and such as are not valid for each reason.
func TestTakeOfItems(t *testing.T) {
	seen := []api.Seen{{Node: 0, Slot: 15495, Num: 3}, {Node: 2, Slot: 7365, Num: 5}, {Node: 2, Slot: 15495, Num: 8}}
	long, many := strings.Repeat("x", 300), make([]string, 40)
	for i := range many {
		many[i] = string(rune('A' + i))
	}
	for _, i := range []api.Item{
		text(""), text(long), {Kind: api.KText, Exp: 1}, {Kind: api.KText, Exp: 1 << 53}, {Kind: api.KHash, F: []api.Field{{Name: long, Val: long}}},
		{Kind: api.KList, L: []string{""}}, {Kind: api.KList, L: slices.Repeat([]string{long}, 40)}, {Kind: api.KSet, L: many},
	} {
		checkTaken(t, ours(), brings(2, 8, "a", i), seen...)
	}
	for _, i := range []api.Item{
		{}, {Kind: -1}, {Kind: 5, S: "x"}, text(long + "x"), {Kind: api.KText, Exp: -1}, {Kind: api.KText, Exp: 1<<53 + 1}, {Kind: api.KText, L: []string{"x"}},
		{Kind: api.KHash}, {Kind: api.KHash, F: []api.Field{{Name: "b"}, {Name: "a"}}}, {Kind: api.KHash, F: []api.Field{{Val: long + "x"}}},
		{Kind: api.KList}, {Kind: api.KList, S: "x", L: []string{""}}, {Kind: api.KList, L: make([]string, 41)},
		{Kind: api.KSet}, {Kind: api.KSet, L: []string{"a", "a"}}, {Kind: api.KSet, L: append(slices.Clone(many), "~")},
	} {
		checkRefused(t, ours(), brings(2, 8, "a", i), "of the item "+tell(i))
	}
}

// TestTakeOfNumbers has Seen with and without the pair of this From and Slot.
func TestTakeOfNumbers(t *testing.T) {
	n := ours()
	n.Seen = []api.Seen{{Node: 2, Slot: 15495, Num: 7}}
	for _, num := range []int{1, 2, 6, 7} {
		checkPassed(t, n, brings(2, num, "a", text("new")))
		checkPassed(t, n, brings(2, num, "{a}9", text("new")))
	}
	for _, num := range []int{8, 9, 100, 1 << 52, math.MaxInt} {
		checkTaken(t, n, brings(2, num, "a", text("new")), api.Seen{Node: 2, Slot: 15495, Num: num})
		checkTaken(t, n, brings(2, num, "{a}9", text("new")), api.Seen{Node: 2, Slot: 15495, Num: num})
	}
	// For another node, or another slot, any number is new.
	for _, num := range []int{1, 6, 7, 8, 1 << 52} {
		checkTaken(t, n, brings(2, num, "c", text("new")), api.Seen{Node: 2, Slot: 7365, Num: num}, n.Seen[0])
		checkTaken(t, n, brings(2, num, "hia", text("new")), n.Seen[0], api.Seen{Node: 2, Slot: 16383, Num: num})
		checkTaken(t, n, brings(0, num, "a", text("new")), api.Seen{Node: 0, Slot: 15495, Num: num}, n.Seen[0])
		checkTaken(t, n, brings(3, num, "a", text("new")), n.Seen[0], api.Seen{Node: 3, Slot: 15495, Num: num})
		checkTaken(t, n, brings(0, num, "hia", text("new")), api.Seen{Node: 0, Slot: 16383, Num: num}, n.Seen[0])
		checkTaken(t, n, brings(3, num, "", text("new")), n.Seen[0], api.Seen{Node: 3, Slot: 0, Num: num})
	}
}

// TestTakeOfAllPlaces has each of nine pairs beside all mixes of the others.
func TestTakeOfAllPlaces(t *testing.T) {
	var pairs []api.Seen
	keys := []string{"c", "a", "hia"}
	for node := range 3 {
		for _, k := range keys {
			pairs = append(pairs, api.Seen{Node: node + node/2, Slot: slot.Of(k), Num: 10 + len(pairs)})
		}
	}
	n := ours()
	for mask := range 1 << len(pairs) {
		n.Seen = nil
		for i, s := range pairs {
			if mask>>i&1 == 1 {
				n.Seen = append(n.Seen, s)
			}
		}
		for i, s := range pairs {
			m := brings(s.Node, s.Num+1, keys[i%3], text("new"))
			checkTake(t, n, m)
			m.Num = s.Num
			checkTake(t, n, m)
		}
	}
}

// TestTakeIntoTheSpace has keys ahead of, between and behind those that are there, and such as are there.
func TestTakeIntoTheSpace(t *testing.T) {
	n := ours()
	for _, k := range []string{"", "a", "b", "bb", "c", "zzz", "{a}0", "{a}1", "{c}x", "{c}y", "\xff", "0", "foo"} {
		for kind := range 5 {
			got, msgs := Take(n, brings(3, 1, k, nthItem(kind)))
			want := applied(n, put(k, nthItem(kind)))
			if len(msgs) != 1 || !same(got.Db, want.Db) || !same(got.Feed, want.Feed) {
				t.Errorf("16.3: behind Take of %q the space is\n%s, want\n%s, and the feed is\n%s, want\n%s", k, tell(got.Db), tell(want.Db), tell(got.Feed), tell(want.Feed))
			}
		}
	}
	n.Db = nil
	checkTake(t, n, brings(3, 1, "a", text("new")))
	// Whose the slot is does not count, nor whether it moves itself.
	checkTake(t, n, brings(3, 1, "b", text("new")))
	n = with(api.Move{Slot: 15495, To: 2, Num: 3, Key: "a"})
	checkTake(t, n, brings(3, 1, "a", text("new")))
	checkTake(t, n, brings(3, 1, "{a}7", text("new")))
}

// TestTakeIntoFeeds of all lengths, the full one too.
func TestTakeIntoFeeds(t *testing.T) {
	for kept := range 65 {
		for _, more := range []int{0, 9} {
			n := ours()
			n.Feed.Back = nil
			for i := range kept {
				n.Feed.Back = append(n.Feed.Back, put(key(15495, i), nthItem(i)))
			}
			n.Feed.Off, n.Feed.Until = kept+more, more
			checkTake(t, n, brings(2, 8, "a", text("new")))
			checkTake(t, n, brings(2, 7, "a", text("new")))
			n.Moves = []api.Move{{Slot: 15495, To: 2, Num: 8, Key: "a"}}
			checkAcked(t, n, api.Msg{Kind: api.GAck, From: 2, To: 1, Slot: 15495, Num: 8})
			checkAcked(t, n, api.Msg{Kind: api.GAck, From: 2, To: 1, Slot: 15495, Num: 7})
		}
	}
}

// TestTakeOfAllSlots has one key of each.
func TestTakeOfAllSlots(t *testing.T) {
	n := api.Node{Count: 8, Id: 5, Master: -1}
	for s := range api.Slots {
		m := brings(7, 1, tags()[s], text("x"))
		got, msgs := Take(n, m)
		if len(msgs) != 1 || m.Slot != s || msgs[0].Slot != s || len(got.Db) != 1 || !same(got.Seen, []api.Seen{{Node: 7, Slot: s, Num: 1}}) {
			t.Fatalf("16.3: Take of the slot %d sends %s, and is %s", s, tell(msgs), tell(got))
		}
	}
}
