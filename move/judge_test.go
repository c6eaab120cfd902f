package move

import (
	"fmt"
	"maps"
	"math/rand/v2"
	"slices"
	"strconv"
	"strings"
	"sync"
	"testing"

	"caravan/api"
	"caravan/claims"
	"caravan/item"
	"caravan/slot"
	"caravan/space"
)

func text(s string) api.Item { return api.Item{Kind: api.KText, S: s} }

func put(key string, i api.Item) api.Effect { return api.Effect{Key: key, Item: i} }

func gone(key string) api.Effect { return api.Effect{Key: key, Gone: true} }

// nthItem is of any Kind, with and without an end of life, which may be over long since.
func nthItem(n int) api.Item {
	s := "v" + strconv.Itoa(n)
	switch n % 5 {
	case 0:
		return api.Item{Kind: api.KHash, F: []api.Field{{Name: "", Val: s}, {Name: s, Val: ""}}}
	case 1:
		return api.Item{Kind: api.KList, L: []string{s, "x", s}, Exp: 1}
	case 2:
		return api.Item{Kind: api.KSet, L: []string{"", s}}
	case 3:
		return api.Item{Kind: api.KText, S: strings.Repeat("x", 290) + s, Exp: 1 << 53}
	}
	return text(s)
}

// holding is the space of such keys.
func holding(keys ...string) []api.Pair {
	var db []api.Pair
	for n, key := range keys {
		db = space.Apply(db, put(key, nthItem(n)))
	}
	return db
}

// tags are a key of each slot.
var tags = sync.OnceValue(func() []string {
	all := make([]string, api.Slots)
	for n, missing := 0, api.Slots; missing > 0; n++ {
		key := strconv.Itoa(n)
		if at := slot.Of(key); all[at] == "" {
			all[at] = key
			missing--
		}
	}
	return all
})

// key is the key of that number in a slot; greater numbers make greater keys.
func key(slot, n int) string { return "{" + tags()[slot] + "}" + strconv.Itoa(n) }

// ours is a valid node with something in each field: node 1 of 4, a master, whose are the slots 0, 5000 to 9999 and from 10010 on but for 12182.
func ours() api.Node {
	return api.Node{
		Count: 4, Id: 1, Master: -1, Epoch: 9, Voted: 3, Last: 20,
		Claims: []api.Claim{
			{From: 0, To: 0, Node: 1, Epoch: 1}, {From: 1, To: 4999, Node: 0, Epoch: 1}, {From: 5000, To: 9999, Node: 1, Epoch: 3},
			{From: 10010, To: 12181, Node: 1, Epoch: 5}, {From: 12182, To: 12182, Node: 2, Epoch: 9}, {From: 12183, To: 16383, Node: 1, Epoch: 5},
		},
		Db:    holding("", "a", "b", "c", "foo", "hia", "{a}1", "{a}2", "{c}x"),
		Seen:  []api.Seen{{Node: 0, Slot: 15495, Num: 3}, {Node: 2, Slot: 7365, Num: 5}, {Node: 2, Slot: 15495, Num: 7}},
		Feed:  api.Feed{Rid: api.Rid{Node: 1, Epoch: 2}, Off: 30, Back: []api.Effect{put("a", nthItem(2)), gone("q")}, Prev: api.Rid{Node: 2, Epoch: 1}, Until: 5},
		Watch: api.Watch{Heard: []int{0, 1, 2, 3}, Says: [][]int{nil, {0, 3}, {}, {2}}},
		Asked: 4, Votes: []int{1, 2}, Wait: 2,
	}
}

// with is our node with these moves, in any order.
func with(l ...api.Move) api.Node {
	n := ours()
	n.Moves = slices.SortedFunc(slices.Values(l), func(a, b api.Move) int { return a.Slot - b.Slot })
	return n
}

// valid is whether the node is one of those for which the calls are promised (23.2).
func valid(n api.Node) bool {
	within := func(i, from, to int) bool { return from <= i && i <= to }
	const most = 1 << 52
	ok := within(n.Count, 1, 8) && within(n.Id, 0, n.Count-1) && within(n.Master, -1, n.Count-1) && n.Master != n.Id
	ok = ok && within(n.Epoch, 0, most) && within(n.Last, 0, most) && claims.May(n.Claims) && space.May(n.Db)
	for _, c := range n.Claims {
		ok = ok && c.Node < n.Count
	}
	for i, m := range n.Moves {
		owner, _, owned := claims.Of(n.Claims, m.Slot)
		ok = ok && n.Master == -1 && owned && owner == n.Id && within(m.To, 0, n.Count-1) && m.To != n.Id && within(m.Num, 0, n.Last)
		ok = ok && (i == 0 || n.Moves[i-1].Slot < m.Slot)
		_, has := space.Raw(n.Db, m.Key)
		ok = ok && (m.Num == 0 && m.Key == "" || m.Num > 0 && has && slot.Of(m.Key) == m.Slot)
	}
	for i, s := range n.Seen {
		ok = ok && within(s.Node, 0, n.Count-1) && within(s.Slot, 0, 16383) && within(s.Num, 1, most)
		ok = ok && (i == 0 || n.Seen[i-1].Node < s.Node || n.Seen[i-1].Node == s.Node && n.Seen[i-1].Slot < s.Slot)
	}
	return ok && len(n.Feed.Back) <= 64 && within(len(n.Feed.Back), 0, n.Feed.Off) && within(n.Feed.Until, 0, n.Feed.Off)
}

// applied is the node behind an effect: a dictionary of its keys, and one effect more in its history.
func applied(n api.Node, e api.Effect) api.Node {
	m := map[string]api.Item{}
	for _, p := range n.Db {
		m[p.Key] = p.Item
	}
	delete(m, e.Key)
	if !e.Gone {
		m[e.Key] = e.Item
	}
	n.Db = nil
	for _, key := range slices.Sorted(maps.Keys(m)) {
		n.Db = append(n.Db, api.Pair{Key: key, Item: m[key]})
	}
	n.Feed.Off++
	n.Feed.Back = append(slices.Clone(n.Feed.Back), e)
	n.Feed.Back = n.Feed.Back[max(0, len(n.Feed.Back)-64):]
	return n
}

// ownerOf goes through all claims.
func ownerOf(n api.Node, slot int) int {
	for _, c := range n.Claims {
		if c.From <= slot && slot <= c.To {
			return c.Node
		}
	}
	return -1
}

// claimed is the claims with one slot cut out of them, which is a node's.
func claimed(l []api.Claim, slot, node, epoch int) []api.Claim {
	var after []api.Claim
	for _, c := range l {
		ahead, past := c, c
		ahead.To, past.From = min(c.To, slot-1), max(c.From, slot+1)
		for _, part := range []api.Claim{ahead, past} {
			if part.From <= part.To {
				after = append(after, part)
			}
		}
	}
	after = append(after, api.Claim{From: slot, To: slot, Node: node, Epoch: epoch})
	slices.SortFunc(after, func(a, b api.Claim) int { return a.From - b.From })
	for i := len(after) - 1; i > 0; i-- {
		a, b := after[i-1], after[i]
		if a.To+1 == b.From && a.Node == b.Node && a.Epoch == b.Epoch {
			after[i-1].To = b.To
			after = slices.Delete(after, i, i+1)
		}
	}
	return after
}

// started is what Start is to answer.
func started(n api.Node, slot, to int) (api.Node, api.Errno) {
	if slot < 0 || slot > 16383 || to < 0 || to > n.Count-1 || to == n.Id {
		return n, 1
	}
	if n.Master != -1 || ownerOf(n, slot) != n.Id {
		return n, 9
	}
	for _, m := range n.Moves {
		if m.Slot == slot {
			return n, 3
		}
	}
	var l []api.Move
	for _, m := range n.Moves {
		if m.Slot < slot {
			l = append(l, m)
		}
	}
	l = append(l, api.Move{Slot: slot, To: to})
	for _, m := range n.Moves {
		if m.Slot > slot {
			l = append(l, m)
		}
	}
	n.Moves = l
	return n, 0
}

// ticked is what Tick is to answer.
func ticked(n api.Node) (api.Node, []api.Msg) {
	if n.Master != -1 {
		return n, nil
	}
	var l []api.Move
	var msgs []api.Msg
	for _, m := range n.Moves {
		first, any := api.Pair{}, false
		for _, p := range n.Db {
			if m.Num > 0 && p.Key == m.Key || m.Num == 0 && slot.Of(p.Key) == m.Slot && !any {
				first, any = p, true
			}
		}
		if m.Num == 0 && !any {
			n.Epoch++
			n.Claims = claimed(n.Claims, m.Slot, m.To, n.Epoch)
			continue
		}
		if m.Num == 0 {
			n.Last++
			m.Num, m.Key = n.Last, first.Key
		}
		l = append(l, m)
		msgs = append(msgs, api.Msg{Kind: 2, From: n.Id, To: m.To, Slot: m.Slot, Num: m.Num, Effects: []api.Effect{put(m.Key, first.Item)}})
	}
	n.Moves = l
	return n, msgs
}

// taken is what Take is to answer.
func taken(n api.Node, m api.Msg) (api.Node, []api.Msg) {
	if n.Master != -1 || len(m.Effects) != 1 || m.Num < 1 {
		return n, nil
	}
	e := m.Effects[0]
	if e.Gone || len(e.Key) > 40 || !item.May(e.Item) || slot.Of(e.Key) != m.Slot {
		return n, nil
	}
	acks := []api.Msg{{Kind: 3, From: n.Id, To: m.From, Slot: m.Slot, Num: m.Num}}
	nums := map[[2]int]int{}
	for _, s := range n.Seen {
		nums[[2]int{s.Node, s.Slot}] = s.Num
	}
	at := [2]int{m.From, m.Slot}
	if nums[at] >= m.Num {
		return n, acks
	}
	nums[at] = m.Num
	n.Seen = nil
	for _, at := range slices.SortedFunc(maps.Keys(nums), func(a, b [2]int) int { return slices.Compare(a[:], b[:]) }) {
		n.Seen = append(n.Seen, api.Seen{Node: at[0], Slot: at[1], Num: nums[at]})
	}
	return applied(n, e), acks
}

// acked is what Acked is to answer.
func acked(n api.Node, m api.Msg) api.Node {
	for i, move := range n.Moves {
		if m.Num > 0 && move == (api.Move{Slot: m.Slot, To: m.From, Num: m.Num, Key: move.Key}) {
			n.Moves = slices.Clone(n.Moves)
			n.Moves[i] = api.Move{Slot: m.Slot, To: m.From}
			return applied(n, gone(move.Key))
		}
	}
	return n
}

func tell(v any) string {
	s := fmt.Sprintf("%+v", v)
	return strings.ReplaceAll(s, strings.Repeat("x", 280), "..")
}

func checkStart(t *testing.T, n api.Node, slot, to int) {
	t.Helper()
	got, e := Start(n, slot, to)
	if want, wantErrno := started(n, slot, to); e != wantErrno || !same(got, want) {
		t.Errorf("16.1: Start of %d to %d is %d, want %d, and\n%s, want\n%s, from\n%s", slot, to, e, wantErrno, tell(got), tell(want), tell(n))
	}
}

func checkTick(t *testing.T, n api.Node) {
	t.Helper()
	got, msgs := Tick(n)
	if want, wantMsgs := ticked(n); !same(got, want) || !same(msgs, wantMsgs) {
		t.Errorf("16.2: Tick sends\n%s, want\n%s, and is\n%s, want\n%s, from\n%s", tell(msgs), tell(wantMsgs), tell(got), tell(want), tell(n))
	}
}

func checkTake(t *testing.T, n api.Node, m api.Msg) {
	t.Helper()
	got, msgs := Take(n, m)
	if want, wantMsgs := taken(n, m); !same(got, want) || !same(msgs, wantMsgs) {
		t.Errorf("16.3: Take of %s sends\n%s, want\n%s, and is\n%s, want\n%s, from\n%s", tell(m), tell(msgs), tell(wantMsgs), tell(got), tell(want), tell(n))
	}
}

func checkAcked(t *testing.T, n api.Node, m api.Msg) {
	t.Helper()
	if got, want := Acked(n, m), acked(n, m); !same(got, want) {
		t.Errorf("16.4: Acked of %s is\n%s, want\n%s, from\n%s", tell(m), tell(got), tell(want), tell(n))
	}
}

// anyNode is a valid node of no order, with something in each field, that has to do with some slots more than with all others.
func anyNode(r *rand.Rand, slots []int) api.Node {
	n := ours()
	n.Count = 2 + r.IntN(7)
	n.Id, n.Epoch, n.Last = r.IntN(n.Count), r.IntN(20), r.IntN(20)
	n.Claims = nil
	for from := r.IntN(2) * r.IntN(3000); from < api.Slots; {
		last := min(from+r.IntN(4000), api.Slots-1)
		c := api.Claim{From: from, To: last, Node: r.IntN(n.Count), Epoch: 1 + r.IntN(20)}
		if r.IntN(3) > 0 {
			c.Node = n.Id
		}
		n.Claims = claims.Give(n.Claims, []api.Span{{From: c.From, To: c.To}}, c.Node, c.Epoch)
		from = last + 1 + r.IntN(2)*r.IntN(500)
	}
	n.Db, n.Seen = nil, nil
	for _, s := range slots {
		for i := range r.IntN(4) {
			n.Db = space.Apply(n.Db, put(key(s, i), nthItem(r.IntN(99))))
		}
		for node := range n.Count {
			if r.IntN(3) == 0 {
				n.Seen = append(n.Seen, api.Seen{Node: node, Slot: s, Num: 1 + r.IntN(20)})
			}
		}
	}
	slices.SortFunc(n.Seen, func(a, b api.Seen) int { return (a.Node-b.Node)*api.Slots + a.Slot - b.Slot })
	n.Feed.Back = nil
	for range r.IntN(65) {
		n.Feed.Back = append(n.Feed.Back, put(key(slots[0], r.IntN(9)), nthItem(r.IntN(99))))
	}
	n.Feed.Off = len(n.Feed.Back) + r.IntN(9)
	n.Feed.Until = r.IntN(n.Feed.Off + 1)
	if r.IntN(6) == 0 {
		n.Master = (n.Id + 1) % n.Count
		return n
	}
	n.Moves = anyMoves(r, n, slots)
	return n
}

// anyMoves are valid ones of the node.
func anyMoves(r *rand.Rand, n api.Node, slots []int) []api.Move {
	var l []api.Move
	for _, s := range slices.Sorted(slices.Values(slots)) {
		if ownerOf(n, s) != n.Id || r.IntN(3) == 0 {
			continue
		}
		m := api.Move{Slot: s, To: (n.Id + 1 + r.IntN(n.Count-1)) % n.Count}
		if keys := space.In(n.Db, s); len(keys) > 0 && n.Last > 0 && r.IntN(2) == 0 {
			m.Num, m.Key = 1+r.IntN(n.Last), keys[r.IntN(len(keys))]
		}
		l = append(l, m)
	}
	return l
}

// anyMsg is a message that is about to be good for the node, but may fail in one thing or another.
func anyMsg(r *rand.Rand, n api.Node, slots []int) api.Msg {
	s := slots[r.IntN(len(slots))]
	m := api.Msg{Kind: api.GMove, From: r.IntN(n.Count), To: n.Id, Slot: s, Num: r.IntN(22), Effects: []api.Effect{put(key(s, r.IntN(9)), nthItem(r.IntN(99)))}}
	if len(n.Moves) > 0 && r.IntN(3) > 0 {
		move := n.Moves[r.IntN(len(n.Moves))]
		m.From, m.Slot, m.Num = move.To, move.Slot, move.Num
	}
	e := &m.Effects[0]
	switch r.IntN(16) {
	case 0:
		m.Num = -r.IntN(3)
	case 1:
		m.Slot = slots[r.IntN(len(slots))]
	case 2:
		e.Gone = true
	case 3:
		e.Item = api.Item{Kind: api.KSet, L: []string{"b", "a"}}
	case 4:
		m.Effects = slices.Repeat(m.Effects, r.IntN(2)*2)
	case 5:
		e.Key += strings.Repeat("k", 40-len(e.Key)+r.IntN(2))
	case 6:
		m.From = r.IntN(n.Count)
	case 7:
		m.Num++
	}
	return m
}

// TestNodesOfNoOrder are judged by all calls.
func TestNodesOfNoOrder(t *testing.T) {
	r := rand.New(rand.NewPCG(16, 1))
	all := []int{15495, 0, 16383, 7365, 12182, 1, 9000}
	changed := map[string]int{}
	for range 6000 {
		slots := all[:1+r.IntN(len(all))]
		n := anyNode(r, slots)
		if !valid(n) {
			t.Fatalf("no valid node: %s", tell(n))
		}
		s, to, m := slots[r.IntN(len(slots))], r.IntN(n.Count+2)-1, anyMsg(r, n, slots)
		checkStart(t, n, s, to)
		checkTick(t, n)
		checkTake(t, n, m)
		checkAcked(t, n, m)
		begun, _ := Start(n, s, to)
		onward, _ := Tick(n)
		took, _ := Take(n, m)
		for name, after := range map[string]api.Node{"Start": begun, "Tick": onward, "Take": took, "Acked": Acked(n, m)} {
			if !valid(after) {
				t.Fatalf("%s makes a node that isn't valid: %s", name, tell(after))
			}
			if !same(after, n) {
				changed[name]++
			}
		}
	}
	if len(changed) != 4 || slices.Min(slices.Collect(maps.Values(changed))) < 500 {
		t.Errorf("the calls changed the nodes only so often: %v", changed)
	}
}
