package move

import (
	"slices"
	"testing"

	"caravan/api"
	"caravan/claims"
	"caravan/slot"
	"caravan/space"
)

func TestTickExample(t *testing.T) {
	for _, n := range []api.Node{ours(), {}, {Count: 1, Master: -1}} {
		if got, msgs := Tick(n); len(msgs) != 0 || !same(got, n) {
			t.Errorf("16.2: Tick of a node without moves sends %s, and is %s", tell(msgs), tell(got))
		}
	}
}

// TestTickOfReplicas has Moves, too, though no valid replica has.
func TestTickOfReplicas(t *testing.T) {
	for _, n := range []api.Node{ours(), with(api.Move{Slot: 15495, To: 2}), with(api.Move{Slot: 9000, To: 0}, api.Move{Slot: 15495, To: 2, Num: 3, Key: "a"})} {
		for _, master := range []int{0, 2, 3} {
			n.Master = master
			if got, msgs := Tick(n); len(msgs) != 0 || !same(got, n) {
				t.Errorf("16.2: Tick of a replica sends %s, and is %s", tell(msgs), tell(got))
			}
		}
	}
}

// sends is the message of node 1 by which a key goes.
func sends(to, slot, num int, key string, i api.Item) api.Msg {
	return api.Msg{Kind: api.GMove, From: 1, To: to, Slot: slot, Num: num, Effects: []api.Effect{put(key, i)}}
}

func TestTickTellsAKeyAgain(t *testing.T) {
	for _, num := range []int{1, 7, 20} {
		for i, k := range []string{"a", "{a}1", "{a}2"} {
			n := with(api.Move{Slot: 15495, To: 3, Num: num, Key: k})
			value, _ := space.Raw(n.Db, k)
			got, msgs := Tick(n)
			if !same(got, n) || !same(msgs, []api.Msg{sends(3, 15495, num, k, value)}) {
				t.Errorf("16.2: Tick of the key %d on its way by %d sends %s, and is %s", i, num, tell(msgs), tell(got))
			}
		}
	}
}

func TestTickTakesTheFirstKey(t *testing.T) {
	for _, c := range []struct {
		slot int
		db   []string
		want string
	}{
		{15495, []string{"a"}, "a"},
		{15495, []string{"{a}2", "a", "{a}1"}, "a"},
		{15495, []string{"{a}2", "{a}1"}, "{a}1"},
		{15495, []string{"{a}2", "{a}10"}, "{a}10"},
		{15495, []string{"A", "b", "c", "{a}1", "{b}"}, "{a}1"},
		{15495, []string{"z{a}", "zz"}, "z{a}"},
		{0, []string{"", "a"}, ""},
		{16383, []string{"a", "hia", "z"}, "hia"},
	} {
		n := with(api.Move{Slot: c.slot, To: 2})
		n.Db = holding(c.db...)
		value, _ := space.Raw(n.Db, c.want)
		want := n
		want.Last, want.Moves = 21, []api.Move{{Slot: c.slot, To: 2, Num: 21, Key: c.want}}
		if got, msgs := Tick(n); !same(got, want) || !same(msgs, []api.Msg{sends(2, c.slot, 21, c.want, value)}) {
			t.Errorf("16.2: Tick of slot %d with %q sends %s, and is %s", c.slot, c.db, tell(msgs), tell(got))
		}
	}
}

// TestTickSendsItemsOfAllKinds and of lives that are over, as they are.
func TestTickSendsItemsOfAllKinds(t *testing.T) {
	for kind := range 5 {
		for _, exp := range []int{0, 1, 5, 1 << 53} {
			value := nthItem(kind)
			value.Exp = exp
			for _, num := range []int{0, 9} {
				n := with(api.Move{Slot: 15495, To: 2, Num: num})
				n.Db = []api.Pair{{Key: "a", Item: value}}
				want := n
				if num > 0 {
					n.Moves[0].Key = "a"
				} else {
					num, want.Last = 21, 21
				}
				want.Moves = []api.Move{{Slot: 15495, To: 2, Num: num, Key: "a"}}
				if got, msgs := Tick(n); !same(got, want) || !same(msgs, []api.Msg{sends(2, 15495, num, "a", value)}) {
					t.Errorf("16.2: Tick sends %s, and is %s", tell(msgs), tell(got))
				}
			}
		}
	}
}

// TestTickGivesTheSlot which has no keys; keys of other slots don't count.
func TestTickGivesTheSlot(t *testing.T) {
	whole := []api.Claim{{From: 0, To: 16383, Node: 1, Epoch: 5}}
	for _, c := range []struct {
		name     string
		claims   []api.Claim
		slot, to int
		want     []api.Claim
	}{
		{"in the middle", whole, 9000, 2, []api.Claim{{From: 0, To: 8999, Node: 1, Epoch: 5}, {From: 9000, To: 9000, Node: 2, Epoch: 10}, {From: 9001, To: 16383, Node: 1, Epoch: 5}}},
		{"the first", whole, 0, 3, []api.Claim{{From: 0, To: 0, Node: 3, Epoch: 10}, {From: 1, To: 16383, Node: 1, Epoch: 5}}},
		{"the last", whole, 16383, 0, []api.Claim{{From: 0, To: 16382, Node: 1, Epoch: 5}, {From: 16383, To: 16383, Node: 0, Epoch: 10}}},
		{"the only one", []api.Claim{{From: 7, To: 7, Node: 1, Epoch: 1}}, 7, 0, []api.Claim{{From: 7, To: 7, Node: 0, Epoch: 10}}},
		{"beside one of that node", []api.Claim{{From: 6, To: 6, Node: 2, Epoch: 9}, {From: 7, To: 7, Node: 1, Epoch: 9}}, 7, 2, []api.Claim{{From: 6, To: 6, Node: 2, Epoch: 9}, {From: 7, To: 7, Node: 2, Epoch: 10}}},
		{"beside one of that node and that epoch", []api.Claim{{From: 6, To: 6, Node: 2, Epoch: 10}, {From: 7, To: 8, Node: 1, Epoch: 10}}, 7, 2, []api.Claim{{From: 6, To: 7, Node: 2, Epoch: 10}, {From: 8, To: 8, Node: 1, Epoch: 10}}},
		{"claimed since a greater epoch", []api.Claim{{From: 7, To: 8, Node: 1, Epoch: 50}}, 8, 0, []api.Claim{{From: 7, To: 7, Node: 1, Epoch: 50}, {From: 8, To: 8, Node: 0, Epoch: 10}}},
	} {
		for _, db := range [][]api.Pair{nil, holding("b", "c", "x", "{b}15495")} {
			n := with(api.Move{Slot: c.slot, To: c.to})
			n.Claims, n.Db = c.claims, db
			want := n
			want.Moves, want.Epoch, want.Claims = nil, 10, c.want
			if got, msgs := Tick(n); len(msgs) != 0 || !same(got, want) {
				t.Errorf("16.2: Tick, %s, sends %s, and is\n%s, want\n%s", c.name, tell(msgs), tell(got), tell(want))
			}
		}
	}
}

// TestTickFromTheFirstEpochOn has nothing of Epoch and Last yet.
func TestTickFromTheFirstEpochOn(t *testing.T) {
	n := with(api.Move{Slot: 0, To: 2}, api.Move{Slot: 15495, To: 2})
	n.Epoch, n.Last, n.Db = 0, 0, holding("a")
	got, msgs := Tick(n)
	if got.Epoch != 1 || got.Last != 1 || len(msgs) != 1 || msgs[0].Num != 1 || got.Claims[0] != (api.Claim{From: 0, To: 0, Node: 2, Epoch: 1}) {
		t.Errorf("16.2: Tick sends %s, and is %s", tell(msgs), tell(got))
	}
	checkTick(t, n)
}

// TestTickGoesMoveByMove has up to four moves, each in each of the cases: a key on its way (w), keys (k), a single one (s), none (n).
func TestTickGoesMoveByMove(t *testing.T) {
	slots := []int{0, 7365, 9000, 16383}
	var walk func(cases string)
	walk = func(cases string) {
		checkCases(t, slots, cases)
		if len(cases) == len(slots) {
			return
		}
		for _, c := range "wksn" {
			walk(cases + string(c))
		}
	}
	walk("")
}

func checkCases(t *testing.T, slots []int, cases string) {
	t.Helper()
	n := with()
	n.Db = holding("b", "x")
	var want []api.Move
	var numbers []int
	last, epoch := n.Last, n.Epoch
	for i, c := range cases {
		m := api.Move{Slot: slots[i], To: []int{2, 0, 3, 2}[i]}
		next := m
		if c == 'w' || c == 'k' || c == 's' {
			n.Db = space.Apply(n.Db, put(key(m.Slot, 4), nthItem(i)))
		}
		if c == 'w' || c == 'k' {
			n.Db = space.Apply(n.Db, put(key(m.Slot, 2), nthItem(i+1)), put(key(m.Slot, 7), nthItem(i+2)))
		}
		switch c {
		case 'w':
			m.Num, m.Key = 5+i, key(m.Slot, 4)
			next = m
		case 'k':
			last++
			next.Num, next.Key = last, key(m.Slot, 2)
		case 's':
			last++
			next.Num, next.Key = last, key(m.Slot, 4)
		case 'n':
			epoch++
		}
		n.Moves = append(n.Moves, m)
		if c != 'n' {
			want = append(want, next)
			numbers = append(numbers, next.Num)
		}
	}
	if !valid(n) {
		t.Fatalf("no valid node: %s", tell(n))
	}
	got, msgs := Tick(n)
	var told []int
	for _, m := range msgs {
		told = append(told, m.Num)
	}
	if got.Last != last || got.Epoch != epoch || !same(got.Moves, want) || !slices.Equal(told, numbers) {
		t.Errorf("16.2: Tick of %q has Last %d, Epoch %d, moves %v and sends %v, want %d, %d, %v and %v", cases, got.Last, got.Epoch, got.Moves, told, last, epoch, want, numbers)
	}
	epoch = n.Epoch
	for i, c := range cases {
		owner, since, _ := claims.Of(got.Claims, slots[i])
		if c == 'n' {
			epoch++
		}
		if c == 'n' && (owner != n.Moves[i].To || since != epoch) || c != 'n' && owner != n.Id {
			t.Errorf("16.2: behind Tick of %q the slot %d is %d's since %d", cases, slots[i], owner, since)
		}
	}
	checkTick(t, n)
	checkTick(t, got)
}

// TestTickToTheEnd moves a slot with all its keys, one by one, in their order.
func TestTickToTheEnd(t *testing.T) {
	n := with(api.Move{Slot: 15495, To: 3})
	others := len(n.Db) - 3
	var order []string
	for i, k := range []string{"a", "{a}1", "{a}2"} {
		value, _ := space.Raw(n.Db, k)
		want := []api.Msg{sends(3, 15495, 21+i, k, value)}
		for range 3 {
			var msgs []api.Msg
			if n, msgs = Tick(n); !same(msgs, want) {
				t.Fatalf("16.2: Tick sends %s, want %s", tell(msgs), tell(want))
			}
		}
		order = append(order, n.Moves[0].Key)
		n = Acked(n, api.Msg{Kind: api.GAck, From: 3, To: 1, Slot: 15495, Num: 21 + i})
	}
	n, msgs := Tick(n)
	owner, since, _ := claims.Of(n.Claims, 15495)
	if len(msgs) != 0 || len(n.Moves) != 0 || owner != 3 || since != 10 || len(n.Db) != others || n.Epoch != 10 || n.Last != 23 {
		t.Errorf("16.2: at its end Tick sends %s, and is %s", tell(msgs), tell(n))
	}
	for _, p := range n.Db {
		if slot.Of(p.Key) == 15495 || slices.Contains(order, p.Key) {
			t.Errorf("16.2: the key %q has stayed", p.Key)
		}
	}
	if again, msgs := Tick(n); len(msgs) != 0 || !same(again, n) {
		t.Errorf("16.2: behind its end Tick sends %s, and is %s", tell(msgs), tell(again))
	}
}
