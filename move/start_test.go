package move

import (
	"math"
	"slices"
	"testing"

	"caravan/api"
)

func TestStartExample(t *testing.T) {
	n, e := Start(ours(), 15495, 2)
	if e != api.OK {
		t.Fatalf("16.1: the first Start is %d", e)
	}
	if again, e := Start(n, 15495, 2); e != api.ErrHave || !same(again, n) {
		t.Errorf("16.1: the second Start of the same slot is %d, and %s", e, tell(again))
	}
}

// TestStartWrittenOut goes by node 1 of 4, which owns 0, 5000 to 9999, and 10010 and above but for 12182.
func TestStartWrittenOut(t *testing.T) {
	replica := ours()
	replica.Master = 0
	begun := with(api.Move{Slot: 9000, To: 2, Num: 4, Key: "k"})
	// No such node is valid, but only so there is more than one error.
	odd := begun
	odd.Master = 3
	foreign := with(api.Move{Slot: 3300, To: 2}, api.Move{Slot: 10005, To: 3})
	first := ours()
	first.Id = 0
	for _, c := range []struct {
		name     string
		n        api.Node
		slot, to int
		want     api.Errno
	}{
		{"a slot below 0", ours(), -1, 2, api.ErrArg},
		{"a slot far below 0", ours(), math.MinInt, 2, api.ErrArg},
		{"the slot behind the last", ours(), 16384, 2, api.ErrArg},
		{"a slot far behind the last", ours(), math.MaxInt, 2, api.ErrArg},
		{"To below 0", ours(), 9000, -1, api.ErrArg},
		{"To far below 0", ours(), 9000, math.MinInt, api.ErrArg},
		{"To behind the last", ours(), 9000, 4, api.ErrArg},
		{"To far behind the last", ours(), 9000, math.MaxInt, api.ErrArg},
		{"to itself", ours(), 9000, 1, api.ErrArg},
		{"the first slot", ours(), 0, 2, api.OK},
		{"the last slot", ours(), 16383, 2, api.OK},
		{"to the first node", ours(), 9000, 0, api.OK},
		{"to the last node", ours(), 9000, 3, api.OK},
		{"the first slot of a claim", ours(), 5000, 3, api.OK},
		{"the slot ahead of it", ours(), 4999, 3, api.ErrRole},
		{"the last slot of a claim", ours(), 9999, 3, api.OK},
		{"the slot behind it", ours(), 10000, 3, api.ErrRole},
		{"the first slot of the node 0", first, 1, 3, api.OK},
		{"another node's", ours(), 3300, 2, api.ErrRole},
		{"another node's, to that one", ours(), 3300, 0, api.ErrRole},
		{"the one that another node has between", ours(), 12182, 3, api.ErrRole},
		{"nobody's", ours(), 10005, 2, api.ErrRole},
		{"nobody's, asked of the node 0", first, 10005, 2, api.ErrRole},
		{"a replica", replica, 9000, 2, api.ErrRole},
		{"a replica, another node's", replica, 3300, 2, api.ErrRole},
		{"it moves already", begun, 9000, 2, api.ErrHave},
		{"it moves already, to another", begun, 9000, 3, api.ErrHave},
		{"the slot ahead of one that moves", begun, 8999, 2, api.OK},
		{"the slot behind one that moves", begun, 9001, 2, api.OK},
		{"a bad slot, a bad To", ours(), -1, -1, api.ErrArg},
		{"a bad slot, a replica", replica, 16384, 2, api.ErrArg},
		{"a bad To, a replica", replica, 9000, 4, api.ErrArg},
		{"a bad To, another node's", ours(), 3300, 4, api.ErrArg},
		{"a bad To, nobody's", ours(), 10005, -1, api.ErrArg},
		{"to itself, another node's", ours(), 3300, 1, api.ErrArg},
		{"to itself, a replica", replica, 9000, 1, api.ErrArg},
		{"a bad To, it moves already", begun, 9000, 4, api.ErrArg},
		{"to itself, it moves already", begun, 9000, 1, api.ErrArg},
		{"a replica, it moves already", odd, 9000, 2, api.ErrRole},
		{"another node's, it moves already", foreign, 3300, 2, api.ErrRole},
		{"nobody's, it moves already", foreign, 10005, 2, api.ErrRole},
		{"all at once", odd, 9000, 1, api.ErrArg},
	} {
		got, e := Start(c.n, c.slot, c.to)
		want := c.n
		if c.want == api.OK {
			want.Moves = with(append(slices.Clone(c.n.Moves), api.Move{Slot: c.slot, To: c.to})...).Moves
		}
		if e != c.want || !same(got, want) {
			t.Errorf("16.1: Start, %s, is %d, want %d, and\n%s, want\n%s", c.name, e, c.want, tell(got), tell(want))
		}
		checkStart(t, c.n, c.slot, c.to)
	}
}

// TestStartOfAllPlaces has Moves of all lengths up to four, and a slot ahead of them, behind them and in each place between.
func TestStartOfAllPlaces(t *testing.T) {
	slots := []int{0, 5000, 5001, 9999, 10010, 16382, 16383}
	for mask := range 1 << len(slots) {
		var l []api.Move
		for i, s := range slots {
			if mask>>i&1 == 1 {
				l = append(l, api.Move{Slot: s, To: 3, Num: i, Key: "k"})
			}
		}
		n := with(l...)
		for i, s := range slots {
			got, e := Start(n, s, 2)
			want, wantErrno := n, api.ErrHave
			if mask>>i&1 == 0 {
				want, wantErrno = with(append(slices.Clone(l), api.Move{Slot: s, To: 2})...), api.OK
			}
			if e != wantErrno || !same(got, want) {
				t.Errorf("16.1: Start of %d beside %v is %d, %v", s, l, e, got.Moves)
			}
		}
	}
}

// TestStartOneAfterTheOther has five slots in all orders.
func TestStartOneAfterTheOther(t *testing.T) {
	slots := []int{0, 6000, 7000, 9000, 16383}
	want := with(api.Move{Slot: 0, To: 2}, api.Move{Slot: 6000, To: 3}, api.Move{Slot: 7000, To: 0}, api.Move{Slot: 9000, To: 2}, api.Move{Slot: 16383, To: 0})
	count := 0
	var walk func(n api.Node)
	walk = func(n api.Node) {
		if len(n.Moves) == len(slots) {
			count++
			if !same(n, want) {
				t.Errorf("16.1: the moves are %v", n.Moves)
			}
			return
		}
		for i, s := range slots {
			next, e := Start(n, s, want.Moves[i].To)
			if e == api.OK {
				walk(next)
			} else if !same(next, n) {
				t.Errorf("16.1: beside the errno %d the moves are %v, from %v", e, next.Moves, n.Moves)
			}
		}
	}
	walk(ours())
	if count != 120 {
		t.Errorf("16.1: %d orders of 120 came to their end", count)
	}
}

// TestStartOfAllNodes has each Id of each Count, and all To's around.
func TestStartOfAllNodes(t *testing.T) {
	for count := 1; count <= 8; count++ {
		for id := range count {
			for master := -1; master < count; master++ {
				n := api.Node{Count: count, Id: id, Master: master, Claims: []api.Claim{{From: 10, To: 20, Node: id, Epoch: 1}, {From: 21, To: 30, Node: (id + 1) % count, Epoch: 2}}}
				for to := -2; to <= count+1; to++ {
					for _, s := range []int{-1, 0, 9, 10, 20, 21, 30, 31} {
						checkStart(t, n, s, to)
					}
				}
			}
		}
	}
}
