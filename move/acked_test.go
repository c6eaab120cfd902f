package move

import (
	"math"
	"slices"
	"testing"

	"caravan/api"
)

func ack(from, slot, num int) api.Msg {
	return api.Msg{Kind: api.GAck, From: from, To: 1, Slot: slot, Num: num}
}

// waiting is our node with three keys on their way, and two slots whose next key is not.
func waiting() api.Node {
	return with(api.Move{Slot: 0, To: 2, Num: 18, Key: ""}, api.Move{Slot: 7365, To: 3, Num: 11, Key: "c"}, api.Move{Slot: 9000, To: 2},
		api.Move{Slot: 15495, To: 2, Num: 20, Key: "{a}1"}, api.Move{Slot: 16383, To: 3})
}

func TestAckedExample(t *testing.T) {
	n := with(api.Move{Slot: 15495, To: 2, Num: 20, Key: "a"})
	for _, num := range []int{19, 21, 1, 0, -20, 1 << 52, math.MaxInt, math.MinInt} {
		if got := Acked(n, ack(2, 15495, num)); !same(got, n) {
			t.Errorf("16.4: Acked of the number %d is %s", num, tell(got))
		}
	}
}

// TestAckedWrittenOut has each of several moves.
func TestAckedWrittenOut(t *testing.T) {
	n := waiting()
	for i, m := range n.Moves {
		want := n
		if m.Num > 0 {
			want.Moves = slices.Clone(n.Moves)
			want.Moves[i] = api.Move{Slot: m.Slot, To: m.To}
			want.Db = slices.DeleteFunc(slices.Clone(n.Db), func(p api.Pair) bool { return p.Key == m.Key })
			want.Feed.Off, want.Feed.Back = 31, append(slices.Clone(n.Feed.Back), gone(m.Key))
		}
		got := Acked(n, ack(m.To, m.Slot, m.Num))
		if !same(got, want) || !valid(got) {
			t.Errorf("16.4: Acked of the move %d is\n%s, want\n%s", i, tell(got), tell(want))
		}
		// The same ack again comes too late.
		if again := Acked(got, ack(m.To, m.Slot, m.Num)); !same(again, got) {
			t.Errorf("16.4: Acked of the move %d again is\n%s, want\n%s", i, tell(again), tell(got))
		}
	}
}

// TestAckedOfOthers has all mixes of a slot, a number and a node, of which few are of a move.
func TestAckedOfOthers(t *testing.T) {
	n := waiting()
	hits := 0
	for _, slot := range []int{-1, 0, 1, 7364, 7365, 7366, 9000, 12182, 15495, 15496, 16383, 16384} {
		for num := -2; num <= 22; num++ {
			for from := -1; from <= 5; from++ {
				m := ack(from, slot, num)
				checkAcked(t, n, m)
				if !same(Acked(n, m), n) {
					hits++
				}
			}
		}
	}
	if hits != 3 {
		t.Errorf("16.4: %d acks count, want those of the three keys that are on their way", hits)
	}
}

// TestAckedOfNumbersThatAreNone has moves of such numbers, though no valid node has one below 0.
func TestAckedOfNumbersThatAreNone(t *testing.T) {
	for _, num := range []int{0, -1, -20, math.MinInt} {
		for _, k := range []string{"", "a"} {
			n := with(api.Move{Slot: 15495, To: 2, Num: num, Key: k})
			if got := Acked(n, ack(2, 15495, num)); !same(got, n) {
				t.Errorf("16.4: Acked of the number %d is %s", num, tell(got))
			}
		}
	}
}

// TestAckedOfNothing has no moves at all, and keys that are not there, though no valid node is without the key of a move.
func TestAckedOfNothing(t *testing.T) {
	if got := Acked(ours(), ack(2, 15495, 20)); !same(got, ours()) {
		t.Errorf("16.4: Acked without moves is %s", tell(got))
	}
	n := with(api.Move{Slot: 15495, To: 2, Num: 20, Key: "{a}7"})
	want := with(api.Move{Slot: 15495, To: 2})
	want.Feed.Off, want.Feed.Back = 31, append(want.Feed.Back, gone("{a}7"))
	if got := Acked(n, ack(2, 15495, 20)); !same(got, want) {
		t.Errorf("16.4: Acked of a key that is not there is\n%s, want\n%s", tell(got), tell(want))
	}
}

// TestAckedKeepsOtherKeys of the same slot, and all of the others.
func TestAckedKeepsOtherKeys(t *testing.T) {
	for i, p := range ours().Db {
		n := ours()
		n.Claims = []api.Claim{{From: 0, To: 16383, Node: 1, Epoch: 1}}
		n.Moves = []api.Move{{Slot: brings(2, 1, p.Key, text("")).Slot, To: 0, Num: 13, Key: p.Key}}
		got := Acked(n, ack(0, n.Moves[0].Slot, 13))
		if !same(got.Db, slices.Delete(slices.Clone(n.Db), i, i+1)) {
			t.Errorf("16.4: behind Acked of %q the space is %s", p.Key, tell(got.Db))
		}
		checkAcked(t, n, ack(0, n.Moves[0].Slot, 13))
	}
}
