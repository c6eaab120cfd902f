package claims

import (
	"math"
	"slices"
	"testing"

	"caravan/api"
	"caravan/spans"
)

func TestMay(t *testing.T) {
	for _, c := range []struct {
		name string
		l    []api.Claim
		want bool
	}{
		{"nil", nil, true},
		{"no claims", []api.Claim{}, true},
		{"slot 0", of(0, 0, 0, 1), true},
		{"the last slot", of(16383, 16383, 0, 1), true},
		{"all slots", of(0, 16383, 0, 1), true},
		{"From at -1", of(-1, 5, 0, 1), false},
		{"From at -1 and To, too", of(-1, -1, 0, 1), false},
		{"To below From", of(5, 4, 0, 1), false},
		{"To far below From", of(5, -5, 0, 1), false},
		{"To at Slots", of(0, 16384, 0, 1), false},
		{"From at Slots", of(16384, 16384, 0, 1), false},
		{"the least ints", of(math.MinInt, math.MinInt, 0, 1), false},
		{"the greatest ints", of(math.MaxInt, math.MaxInt, 0, 1), false},
		{"from the least to the greatest int", of(math.MinInt, math.MaxInt, 0, 1), false},
		{"from the greatest to the least int", of(math.MaxInt, math.MinInt, 0, 1), false},
		{"Node at -1", of(0, 5, -1, 1), false},
		{"Node at the last one", of(0, 5, 7, 1), true},
		{"Node at MaxNodes", of(0, 5, 8, 1), false},
		{"Node at the least int", of(0, 5, math.MinInt, 1), false},
		{"Node at the greatest int", of(0, 5, math.MaxInt, 1), false},
		{"Epoch at -1", of(0, 5, 0, -1), false},
		{"Epoch at 0", of(0, 5, 0, 0), false},
		{"Epoch at the greatest one", of(0, 5, 0, 9007199254740992), true},
		{"Epoch beyond the greatest one", of(0, 5, 0, 9007199254740993), false},
		{"Epoch at the least int", of(0, 5, 0, math.MinInt), false},
		{"Epoch at the greatest int", of(0, 5, 0, math.MaxInt), false},
		{"the zero claim", of(0, 0, 0, 0), false},
		{"adjacent and alike", of(0, 5, 1, 2, 6, 9, 1, 2), false},
		{"adjacent with another Node", of(0, 5, 1, 2, 6, 9, 0, 2), true},
		{"adjacent with another Epoch", of(0, 5, 1, 2, 6, 9, 1, 1), true},
		{"adjacent with both other", of(0, 5, 1, 2, 6, 9, 2, 1), true},
		{"one slot between, alike", of(0, 5, 1, 2, 7, 9, 1, 2), true},
		{"overlapping by a slot", of(0, 5, 1, 2, 5, 9, 2, 1), false},
		{"overlapping, alike", of(0, 5, 1, 2, 3, 9, 1, 2), false},
		{"one within the other", of(0, 9, 1, 2, 3, 4, 2, 1), false},
		{"twice", of(0, 9, 1, 2, 0, 9, 1, 2), false},
		{"one From", of(0, 5, 1, 2, 0, 9, 2, 2), false},
		{"out of order", of(6, 9, 1, 2, 0, 4, 2, 1), false},
		{"out of order, adjacent", of(6, 9, 1, 2, 0, 5, 2, 1), false},
		{"both ends", of(0, 0, 1, 2, 16383, 16383, 1, 2), true},
		{"the third is adjacent and alike", of(0, 1, 0, 1, 3, 4, 1, 1, 5, 6, 1, 1), false},
		{"the third is as the first", of(0, 1, 0, 1, 2, 4, 1, 1, 5, 6, 0, 1), true},
		{"the third is out of order", of(4, 5, 0, 1, 8, 9, 1, 1, 6, 7, 2, 1), false},
		{"the third overlaps", of(0, 1, 0, 1, 3, 5, 1, 1, 5, 6, 2, 1), false},
		{"the last ends at Slots", of(0, 1, 0, 1, 3, 16384, 1, 1), false},
		{"the last is of Node 8", of(0, 1, 0, 1, 3, 4, 8, 1), false},
		{"the last is of Epoch 0", of(0, 1, 0, 1, 3, 4, 1, 0), false},
		{"the first is from -1", of(-1, 1, 0, 1, 3, 4, 1, 1), false},
		{"the first is of Node -1", of(0, 1, -1, 1, 3, 4, 1, 1), false},
		{"behind the greatest int", of(0, math.MaxInt, 0, 1, 3, 4, 1, 1), false},
		{"behind the greatest int, the least one", of(0, math.MaxInt, 0, 1, math.MinInt, 4, 0, 1), false},
		{"a claim a slot", each(2, 1), true},
		{"a claim a slot, Epochs by turns", each(1, 2), true},
		{"a claim a slot, all alike", each(1, 1), false},
	} {
		if ok := May(c.l); ok != c.want {
			t.Errorf("13.1: May of %s, %s, is %v", c.name, told(c.l), ok)
		}
		if ok := valid(c.l); ok != c.want {
			t.Errorf("the judge says %v of %s, %s", ok, c.name, told(c.l))
		}
	}
}

// TestMayIsThatOfTheWords takes all claims of numbers at which something changes, alone and in pairs.
func TestMayIsThatOfTheWords(t *testing.T) {
	ints := []int{math.MinInt, -1, 0, 1, 2, 7, 8, 16382, 16383, 16384, 1 << 53, 1<<53 + 1, math.MaxInt}
	for _, from := range ints {
		for _, last := range ints {
			for _, node := range ints {
				for _, epoch := range ints {
					if l := of(from, last, node, epoch); May(l) != valid(l) {
						t.Fatalf("13.1: May of %s is %v", told(l), May(l))
					}
				}
			}
		}
	}
	var singles [][]api.Claim
	for from := range 4 {
		for last := range 4 {
			for _, o := range []owner{{1, 1}, {1, 2}, {2, 1}} {
				singles = append(singles, of(from+16380, last+16380, o.node, o.epoch))
			}
		}
	}
	for _, a := range singles {
		for _, b := range singles {
			if l := slices.Concat(a, b); May(l) != valid(l) {
				t.Fatalf("13.1: May of %s is %v", told(l), May(l))
			}
		}
	}
}

func TestOf(t *testing.T) {
	l := of(0, 9, 1, 1, 10, 10, 2, 5, 20, 29, 0, 7, 30, 31, 0, 8, 16383, 16383, 7, 1<<53)
	for _, c := range []struct {
		slot, node, epoch int
		ok                bool
	}{
		{math.MinInt, 0, 0, false}, {-1, 0, 0, false}, {0, 1, 1, true}, {5, 1, 1, true}, {9, 1, 1, true}, {10, 2, 5, true},
		{11, 0, 0, false}, {19, 0, 0, false}, {20, 0, 7, true}, {29, 0, 7, true}, {30, 0, 8, true}, {31, 0, 8, true}, {32, 0, 0, false},
		{16382, 0, 0, false}, {16383, 7, 1 << 53, true}, {16384, 0, 0, false}, {math.MaxInt, 0, 0, false},
	} {
		if node, epoch, ok := Of(l, c.slot); node != c.node || epoch != c.epoch || ok != c.ok {
			t.Errorf("13.1: Of %d is %d, %d, %v", c.slot, node, epoch, ok)
		}
		if node, epoch, ok := Of(nil, c.slot); node != 0 || epoch != 0 || ok {
			t.Errorf("13.1: Of %d without claims is %d, %d, %v", c.slot, node, epoch, ok)
		}
		all := c.slot >= 0 && c.slot < 16384
		if node, epoch, ok := Of(of(0, 16383, 3, 5), c.slot); ok != all || ok && (node != 3 || epoch != 5) || !ok && (node != 0 || epoch != 0) {
			t.Errorf("13.1: Of %d where one has all slots is %d, %d, %v", c.slot, node, epoch, ok)
		}
	}
	for _, l := range append(lists(1, 150), each(8, 3)) {
		for n, o := range painted(l) {
			if node, epoch, ok := Of(l, n); node != o.node || epoch != o.epoch || ok != (o.epoch > 0) {
				t.Fatalf("13.1: Of %d in %s is %d, %d, %v", n, told(l), node, epoch, ok)
			}
		}
	}
}

func TestJoinOfKnownLists(t *testing.T) {
	for _, c := range []struct {
		name       string
		a, b, want []api.Claim
	}{
		{"nothing", nil, nil, nil},
		{"nothing, made", []api.Claim{}, nil, nil},
		{"one and nothing", of(0, 9, 1, 1), nil, of(0, 9, 1, 1)},
		{"the same", of(0, 9, 1, 1), of(0, 9, 1, 1), of(0, 9, 1, 1)},
		{"apart", of(0, 4, 1, 1), of(6, 9, 1, 1), of(0, 4, 1, 1, 6, 9, 1, 1)},
		{"the ends of all", of(0, 0, 1, 1), of(16383, 16383, 1, 1), of(0, 0, 1, 1, 16383, 16383, 1, 1)},
		{"adjacent and alike", of(0, 4, 1, 1), of(5, 9, 1, 1), of(0, 9, 1, 1)},
		{"adjacent, another Node", of(0, 4, 1, 1), of(5, 9, 2, 1), of(0, 4, 1, 1, 5, 9, 2, 1)},
		{"adjacent, another Epoch", of(0, 4, 1, 1), of(5, 9, 1, 2), of(0, 4, 1, 1, 5, 9, 1, 2)},
		{"the chapter's", of(0, 9, 1, 1), of(5, 14, 2, 2), of(0, 4, 1, 1, 5, 14, 2, 2)},
		{"overlapping, the first newer", of(0, 9, 1, 2), of(5, 14, 2, 1), of(0, 9, 1, 2, 10, 14, 2, 1)},
		{"overlapping, alike", of(0, 9, 1, 2), of(5, 14, 1, 2), of(0, 14, 1, 2)},
		{"overlapping, one Epoch", of(0, 9, 1, 2), of(5, 14, 2, 2), of(0, 4, 1, 2, 5, 14, 2, 2)},
		{"overlapping, one Node", of(0, 9, 1, 3), of(5, 14, 1, 2), of(0, 9, 1, 3, 10, 14, 1, 2)},
		{"a greater Epoch against a greater Node", of(0, 9, 0, 2), of(0, 9, 7, 1), of(0, 9, 0, 2)},
		{"the greatest Epochs", of(0, 9, 0, 1<<53), of(0, 9, 7, 1<<53-1), of(0, 9, 0, 1<<53)},
		{"within, newer", of(0, 9, 1, 1), of(3, 4, 2, 2), of(0, 2, 1, 1, 3, 4, 2, 2, 5, 9, 1, 1)},
		{"within, older", of(0, 9, 1, 2), of(3, 4, 2, 1), of(0, 9, 1, 2)},
		{"within, one Epoch and a greater Node", of(0, 9, 1, 1), of(3, 4, 2, 1), of(0, 2, 1, 1, 3, 4, 2, 1, 5, 9, 1, 1)},
		{"within, one Epoch and a lesser Node", of(0, 9, 2, 1), of(3, 4, 1, 1), of(0, 9, 2, 1)},
		{"within, alike", of(0, 9, 2, 1), of(3, 4, 2, 1), of(0, 9, 2, 1)},
		{"one begin", of(0, 9, 1, 1), of(0, 3, 2, 2), of(0, 3, 2, 2, 4, 9, 1, 1)},
		{"one end", of(0, 9, 1, 1), of(7, 9, 2, 2), of(0, 6, 1, 1, 7, 9, 2, 2)},
		{"a bridge between two", of(0, 4, 1, 1, 8, 9, 1, 1), of(3, 8, 1, 1), of(0, 9, 1, 1)},
		{"what lies between two", of(0, 4, 1, 1, 8, 9, 1, 1), of(5, 7, 1, 1), of(0, 9, 1, 1)},
		{"what was between two is theirs", of(0, 4, 1, 2, 5, 7, 2, 1, 8, 9, 1, 2), of(5, 7, 1, 2), of(0, 9, 1, 2)},
		{"many against one that is newer", of(0, 1, 1, 1, 2, 3, 2, 1, 5, 6, 1, 1, 9, 12, 0, 1), of(1, 10, 3, 2), of(0, 0, 1, 1, 1, 10, 3, 2, 11, 12, 0, 1)},
		{"many against one that is older", of(0, 1, 1, 2, 2, 3, 2, 2, 5, 6, 1, 2, 9, 12, 0, 2), of(1, 10, 3, 1), of(0, 1, 1, 2, 2, 3, 2, 2, 4, 4, 3, 1, 5, 6, 1, 2, 7, 8, 3, 1, 9, 12, 0, 2)},
		{"newer ones at both ends of all", of(0, 16383, 0, 5), of(0, 0, 1, 6, 16383, 16383, 1, 6), of(0, 0, 1, 6, 1, 16382, 0, 5, 16383, 16383, 1, 6)},
		{"a greater Node in a part of it", of(0, 2, 1, 3, 3, 5, 2, 3), of(0, 5, 1, 3), of(0, 2, 1, 3, 3, 5, 2, 3)},
		{"all of Node 0", of(0, 4, 0, 1), of(5, 9, 0, 1), of(0, 9, 0, 1)},
		{"Node 0, the newer, over Node 1", of(0, 16383, 1, 1), of(0, 16383, 0, 2), of(0, 16383, 0, 2)},
	} {
		if got := Join(c.a, c.b); !slices.Equal(got, c.want) {
			t.Errorf("13.1: Join of %s, %s and %s, is %s, want %s", c.name, told(c.a), told(c.b), told(got), told(c.want))
		}
		if got := Join(c.b, c.a); !slices.Equal(got, c.want) {
			t.Errorf("13.2: Join of %s, %s and %s, is %s, want %s", c.name, told(c.b), told(c.a), told(got), told(c.want))
		}
	}
}

// checkJoin holds Join of two valid lists against the slots themselves.
func checkJoin(t *testing.T, a, b []api.Claim) {
	t.Helper()
	got, want := Join(a, b), painted(a).joined(painted(b)).list()
	if !slices.Equal(got, want) {
		t.Fatalf("13.1: Join of %s and %s is %s, want %s", told(a), told(b), told(got), told(want))
	}
	if !May(got) {
		t.Fatalf("13.1: Join of %s and %s is %s, not valid", told(a), told(b), told(got))
	}
	if other := Join(b, a); !slices.Equal(other, got) {
		t.Fatalf("13.2: Join of %s and %s is %s, and in the other order %s", told(a), told(b), told(got), told(other))
	}
	for _, more := range [][]api.Claim{a, b, got} {
		if other := Join(got, more); !slices.Equal(other, got) {
			t.Fatalf("13.2: Join of %s and %s is %s, and joined with %s again %s", told(a), told(b), told(got), told(more), told(other))
		}
	}
}

func TestJoinIsThatOfTheWords(t *testing.T) {
	mixed := append(lists(2, 40), each(8, 3), each(3, 4), of(100, 16000, 5, 2))
	for _, all := range [][][]api.Claim{rows(0, 2, "-abAB"), rows(api.Slots-2, 2, "-abAB"), rows(7, 3, "-abA"), mixed} {
		for _, a := range all {
			for _, b := range all {
				checkJoin(t, a, b)
			}
		}
	}
}

// TestAllWhoHaveJoinedTheSameHaveTheSame takes three lists in all orders and groupings.
func TestAllWhoHaveJoinedTheSameHaveTheSame(t *testing.T) {
	all := rows(4, 3, "-abA")
	for i, a := range all {
		if !slices.Equal(Join(a, a), a) {
			t.Fatalf("13.2: Join of %s and itself is %s", told(a), told(Join(a, a)))
		}
		for j, b := range all[:i+1] {
			for _, c := range all[:j+1] {
				checkThree(t, a, b, c)
			}
		}
	}
	mixed := lists(3, 16)
	for _, a := range mixed {
		for _, b := range mixed {
			for _, c := range mixed {
				checkThree(t, a, b, c)
			}
		}
	}
}

func checkThree(t *testing.T, a, b, c []api.Claim) {
	t.Helper()
	want := Join(Join(a, b), c)
	for _, l := range [][3][]api.Claim{{a, b, c}, {a, c, b}, {b, a, c}, {b, c, a}, {c, a, b}, {c, b, a}} {
		left, right := Join(Join(l[0], l[1]), l[2]), Join(l[0], Join(l[1], l[2]))
		if !slices.Equal(left, want) || !slices.Equal(right, want) {
			t.Fatalf("13.2: Join of %s, %s and %s is %s, %s or %s", told(l[0]), told(l[1]), told(l[2]), told(want), told(left), told(right))
		}
	}
	if again := Join(Join(want, b), Join(a, Join(c, a))); !slices.Equal(again, want) {
		t.Fatalf("13.2: Join of %s, %s and %s is %s, and again %s", told(a), told(b), told(c), told(want), told(again))
	}
}

// TestAllWhoHearOfAllHaveTheSame lets lists go from one to another until nobody learns anything more.
func TestAllWhoHearOfAllHaveTheSame(t *testing.T) {
	var want []api.Claim
	first := lists(4, 20)
	for _, l := range first {
		want = Join(l, want)
	}
	for _, step := range []int{1, 3, 7} {
		all := slices.Clone(first)
		for range len(all) {
			for i := range all {
				j := (i*step + 1) % len(all)
				all[i], all[j] = Join(all[i], all[j]), Join(all[j], all[i])
			}
			for i := range len(all) - 1 {
				all[i+1] = Join(all[i], all[i+1])
			}
		}
		for i, l := range all {
			if !slices.Equal(l, want) {
				t.Fatalf("13.2: number %d has %s, want %s", i, told(l), told(want))
			}
		}
	}
}

func TestGiveOfKnownLists(t *testing.T) {
	l := of(0, 9, 1, 1, 20, 29, 2, 5)
	for _, c := range []struct {
		name        string
		l           []api.Claim
		s           []api.Span
		node, epoch int
		want        []api.Claim
	}{
		{"nothing of nothing", nil, nil, 3, 9, nil},
		{"nothing", l, nil, 3, 9, l},
		{"nothing, made", l, []api.Span{}, 3, 9, l},
		{"the chapter's", of(0, 9, 1, 1), to(5, 5), 3, 9, of(0, 4, 1, 1, 5, 5, 3, 9, 6, 9, 1, 1)},
		{"of no claims", nil, to(5, 5), 1, 1, of(5, 5, 1, 1)},
		{"the first slot", l, to(0, 0), 3, 9, of(0, 0, 3, 9, 1, 9, 1, 1, 20, 29, 2, 5)},
		{"the last slot", l, to(16383, 16383), 3, 9, of(0, 9, 1, 1, 20, 29, 2, 5, 16383, 16383, 3, 9)},
		{"all slots", l, to(0, 16383), 0, 1, of(0, 16383, 0, 1)},
		{"more than all slots", l, to(math.MinInt, math.MaxInt), 7, 1 << 53, of(0, 16383, 7, 1<<53)},
		{"an older Epoch", l, to(25, 27, 8, 12), 3, 1, of(0, 7, 1, 1, 8, 12, 3, 1, 20, 24, 2, 5, 25, 27, 3, 1, 28, 29, 2, 5)},
		{"a lesser Node and the same Epoch", l, to(20, 24), 0, 5, of(0, 9, 1, 1, 20, 24, 0, 5, 25, 29, 2, 5)},
		{"what the node has already", l, to(3, 5), 1, 1, l},
		{"what the node has already, all of it", l, to(0, 9), 1, 1, l},
		{"what the node has already, of a greater Epoch", l, to(3, 5), 1, 2, of(0, 2, 1, 1, 3, 5, 1, 2, 6, 9, 1, 1, 20, 29, 2, 5)},
		{"what the node has already, of a lesser Epoch", l, to(20, 22), 2, 4, of(0, 9, 1, 1, 20, 22, 2, 4, 23, 29, 2, 5)},
		{"what is adjacent and alike behind it", l, to(10, 12), 1, 1, of(0, 12, 1, 1, 20, 29, 2, 5)},
		{"what is adjacent and alike ahead of it", l, to(18, 19), 2, 5, of(0, 9, 1, 1, 18, 29, 2, 5)},
		{"what is adjacent of another Epoch", l, to(10, 12), 1, 2, of(0, 9, 1, 1, 10, 12, 1, 2, 20, 29, 2, 5)},
		{"all between", l, to(10, 19), 1, 1, of(0, 19, 1, 1, 20, 29, 2, 5)},
		{"all between in two", l, to(10, 14, 15, 19), 2, 5, of(0, 9, 1, 1, 10, 29, 2, 5)},
		{"a bridge between alike ones", of(0, 4, 1, 1, 8, 9, 1, 1), to(5, 7), 1, 1, of(0, 9, 1, 1)},
		{"what lies between alike ones, whose it was", of(0, 4, 1, 1, 5, 7, 2, 8, 8, 9, 1, 1), to(5, 7), 1, 1, of(0, 9, 1, 1)},
		{"over the end of one", l, to(8, 12), 3, 9, of(0, 7, 1, 1, 8, 12, 3, 9, 20, 29, 2, 5)},
		{"over both", l, to(5, 25), 3, 9, of(0, 4, 1, 1, 5, 25, 3, 9, 26, 29, 2, 5)},
		{"falling spans", l, to(25, 26, 5, 6), 3, 9, of(0, 4, 1, 1, 5, 6, 3, 9, 7, 9, 1, 1, 20, 24, 2, 5, 25, 26, 3, 9, 27, 29, 2, 5)},
		{"overlapping spans", l, to(4, 6, 5, 7, 2, 4), 3, 9, of(0, 1, 1, 1, 2, 7, 3, 9, 8, 9, 1, 1, 20, 29, 2, 5)},
		{"a span twice", l, to(5, 5, 5, 5), 3, 9, of(0, 4, 1, 1, 5, 5, 3, 9, 6, 9, 1, 1, 20, 29, 2, 5)},
		{"spans that touch", l, to(5, 5, 6, 6), 3, 9, of(0, 4, 1, 1, 5, 6, 3, 9, 7, 9, 1, 1, 20, 29, 2, 5)},
		{"To below From", l, to(9, 3), 4, 2, l},
		{"To below From, beside one that isn't", l, to(9, 3, 4, 4), 4, 2, of(0, 3, 1, 1, 4, 4, 4, 2, 5, 9, 1, 1, 20, 29, 2, 5)},
		{"outside the slots", l, to(-9, -1, 16384, 99999), 4, 2, l},
		{"partly outside the slots", l, to(-9, 0, 16383, 99999), 4, 2, of(0, 0, 4, 2, 1, 9, 1, 1, 20, 29, 2, 5, 16383, 16383, 4, 2)},
		{"the ends of the ints", l, to(math.MinInt, math.MinInt, math.MaxInt, math.MaxInt), 4, 2, l},
		{"to Node 0", l, to(0, 9), 0, 1, of(0, 9, 0, 1, 20, 29, 2, 5)},
	} {
		if got := Give(c.l, c.s, c.node, c.epoch); !slices.Equal(got, c.want) {
			t.Errorf("13.1: Give of %s, %s of %s to %d since %d, is %s, want %s", c.name, toldSpans(c.s), told(c.l), c.node, c.epoch, told(got), told(c.want))
		}
	}
}

// checkGive holds Give of any spans of a valid list against the slots themselves.
func checkGive(t *testing.T, l []api.Claim, s []api.Span, node, epoch int) {
	t.Helper()
	got, want := Give(l, s, node, epoch), painted(l).given(s, node, epoch).list()
	if !slices.Equal(got, want) {
		t.Fatalf("13.1: Give of %s of %s to %d since %d is %s, want %s", toldSpans(s), told(l), node, epoch, told(got), told(want))
	}
	if !May(got) {
		t.Fatalf("13.1: Give of %s of %s to %d since %d is %s, not valid", toldSpans(s), told(l), node, epoch, told(got))
	}
}

func TestGiveIsThatOfTheWords(t *testing.T) {
	for _, from := range []int{0, api.Slots - 3} {
		for _, l := range rows(from, 3, "-abA") {
			for first := from - 1; first <= from+3; first++ {
				for last := first - 1; last <= from+3; last++ {
					checkGive(t, l, to(first, last), 1, 1)
					checkGive(t, l, to(last, last, first, last-1), 2, 2)
				}
			}
		}
	}
	for i, l := range append(lists(5, 60), each(8, 3), each(2, 1)) {
		for j, s := range spanLists(uint64(i), 30) {
			checkGive(t, l, s, (i+j)%api.MaxNodes, []int{1, 2, 3, 1<<53 - 1, 1 << 53}[j%5])
		}
	}
}

func TestOwned(t *testing.T) {
	l := of(0, 4, 2, 1, 5, 9, 0, 1, 10, 12, 2, 7, 13, 15, 2, 8, 17, 17, 2, 8, 16383, 16383, 7, 1)
	for _, c := range []struct {
		name string
		l    []api.Claim
		node int
		want []api.Span
	}{
		{"of no claims", nil, 0, nil},
		{"adjacent claims of other Epochs", l, 2, to(0, 4, 10, 15, 17, 17)},
		{"Node 0", l, 0, to(5, 9)},
		{"a node without claims", l, 1, nil},
		{"the last slot", l, 7, to(16383, 16383)},
		{"all slots", of(0, 16383, 3, 5), 3, to(0, 16383)},
		{"all slots of another one", of(0, 16383, 3, 5), 0, nil},
		{"a claim a slot, of two Epochs", each(1, 2), 0, to(0, 16383)},
		{"no node", l, -1, nil},
		{"MaxNodes", l, 8, nil},
		{"the least int", l, math.MinInt, nil},
		{"the greatest int", l, math.MaxInt, nil},
	} {
		if got := Owned(c.l, c.node); !slices.Equal(got, c.want) {
			t.Errorf("13.1: Owned of %s, %d in %s, is %s, want %s", c.name, c.node, told(c.l), toldSpans(got), toldSpans(c.want))
		}
	}
	for _, l := range append(lists(6, 200), each(8, 3), each(3, 4)) {
		for node := -1; node <= api.MaxNodes; node++ {
			if got, want := Owned(l, node), painted(l).owned(node); !slices.Equal(got, want) || !spans.May(got) {
				t.Fatalf("13.1: Owned of %d in %s is %s, want %s", node, told(l), toldSpans(got), toldSpans(want))
			}
		}
	}
}

func TestMasters(t *testing.T) {
	for _, c := range []struct {
		name string
		l    []api.Claim
		want []int
	}{
		{"of no claims", nil, nil},
		{"of no claims, made", []api.Claim{}, nil},
		{"Node 0 alone", of(0, 9, 0, 1), []int{0}},
		{"one", of(0, 9, 7, 1), []int{7}},
		{"one twice", of(0, 9, 3, 1, 10, 12, 3, 2), []int{3}},
		{"one again behind another", of(0, 9, 3, 1, 10, 12, 1, 2, 13, 15, 3, 1), []int{1, 3}},
		{"rising", of(0, 9, 1, 1, 10, 12, 2, 2, 13, 15, 3, 1), []int{1, 2, 3}},
		{"falling", of(0, 9, 3, 1, 10, 12, 2, 2, 13, 15, 1, 3), []int{1, 2, 3}},
		{"falling by Epochs", of(0, 9, 7, 9, 20, 22, 0, 8, 30, 30, 4, 7), []int{0, 4, 7}},
		{"all of them", each(8, 1), []int{0, 1, 2, 3, 4, 5, 6, 7}},
	} {
		if got := Masters(c.l); !slices.Equal(got, c.want) {
			t.Errorf("13.1: Masters of %s, %s, is %v, want %v", c.name, told(c.l), got, c.want)
		}
	}
	for _, l := range lists(7, 200) {
		if got, want := Masters(l), painted(l).masters(); !slices.Equal(got, want) {
			t.Fatalf("13.1: Masters of %s is %v, want %v", told(l), got, want)
		}
	}
}

func TestPiecesAreOfTheSameOwners(t *testing.T) {
	a, b := of(0, 9, 1, 1, 12, 16383, 2, 2), of(5, 11, 3, 3)
	type row struct {
		piece api.Span
		of    owners
	}
	var got []row
	for piece, of := range pieces(a, b) {
		got = append(got, row{piece, of})
	}
	one, two, three := owner{1, 1}, owner{2, 2}, owner{3, 3}
	want := []row{
		{api.Span{From: 0, To: 4}, owners{first: one}},
		{api.Span{From: 5, To: 9}, owners{one, three}},
		{api.Span{From: 10, To: 11}, owners{second: three}},
		{api.Span{From: 12, To: 16383}, owners{first: two}},
	}
	if !slices.Equal(got, want) {
		t.Errorf("13.1: the pieces of %s and %s are %v", told(a), told(b), got)
	}
	// Gone through a second time, it begins anew.
	all := pieces(a, b)
	for range 2 {
		met := 0
		for range all {
			met++
		}
		if met != len(want) {
			t.Errorf("13.1: %d pieces", met)
		}
	}
	for n := range want {
		met := 0
		for piece := range all {
			if met++; piece == want[n].piece {
				break
			}
		}
		if met != n+1 {
			t.Errorf("13.1: %d pieces ahead of number %d", met-1, n)
		}
	}
}
