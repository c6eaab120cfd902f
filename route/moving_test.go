package route

import (
	"slices"
	"testing"

	"caravan/api"
	"caravan/claims"
	"caravan/space"
)

// pair is an owner of slot 15495, which moves, and the node to which it goes.
type pair struct{ owner, other api.Node }

func moving(here, there []string, num int, onWay string) pair {
	all := of(0, 16383, 3)
	return pair{
		owner: api.Node{Count: 8, Id: 3, Master: -1, Claims: all, Db: holding(here...), Moves: []api.Move{{Slot: 15495, To: 5, Num: num, Key: onWay}}},
		other: api.Node{Count: 8, Id: 5, Master: -1, Claims: all, Db: holding(there...)},
	}
}

// answers is the node that answers the call which was sent to the owner, by what the nodes reply (-1: it is to be tried again).
func (p pair) answers(t *testing.T, keys []string) int {
	t.Helper()
	reply := Decide(p.owner, keys, false)
	if reply == "" {
		return p.owner.Id
	}
	if reply == "TRYAGAIN" {
		return -1
	}
	word, slot, node := Read(reply)
	if slot != 15495 || node != p.other.Id {
		t.Fatalf("14.3: the owner replies %q to %q", reply, keys)
	}
	if reply := Decide(p.other, keys, word == "ASK"); reply != "" {
		t.Fatalf("14.3: the other node replies %q to %q, sent on by %s", reply, keys, word)
	}
	return node
}

// TestTheOwnerAnswersForWhatItHas and the other node for the rest, whichever of the keys have gone there already.
func TestTheOwnerAnswersForWhatItHas(t *testing.T) {
	known := []string{"a", "{a}", "{a}1", "{a}d"}
	calls := lists(3, append(slices.Clone(known), "{a}nix", "x{a}y")...)[1:]
	for _, here := range subsets(known...) {
		p := moving(here, without(known, here), 0, "")
		for _, keys := range calls {
			want := -1
			switch had(p.owner.Db, keys) {
			case len(keys):
				want = 3
			case 0:
				want = 5
			}
			if got := p.answers(t, keys); got != want {
				t.Fatalf("14.3: %q is answered by %d, not %d, where the owner has %q", keys, got, want, here)
			}
			if got := Decide(p.owner, keys, true); got != Decide(p.owner, keys, false) {
				t.Fatalf("14.3: the owner replies %q to %q where it is asked behind an ASK", got, keys)
			}
			// The other node answers only what was sent on to it.
			if got := Decide(p.other, keys, false); got != "MOVED 15495 3" {
				t.Fatalf("14.3: the other node replies %q to %q", got, keys)
			}
		}
	}
}

// TestAKeyOnItsWayIsAnsweredByNobody until it is known to have come there.
func TestAKeyOnItsWayIsAnsweredByNobody(t *testing.T) {
	known := []string{"a", "{a}", "{a}1", "{a}d"}
	calls := lists(3, append(slices.Clone(known), "{a}nix")...)[1:]
	for _, here := range subsets(known...) {
		for _, onWay := range here {
			// Whether it has come there already or not.
			for _, there := range [][]string{without(known, here), append(without(known, here), onWay)} {
				p := moving(here, there, 7, onWay)
				still := moving(here, there, 0, "")
				for _, keys := range calls {
					want := -1
					if !slices.Contains(keys, onWay) {
						want = still.answers(t, keys)
					}
					if got := p.answers(t, keys); got != want {
						t.Fatalf("14.3: %q is answered by %d, not %d, where the owner has %q and %q is on its way", keys, got, want, here, onWay)
					}
				}
			}
		}
	}
}

// TestASlotMovesKeyByKey goes from the first key to the last one, and then gives the slot away.
func TestASlotMovesKeyByKey(t *testing.T) {
	known := []string{"a", "{a}", "{a}1", "{a}d"}
	p := moving(known, nil, 0, "")
	m := &p.owner.Moves[0]
	check := func(key string, want int) {
		t.Helper()
		if got := p.answers(t, []string{key}); got != want {
			t.Errorf("14.3: %q is answered by %d, not %d, where the owner has %q", key, got, want, space.In(p.owner.Db, 15495))
		}
	}
	for n, key := range space.In(p.owner.Db, 15495) {
		for _, other := range known {
			if _, here := space.Raw(p.owner.Db, other); here {
				check(other, 3)
			} else {
				check(other, 5)
			}
		}
		check("{a}nix", 5)
		m.Num, m.Key = n+1, key
		check(key, -1)
		i, _ := space.Raw(p.owner.Db, key)
		p.other.Db = space.Apply(p.other.Db, api.Effect{Key: key, Item: i})
		check(key, -1)
		check("{a}nix", 5)
		p.owner.Db = space.Apply(p.owner.Db, api.Effect{Key: key, Gone: true})
		check(key, -1)
		m.Num, m.Key = 0, ""
		check(key, 5)
	}
	for _, keys := range lists(2, append(known, "{a}nix")...)[1:] {
		if got := p.answers(t, keys); got != 5 {
			t.Errorf("14.3: %q is answered by %d, where all keys have gone", keys, got)
		}
	}
	to := []api.Span{{From: 15495, To: 15495}}
	p.owner.Moves, p.owner.Claims = nil, claims.Give(p.owner.Claims, to, 5, 2)
	if got := Decide(p.owner, known, false); got != "MOVED 15495 5" {
		t.Errorf("14.3: the node that has given the slot replies %q", got)
	}
	p.other.Claims = claims.Join(p.other.Claims, p.owner.Claims)
	if got := Decide(p.other, known, false); got != "" {
		t.Errorf("14.3: the node that has got the slot replies %q", got)
	}
}
