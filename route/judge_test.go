package route

import (
	"fmt"
	"math/rand/v2"
	"slices"
	"strings"

	"caravan/api"
	"caravan/slot"
	"caravan/space"
)

// decided is what Decide is to reply: the six cases as the chapter has them, and each thing looked for from the begin to the end.
func decided(n api.Node, keys []string, asking bool) string {
	if len(keys) == 0 {
		return ""
	}
	of := slot.Of(keys[0])
	for _, key := range keys {
		if slot.Of(key) != of {
			return "CROSSSLOT"
		}
	}
	owner := -1
	for _, c := range n.Claims {
		if c.From <= of && of <= c.To {
			owner = c.Node
		}
	}
	if owner == -1 {
		return "CLUSTERDOWN"
	}
	if n.Master != -1 || owner != n.Id {
		if n.Master == -1 && asking {
			return ""
		}
		return fmt.Sprintf("MOVED %d %d", of, owner)
	}
	for _, m := range n.Moves {
		if m.Slot != of {
			continue
		}
		if m.Num > 0 && slices.Contains(keys, m.Key) {
			return "TRYAGAIN"
		}
		switch had(n.Db, keys) {
		case len(keys):
			return ""
		case 0:
			return fmt.Sprintf("ASK %d %d", of, m.To)
		}
		return "TRYAGAIN"
	}
	return ""
}

// had counts the keys that the space has.
func had(db []api.Pair, keys []string) int {
	n := 0
	for _, key := range keys {
		for _, p := range db {
			if p.Key == key {
				n++
			}
		}
	}
	return n
}

// reading is what Read answers.
type reading struct {
	word       string
	slot, node int
}

func read(s string) reading {
	word, slot, node := Read(s)
	return reading{word, slot, node}
}

// readings are all texts of which Read answers something, with what it is.
func readings() map[string]reading {
	all := map[string]reading{}
	for _, word := range []string{"MOVED", "ASK"} {
		for slot := range 16384 {
			for node := range 8 {
				all[fmt.Sprintf("%s %d %d", word, slot, node)] = reading{word, slot, node}
			}
		}
	}
	return all
}

// holding is the space of such keys, with items of all Kinds by turns; the items of keys with a d in them are no longer alive at any time above 1.
func holding(keys ...string) []api.Pair {
	kinds := []api.Item{
		{Kind: api.KText, S: "1"},
		{Kind: api.KHash, F: []api.Field{{Name: "f", Val: "1"}}},
		{Kind: api.KList, L: []string{"x", "x"}},
		{Kind: api.KSet, L: []string{"x", "y"}},
	}
	var db []api.Pair
	for n, key := range keys {
		i := kinds[n%len(kinds)]
		if strings.Contains(key, "d") {
			i.Exp = 1
		}
		db = space.Apply(db, api.Effect{Key: key, Item: i})
	}
	return db
}

// of is a list of claims since epoch 1: the From, To and Node of each.
func of(n ...int) []api.Claim {
	var l []api.Claim
	for i := 0; i+2 < len(n); i += 3 {
		l = append(l, api.Claim{From: n[i], To: n[i+1], Node: n[i+2], Epoch: 1})
	}
	return l
}

// lists are all lists of up to so many of the keys, the same one again too.
func lists(most int, keys ...string) [][]string {
	all, last := [][]string{nil}, [][]string{nil}
	for range most {
		var longer [][]string
		for _, l := range last {
			for _, key := range keys {
				longer = append(longer, append(slices.Clone(l), key))
			}
		}
		all, last = append(all, longer...), longer
	}
	return all
}

// subsets are all lists of some of the keys, in their order.
func subsets(keys ...string) [][]string {
	all := [][]string{nil}
	for _, key := range keys {
		for _, l := range all {
			all = append(all, append(slices.Clone(l), key))
		}
	}
	return all
}

// without is the keys of the first list that are not in the second.
func without(keys, other []string) []string {
	var l []string
	for _, key := range keys {
		if !slices.Contains(other, key) {
			l = append(l, key)
		}
	}
	return l
}

// anyNode is a node of any kind with valid Claims and Db, with something to do with the keys.
func anyNode(r *rand.Rand, keys []string) api.Node {
	n := api.Node{Count: 8, Id: r.IntN(8), Master: -1, Epoch: 1 + r.IntN(9)}
	if r.IntN(4) == 0 {
		n.Master = r.IntN(8)
	}
	for from := r.IntN(9) * r.IntN(999); from < api.Slots; {
		last := min(from+r.IntN(6000), api.Slots-1)
		n.Claims = append(n.Claims, api.Claim{From: from, To: last, Node: r.IntN(8), Epoch: 1 + len(n.Claims)})
		if r.IntN(3) > 0 {
			n.Claims[len(n.Claims)-1].Node = n.Id
		}
		from = last + 1 + r.IntN(2)*r.IntN(900)
	}
	for range r.IntN(5) {
		m := api.Move{Slot: slot.Of(keys[r.IntN(len(keys))]), To: r.IntN(8)}
		if r.IntN(2) == 0 {
			m.Num, m.Key = r.IntN(3), keys[r.IntN(len(keys))]
		}
		n.Moves = append(n.Moves, m)
	}
	var some []string
	for _, key := range keys {
		if r.IntN(2) == 0 {
			some = append(some, key)
		}
	}
	n.Db = holding(some...)
	return n
}
