package route

import (
	"math"
	"math/rand/v2"
	"strconv"
	"testing"

	"caravan/api"
	"caravan/claims"
	"caravan/slot"
	"caravan/space"
)

// Keys by their slots; the tests of known calls go by them.
func TestTheKeysAreOfTheirSlots(t *testing.T) {
	for key, want := range map[string]int{
		"": 0, "la2": 0, "1bz": 0, "emj": 1, "2dd": 9, "hla": 10, "nru": 99, "tg2": 100, "8iv": 999, "u17": 1000, "lkr": 9999, "lds": 10000, "4oi": 16382, "hia": 16383, "qbi": 16383,
		"a": 15495, "{a}1": 15495, "{a}2": 15495, "{a}d": 15495, "b": 3300, "x{b}y": 3300, "c": 7365, "d": 11298,
	} {
		if got := slot.Of(key); got != want {
			t.Errorf("%q is of slot %d, not %d", key, got, want)
		}
	}
}

func TestDecideWithoutAMove(t *testing.T) {
	// Node 1 has the slots from 5000 to 16000, node 0 those ahead, and nobody those behind but the last one, which is node 2's.
	shared := of(0, 4999, 0, 5000, 16000, 1, 16383, 16383, 2)
	for _, c := range []struct {
		name       string
		id, master int
		claims     []api.Claim
		keys       []string
		asking     bool
		want       string
	}{
		{"no keys", 1, -1, shared, nil, false, ""},
		{"no keys, made", 1, -1, shared, []string{}, false, ""},
		{"no keys, asking", 1, -1, shared, nil, true, ""},
		{"no keys, nobody has a slot", 1, -1, nil, nil, false, ""},
		{"no keys, a replica", 1, 0, shared, nil, false, ""},
		{"no keys, a replica, asking", 1, 0, shared, nil, true, ""},

		{"one key", 1, -1, shared, []string{"a"}, false, ""},
		{"one key, asking", 1, -1, shared, []string{"a"}, true, ""},
		{"a key that the node does not have", 1, -1, shared, []string{"{a}nix"}, false, ""},
		{"keys of one slot by their tags", 1, -1, shared, []string{"a", "{a}1", "x{a}", "{a}2{b}"}, false, ""},
		{"one key twice", 1, -1, shared, []string{"c", "c"}, false, ""},
		{"the first slot of a claim", 0, -1, of(3300, 4000, 0), []string{"b"}, false, ""},
		{"the last slot of a claim", 0, -1, of(3000, 3300, 0), []string{"b"}, false, ""},

		{"keys of two slots", 1, -1, shared, []string{"a", "b"}, false, "CROSSSLOT"},
		{"keys of two slots of one node", 1, -1, shared, []string{"a", "c"}, false, "CROSSSLOT"},
		{"keys of two slots, asking", 1, -1, shared, []string{"a", "c"}, true, "CROSSSLOT"},
		{"keys of two slots, the last one other", 1, -1, shared, []string{"a", "{a}1", "{a}2", "c"}, false, "CROSSSLOT"},
		{"keys of two slots, the first one other", 1, -1, shared, []string{"c", "a", "{a}1", "{a}2"}, false, "CROSSSLOT"},
		{"keys of two slots, one in the middle other", 1, -1, shared, []string{"a", "c", "a"}, false, "CROSSSLOT"},
		{"keys of two slots side by side", 1, -1, shared, []string{"", "emj"}, false, "CROSSSLOT"},
		{"keys of three slots", 1, -1, shared, []string{"a", "b", "c"}, false, "CROSSSLOT"},
		{"keys of two slots that nobody has", 1, -1, nil, []string{"a", "b"}, false, "CROSSSLOT"},
		{"keys of two slots, of which nobody has the first", 0, -1, of(3300, 3300, 0), []string{"a", "b"}, false, "CROSSSLOT"},
		{"keys of two slots, of which nobody has the second", 0, -1, of(3300, 3300, 0), []string{"b", "a"}, false, "CROSSSLOT"},
		{"keys of two slots of other nodes", 2, -1, shared, []string{"a", "b"}, true, "CROSSSLOT"},
		{"keys of two slots, a replica", 1, 0, shared, []string{"a", "b"}, false, "CROSSSLOT"},

		{"nobody has any slot", 1, -1, nil, []string{"a"}, false, "CLUSTERDOWN"},
		{"nobody has any slot, asking", 1, -1, nil, []string{"a"}, true, "CLUSTERDOWN"},
		{"nobody has any slot, node 0", 0, -1, nil, []string{"a"}, false, "CLUSTERDOWN"},
		{"nobody has any slot, a replica", 1, 0, nil, []string{"a"}, false, "CLUSTERDOWN"},
		{"nobody has the slot ahead of a claim", 0, -1, of(3301, 16383, 0), []string{"b"}, false, "CLUSTERDOWN"},
		{"nobody has the slot behind a claim", 0, -1, of(0, 3299, 0), []string{"b"}, false, "CLUSTERDOWN"},
		{"nobody has the slot between two claims", 0, -1, of(0, 3299, 0, 3301, 16383, 0), []string{"b", "{b}"}, true, "CLUSTERDOWN"},
		{"nobody has slot 0", 0, -1, of(1, 16383, 0), []string{""}, false, "CLUSTERDOWN"},
		{"nobody has the last slot", 0, -1, of(0, 16382, 0), []string{"hia"}, false, "CLUSTERDOWN"},

		{"slot 0", 0, -1, shared, []string{""}, false, ""},
		{"slot 0, two keys", 0, -1, shared, []string{"", "la2"}, false, ""},
		{"slot 0 elsewhere", 1, -1, shared, []string{"la2"}, false, "MOVED 0 0"},
		{"slot 0 elsewhere, the empty key", 2, -1, shared, []string{""}, false, "MOVED 0 0"},
		{"slot 0, alone in its claim", 7, -1, of(0, 0, 7), []string{""}, false, ""},
		{"the last slot", 2, -1, shared, []string{"hia", "qbi"}, false, ""},
		{"the last slot elsewhere", 1, -1, shared, []string{"hia"}, false, "MOVED 16383 2"},
		{"the last node", 0, -1, of(0, 16383, 7), []string{"hia"}, false, "MOVED 16383 7"},

		{"the chapter's", 1, -1, shared, []string{"b"}, false, "MOVED 3300 0"},
		{"the chapter's, asking", 1, -1, shared, []string{"b"}, true, ""},
		{"the chapter's, two keys", 1, -1, shared, []string{"b", "x{b}y"}, false, "MOVED 3300 0"},
		{"slots of two to five digits", 0, -1, of(0, 16383, 3), []string{"hla"}, false, "MOVED 10 3"},
		{"one digit", 0, -1, of(0, 16383, 3), []string{"2dd"}, false, "MOVED 9 3"},
		{"three digits", 0, -1, of(0, 16383, 3), []string{"tg2"}, false, "MOVED 100 3"},
		{"four digits", 0, -1, of(0, 16383, 3), []string{"lkr"}, false, "MOVED 9999 3"},
		{"five digits", 0, -1, of(0, 16383, 3), []string{"lds"}, false, "MOVED 10000 3"},

		{"a replica of the slot's owner", 2, 1, shared, []string{"a"}, false, "MOVED 15495 1"},
		{"a replica of the slot's owner, asking", 2, 1, shared, []string{"a"}, true, "MOVED 15495 1"},
		{"a replica of another node", 2, 0, shared, []string{"a"}, false, "MOVED 15495 1"},
		{"a replica of another node, asking", 2, 0, shared, []string{"a"}, true, "MOVED 15495 1"},
		{"a replica whose slot it would be", 1, 0, shared, []string{"a"}, false, "MOVED 15495 1"},
		{"a replica whose slot it would be, asking", 1, 0, shared, []string{"a"}, true, "MOVED 15495 1"},
		{"a replica of itself", 1, 1, shared, []string{"a"}, false, "MOVED 15495 1"},
		{"a replica of itself, asking", 1, 1, shared, []string{"a"}, true, "MOVED 15495 1"},
		{"a replica of itself, another's slot", 2, 2, shared, []string{"a"}, true, "MOVED 15495 1"},
		{"node 0 a replica of itself", 0, 0, shared, []string{"b"}, true, "MOVED 3300 0"},
		{"a replica of a node below -1", 1, -2, shared, []string{"a"}, true, "MOVED 15495 1"},
		{"a replica of the least node", 1, math.MinInt, shared, []string{"a"}, false, "MOVED 15495 1"},
		{"a replica of the greatest node", 1, math.MaxInt, shared, []string{"a"}, false, "MOVED 15495 1"},
	} {
		n := api.Node{Count: 8, Id: c.id, Master: c.master, Epoch: 1, Claims: c.claims, Db: holding("a", "c", "{a}2")}
		if got := Decide(n, c.keys, c.asking); got != c.want {
			t.Errorf("14.1: Decide of %s is %q, want %q", c.name, got, c.want)
		}
		// Moves of other slots change nothing.
		n.Moves = []api.Move{{Slot: 12, To: 3}, {Slot: 16382, To: 4, Num: 5, Key: "a"}, {Slot: -1, To: 1}, {Slot: 16384, To: 1, Num: 1}}
		if got := Decide(n, c.keys, c.asking); got != c.want {
			t.Errorf("14.1: Decide of %s with other slots' moves is %q, want %q", c.name, got, c.want)
		}
		if got := decided(n, c.keys, c.asking); got != c.want {
			t.Errorf("the judge says %q of %s", got, c.name)
		}
	}
}

// TestDecideAtEachMaster has a node whose Master is each of all nodes.
func TestDecideAtEachMaster(t *testing.T) {
	for owner := range api.MaxNodes {
		for id := range api.MaxNodes {
			for master := -1; master < api.MaxNodes; master++ {
				n := api.Node{Count: 8, Id: id, Master: master, Claims: of(0, 16383, owner), Db: holding("a")}
				for _, asking := range []bool{false, true} {
					want := "MOVED 15495 " + strconv.Itoa(owner)
					if master == -1 && (id == owner || asking) {
						want = ""
					}
					if got := Decide(n, []string{"a"}, asking); got != want {
						t.Errorf("14.1: node %d that follows %d replies %q, asking %v, where node %d has the slot", id, master, got, asking, owner)
					}
				}
			}
		}
	}
}

func TestDecideWhileTheSlotMoves(t *testing.T) {
	const a = 15495
	toTwo := []api.Move{{Slot: a, To: 2}}
	for _, c := range []struct {
		name  string
		moves []api.Move
		keys  []string
		want  string
	}{
		{"no moves", nil, []string{"{a}nix"}, ""},
		{"no moves, made", []api.Move{}, []string{"{a}nix"}, ""},
		{"a move of another slot", []api.Move{{Slot: 3300, To: 2, Num: 4, Key: "a"}}, []string{"a"}, ""},
		{"a move of another slot, a key that is not here", []api.Move{{Slot: a - 1, To: 2}, {Slot: a + 1, To: 2}}, []string{"{a}nix"}, ""},

		{"the key is here", toTwo, []string{"a"}, ""},
		{"the key is here, no longer alive", toTwo, []string{"{a}d"}, ""},
		{"the key is here twice", toTwo, []string{"a", "a"}, ""},
		{"all keys are here", toTwo, []string{"a", "{a}1", "{a}2"}, ""},
		{"all keys are here, falling", toTwo, []string{"{a}2", "{a}1", "a"}, ""},
		{"all keys are here, one of them twice", toTwo, []string{"a", "{a}1", "a"}, ""},
		{"all keys are here, one no longer alive", toTwo, []string{"a", "{a}d"}, ""},
		{"all keys are here, the first no longer alive", toTwo, []string{"{a}d", "a"}, ""},

		{"the key is not here", toTwo, []string{"{a}nix"}, "ASK 15495 2"},
		{"the key is not here twice", toTwo, []string{"{a}nix", "{a}nix"}, "ASK 15495 2"},
		{"no key is here", toTwo, []string{"{a}nix", "{a}", "{a}3"}, "ASK 15495 2"},
		{"no key is here, to node 0", []api.Move{{Slot: a, To: 0}}, []string{"{a}nix"}, "ASK 15495 0"},
		{"no key is here, to the last node", []api.Move{{Slot: a, To: 7}}, []string{"{a}nix"}, "ASK 15495 7"},
		{"no key is here, to the node itself", []api.Move{{Slot: a, To: 1}}, []string{"{a}nix"}, "ASK 15495 1"},
		{"no key is here, to a node above all", []api.Move{{Slot: a, To: 8}}, []string{"{a}nix"}, "ASK 15495 8"},
		{"no key is here, to a node below 0", []api.Move{{Slot: a, To: -1}}, []string{"{a}nix"}, "ASK 15495 -1"},
		{"no key is here, to the greatest node", []api.Move{{Slot: a, To: math.MaxInt}}, []string{"{a}nix"}, "ASK 15495 9223372036854775807"},
		{"no key is here, to the least node", []api.Move{{Slot: a, To: math.MinInt}}, []string{"{a}nix"}, "ASK 15495 -9223372036854775808"},

		{"the first key is here", toTwo, []string{"a", "{a}nix"}, "TRYAGAIN"},
		{"the last key is here", toTwo, []string{"{a}nix", "a"}, "TRYAGAIN"},
		{"the middle key is here", toTwo, []string{"{a}nix", "a", "{a}nix"}, "TRYAGAIN"},
		{"the middle key is not here", toTwo, []string{"a", "{a}nix", "{a}1"}, "TRYAGAIN"},
		{"the last of many is not here", toTwo, []string{"a", "a", "a", "{a}1", "{a}2", "{a}nix"}, "TRYAGAIN"},
		{"the last of many is here", toTwo, []string{"{a}3", "{a}4", "{a}5", "{a}6", "{a}", "a"}, "TRYAGAIN"},
		{"some are here, one no longer alive", toTwo, []string{"{a}d", "{a}nix"}, "TRYAGAIN"},

		{"the key is on its way", []api.Move{{Slot: a, To: 2, Num: 1, Key: "a"}}, []string{"a"}, "TRYAGAIN"},
		{"the key is on its way by a great number", []api.Move{{Slot: a, To: 2, Num: math.MaxInt, Key: "a"}}, []string{"a"}, "TRYAGAIN"},
		{"the key is on its way, and no longer alive", []api.Move{{Slot: a, To: 2, Num: 4, Key: "{a}d"}}, []string{"{a}d"}, "TRYAGAIN"},
		{"the key is on its way and not here", []api.Move{{Slot: a, To: 2, Num: 4, Key: "{a}nix"}}, []string{"{a}nix"}, "TRYAGAIN"},
		{"the first of all is on its way", []api.Move{{Slot: a, To: 2, Num: 4, Key: "a"}}, []string{"a", "{a}1", "{a}2"}, "TRYAGAIN"},
		{"the middle one is on its way", []api.Move{{Slot: a, To: 2, Num: 4, Key: "{a}1"}}, []string{"a", "{a}1", "{a}2"}, "TRYAGAIN"},
		{"the last of all is on its way", []api.Move{{Slot: a, To: 2, Num: 4, Key: "{a}2"}}, []string{"a", "{a}1", "{a}2"}, "TRYAGAIN"},
		{"the last one is on its way, none is here", []api.Move{{Slot: a, To: 2, Num: 4, Key: "{a}nix"}}, []string{"{a}3", "{a}nix"}, "TRYAGAIN"},
		{"the first one is on its way, none is here", []api.Move{{Slot: a, To: 2, Num: 4, Key: "{a}nix"}}, []string{"{a}nix", "{a}3"}, "TRYAGAIN"},
		{"one is on its way, one is elsewhere", []api.Move{{Slot: a, To: 2, Num: 4, Key: "a"}}, []string{"a", "{a}nix"}, "TRYAGAIN"},
		{"another key is on its way", []api.Move{{Slot: a, To: 2, Num: 4, Key: "{a}1"}}, []string{"a", "{a}2"}, ""},
		{"another key is on its way, the keys are not here", []api.Move{{Slot: a, To: 2, Num: 4, Key: "{a}1"}}, []string{"{a}nix"}, "ASK 15495 2"},
		{"another key is on its way, some keys are here", []api.Move{{Slot: a, To: 2, Num: 4, Key: "{a}1"}}, []string{"{a}nix", "a"}, "TRYAGAIN"},
		{"the empty key is on its way", []api.Move{{Slot: a, To: 2, Num: 4}}, []string{"a"}, ""},
		{"the empty key is on its way, the keys are not here", []api.Move{{Slot: a, To: 2, Num: 4}}, []string{"{a}nix"}, "ASK 15495 2"},
		{"the beginning of a key is on its way", []api.Move{{Slot: a, To: 2, Num: 4, Key: "{a}"}}, []string{"{a}1"}, ""},
		{"a key with more behind it is on its way", []api.Move{{Slot: a, To: 2, Num: 4, Key: "{a}1x"}}, []string{"{a}1"}, ""},
		{"a key in other letters is on its way", []api.Move{{Slot: a, To: 2, Num: 4, Key: "A"}}, []string{"a"}, ""},

		{"the key stands at Num 0", []api.Move{{Slot: a, To: 2, Key: "a"}}, []string{"a"}, ""},
		{"the key stands at Num 0, not here", []api.Move{{Slot: a, To: 2, Key: "{a}nix"}}, []string{"{a}nix"}, "ASK 15495 2"},
		{"the key stands at Num -1", []api.Move{{Slot: a, To: 2, Num: -1, Key: "a"}}, []string{"a"}, ""},
		{"the key stands at the least Num", []api.Move{{Slot: a, To: 2, Num: math.MinInt, Key: "{a}nix"}}, []string{"{a}nix"}, "ASK 15495 2"},

		{"the move at the front", []api.Move{{Slot: a, To: 2}, {Slot: a + 1, To: 3}, {Slot: a + 2, To: 4}}, []string{"{a}nix"}, "ASK 15495 2"},
		{"the move in the middle", []api.Move{{Slot: a - 1, To: 3}, {Slot: a, To: 2}, {Slot: a + 2, To: 4}}, []string{"{a}nix"}, "ASK 15495 2"},
		{"the move at the end", []api.Move{{Slot: a - 2, To: 3}, {Slot: a - 1, To: 4}, {Slot: a, To: 2}}, []string{"{a}nix"}, "ASK 15495 2"},
		{"the moves fall", []api.Move{{Slot: a + 1, To: 3}, {Slot: a, To: 2}, {Slot: a - 1, To: 4}}, []string{"{a}nix"}, "ASK 15495 2"},
		{"another slot's move has the key on its way", []api.Move{{Slot: 0, To: 3, Num: 4, Key: "a"}, {Slot: a, To: 2}, {Slot: 16383, To: 3, Num: 4, Key: "a"}}, []string{"a"}, ""},
		{"two moves, the first one tells where", []api.Move{{Slot: a, To: 2}, {Slot: a, To: 3}}, []string{"{a}nix"}, "ASK 15495 2"},
		{"two moves, only the first one has the key on its way", []api.Move{{Slot: a, To: 2, Num: 4, Key: "a"}, {Slot: a, To: 3}}, []string{"a"}, "TRYAGAIN"},
		{"two moves, only the second one has the key on its way", []api.Move{{Slot: a, To: 2}, {Slot: a, To: 3, Num: 4, Key: "a"}}, []string{"a"}, ""},
		{"two moves, the second one has it on its way, not here", []api.Move{{Slot: a, To: 2, Num: 4, Key: "a"}, {Slot: a, To: 3, Num: 4, Key: "{a}nix"}}, []string{"{a}nix"}, "ASK 15495 2"},
		{"two moves behind another", []api.Move{{Slot: 1, To: 5}, {Slot: a, To: 2}, {Slot: a, To: 3}}, []string{"{a}nix"}, "ASK 15495 2"},
	} {
		n := api.Node{Count: 8, Id: 1, Master: -1, Claims: of(5000, 16000, 1), Db: holding("a", "{a}1", "{a}2", "{a}d", "b"), Moves: c.moves}
		for _, asking := range []bool{false, true} {
			if got := Decide(n, c.keys, asking); got != c.want {
				t.Errorf("14.1: Decide of %s, asking %v, is %q, want %q", c.name, asking, got, c.want)
			}
			if got := decided(n, c.keys, asking); got != c.want {
				t.Errorf("the judge says %q of %s", got, c.name)
			}
		}
		// Whose slot it is comes ahead of where it goes.
		n.Id = 3
		if got := Decide(n, c.keys, false); got != "MOVED 15495 1" {
			t.Errorf("14.1: Decide of %s at another node is %q", c.name, got)
		}
		if got := Decide(n, c.keys, true); got != "" {
			t.Errorf("14.1: Decide of %s at another node, asking, is %q", c.name, got)
		}
		n.Id, n.Master = 1, 4
		if got := Decide(n, c.keys, true); got != "MOVED 15495 1" {
			t.Errorf("14.1: Decide of %s at a replica is %q", c.name, got)
		}
	}
}

// TestMovesOfTheOutermostSlots has the two slots at the ends, and the empty key.
func TestMovesOfTheOutermostSlots(t *testing.T) {
	n := api.Node{Count: 8, Id: 1, Master: -1, Claims: of(0, 16383, 1), Db: holding("", "qbi"), Moves: []api.Move{{Slot: 0, To: 4}, {Slot: 16383, To: 7}}}
	for _, c := range []struct {
		keys []string
		want string
	}{
		{[]string{""}, ""}, {[]string{"la2"}, "ASK 0 4"}, {[]string{"la2", ""}, "TRYAGAIN"}, {[]string{"qbi"}, ""}, {[]string{"hia"}, "ASK 16383 7"}, {[]string{"qbi", "hia"}, "TRYAGAIN"}, {[]string{"", "qbi"}, "CROSSSLOT"},
	} {
		if got := Decide(n, c.keys, false); got != c.want {
			t.Errorf("14.1: Decide of %q is %q, want %q", c.keys, got, c.want)
		}
	}
	n.Moves[0].Num = 9
	if got := Decide(n, []string{""}, false); got != "TRYAGAIN" {
		t.Errorf("14.1: Decide of the empty key on its way is %q", got)
	}
}

// checkDecide holds Decide against the judge; what names one of the nodes is to be read again.
func checkDecide(t *testing.T, n api.Node, keys []string, asking bool) {
	t.Helper()
	got, want := Decide(n, keys, asking), decided(n, keys, asking)
	if got != want {
		t.Fatalf("14.1: node %d that follows %d with claims %v, moves %v and %d pairs replies %q to %q, asking %v, want %q", n.Id, n.Master, n.Claims, n.Moves, len(n.Db), got, keys, asking, want)
	}
	word, of, node := Read(got)
	if got == "" || got == "CROSSSLOT" || got == "CLUSTERDOWN" || got == "TRYAGAIN" {
		if word != "" || of != 0 || node != 0 {
			t.Fatalf("14.2: Read of %q is %q, %d, %d", got, word, of, node)
		}
		return
	}
	if again := word + " " + strconv.Itoa(of) + " " + strconv.Itoa(node); again != got || of != slot.Of(keys[0]) {
		t.Fatalf("14.2: Read of %q is %q, %d, %d", got, word, of, node)
	}
}

// TestDecideIsThatOfTheWords takes all mixes of some nodes and calls.
func TestDecideIsThatOfTheWords(t *testing.T) {
	const a = 15495
	calls := lists(3, "a", "{a}1", "{a}d", "", "hia")
	for _, claims := range [][]api.Claim{nil, of(0, 16383, 1), of(0, 0, 1, a, a, 2), of(0, a-1, 1, a+1, 16383, 1), of(1, 5000, 0, 5001, 16383, 1)} {
		for _, db := range [][]api.Pair{nil, holding("a", "b"), holding("a", "{a}1", "{a}d"), holding("", "{a}d"), holding("hia", "", "a", "{a}1", "{a}d")} {
			for _, moves := range [][]api.Move{
				nil, {{Slot: a, To: 2}}, {{Slot: a, To: 0, Num: 1, Key: "a"}}, {{Slot: a, To: 7, Num: 3, Key: ""}}, {{Slot: 0, To: 2, Num: 1}, {Slot: a, To: 2, Num: 2, Key: "{a}d"}}, {{Slot: 0, To: 2}, {Slot: 16383, To: 2, Num: 2, Key: "a"}}, {{Slot: a, To: 2, Key: "a"}, {Slot: a, To: 0, Num: 1, Key: "a"}},
			} {
				for id := range 3 {
					for master := -1; master < 3; master++ {
						n := api.Node{Count: 3, Id: id, Master: master, Claims: claims, Db: db, Moves: moves}
						for _, keys := range calls {
							checkDecide(t, n, keys, false)
							checkDecide(t, n, keys, true)
						}
					}
				}
			}
		}
	}
}

// TestDecideOfAnyNode takes nodes and calls of no order.
func TestDecideOfAnyNode(t *testing.T) {
	r := rand.New(rand.NewPCG(14, 1))
	keys := []string{"a", "{a}1", "{a}2", "{a}d", "b", "{b}", "{b}d", "", "la2", "hia", "qbi", "c", "d"}
	words := map[string]int{}
	for range 20000 {
		n := anyNode(r, keys)
		if !claims.May(n.Claims) || !space.May(n.Db) {
			t.Fatal("the node is not valid")
		}
		for range 10 {
			call := []string{keys[r.IntN(len(keys))]}
			for range r.IntN(4) {
				if key := keys[r.IntN(len(keys))]; slot.Of(key) == slot.Of(call[0]) || r.IntN(9) == 0 {
					call = append(call, key)
				}
			}
			asking := r.IntN(3) == 0
			checkDecide(t, n, call, asking)
			word := Decide(n, call, asking)
			words[word[:min(3, len(word))]]++
		}
	}
	for _, word := range []string{"", "CRO", "CLU", "MOV", "TRY", "ASK"} {
		if words[word] < 1000 {
			t.Errorf("only %d of all replies begin with %q", words[word], word)
		}
	}
}

// TestDecideReadsOnlyWhatItsSectionNames turns all other fields of a node.
func TestDecideReadsOnlyWhatItsSectionNames(t *testing.T) {
	n := api.Node{Id: 1, Master: -1, Claims: of(0, 16000, 1, 16001, 16383, 2), Db: holding("a"), Moves: []api.Move{{Slot: 15495, To: 2}}}
	other := n
	other.Count, other.Epoch, other.Voted, other.Last, other.Asked, other.Wait = -4, 99, 98, 97, 96, 95
	other.Seen = []api.Seen{{Node: 2, Slot: 15495, Num: 4}}
	other.Feed = api.Feed{Rid: api.Rid{Node: 2, Epoch: 3}, Off: 3, Back: []api.Effect{{Key: "a", Gone: true}}, Until: 2}
	other.Watch = api.Watch{Heard: []int{0, 99, 99}, Says: [][]int{{1}, {1}, {1}}}
	other.Votes = []int{0, 1, 2}
	other.Claims = []api.Claim{{From: 0, To: 16000, Node: 1, Epoch: 1 << 53}, {From: 16001, To: 16383, Node: 2, Epoch: 77}}
	for _, keys := range lists(2, "a", "{a}1", "b", "hia") {
		for _, asking := range []bool{false, true} {
			if got, want := Decide(other, keys, asking), Decide(n, keys, asking); got != want {
				t.Errorf("14.1: Decide of %q is %q, and with other fields %q", keys, want, got)
			}
		}
	}
}
