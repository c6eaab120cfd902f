package route

import (
	"math"
	"math/rand/v2"
	"reflect"
	"slices"
	"strconv"
	"strings"
	"testing"
	"unsafe"

	"caravan/api"
)

// loose is a text of bytes that the test writes over later on.
func loose(s string) (string, []byte) {
	b := append([]byte(s), 'x')
	return unsafe.String(&b[0], len(s)), b
}

func spoilBytes(all [][]byte) {
	for _, b := range all {
		for i := range b {
			b[i] = '#'
		}
	}
}

// looseNode is an equal node in memory of its own, with spare capacity, and the bytes of its keys.
func looseNode(n api.Node) (api.Node, [][]byte) {
	var all [][]byte
	own := func(s string) string {
		text, b := loose(s)
		all = append(all, b)
		return text
	}
	again := n
	again.Claims = append(slices.Clone(n.Claims), of(0, 16383, 7)...)[:len(n.Claims)]
	again.Moves, again.Db = make([]api.Move, 0, len(n.Moves)+1), make([]api.Pair, 0, len(n.Db)+1)
	for _, m := range n.Moves {
		m.Key = own(m.Key)
		again.Moves = append(again.Moves, m)
	}
	for _, p := range n.Db {
		i := p.Item
		i.S, i.L = own(i.S), append(slices.Clone(i.L), "spare")[:len(i.L)]
		i.F = append(slices.Clone(i.F), api.Field{Name: "spare"})[:len(i.F)]
		again.Db = append(again.Db, api.Pair{Key: own(p.Key), Item: i})
	}
	return again, all
}

// opened is the node with all spare capacity as a part of it.
func opened(n api.Node) api.Node {
	n.Claims, n.Moves, n.Db = slices.Clone(n.Claims[:cap(n.Claims)]), slices.Clone(n.Moves[:cap(n.Moves)]), slices.Clone(n.Db[:cap(n.Db)])
	for i, p := range n.Db {
		n.Db[i].Item.F, n.Db[i].Item.L = slices.Clone(p.Item.F[:cap(p.Item.F)]), slices.Clone(p.Item.L[:cap(p.Item.L)])
	}
	return n
}

// someCalls are nodes with calls that lead to all kinds of replies.
func someCalls() (nodes []api.Node, calls [][]string) {
	r := rand.New(rand.NewPCG(14, 3))
	keys := []string{"a", "{a}1", "{a}d", "b", "", "hia"}
	for range 200 {
		nodes = append(nodes, anyNode(r, keys))
	}
	return nodes, lists(2, keys...)
}

func TestArgumentsStayAsTheyAre(t *testing.T) {
	nodes, calls := someCalls()
	for _, n := range nodes {
		own, _ := looseNode(n)
		before := opened(own)
		for _, call := range calls {
			words := append(slices.Clone(call), "spare", "spare")[:len(call)]
			for _, asking := range []bool{false, true} {
				first := Decide(own, words, asking)
				if again := Decide(own, words, asking); again != first {
					t.Fatalf("R1: Decide of %q is %q, and then %q", call, first, again)
				}
			}
			if whole := words[:len(call)+2]; !slices.Equal(whole, append(slices.Clone(call), "spare", "spare")) {
				t.Fatalf("R3: Decide changes the keys %q to %q", call, whole)
			}
		}
		if !reflect.DeepEqual(opened(own), before) {
			t.Fatal("R3: Decide changes the node")
		}
	}
}

// TestAnswersKeepNothingOfArguments writes over all that was handed in, down to the bytes of the texts.
func TestAnswersKeepNothingOfArguments(t *testing.T) {
	nodes, calls := someCalls()
	for _, n := range nodes {
		for _, call := range calls {
			own, all := looseNode(n)
			var words []string
			for _, key := range call {
				text, b := loose(key)
				words, all = append(words, text), append(all, b)
			}
			want := strings.Clone(decided(n, call, false))
			got := Decide(own, words, false)
			spoilBytes(all)
			clear(words)
			clear(own.Claims)
			clear(own.Moves)
			clear(own.Db)
			if got != want {
				t.Fatalf("R3: the answer to %q is %q, want %q", call, got, want)
			}
			if again := Decide(n, call, false); again != want {
				t.Fatalf("R3: the next answer to %q is %q, want %q", call, again, want)
			}
		}
	}
	for _, s := range []string{"MOVED 3300 2", "ASK 16383 7", "ASK 0 0"} {
		text, b := loose(s)
		want := read(s)
		got := read(text)
		spoilBytes([][]byte{b})
		if got != want {
			t.Errorf("R3: Read of %q has become %v", s, got)
		}
	}
}

// TestNodesDoNotAffectEachOther asks all of them by turns.
func TestNodesDoNotAffectEachOther(t *testing.T) {
	nodes, calls := someCalls()
	alone := map[[2]int]string{}
	for i, n := range nodes {
		for j, call := range calls {
			alone[[2]int{i, j}] = Decide(n, call, j%2 == 0)
		}
	}
	for j, call := range calls {
		for i, n := range nodes {
			if got := Decide(n, call, j%2 == 0); got != alone[[2]int{i, j}] {
				t.Fatalf("R5: Decide of %q is %q among others and %q alone", call, got, alone[[2]int{i, j}])
			}
		}
	}
}

// TestNothingPanics gives nodes that are not valid, of which nothing is promised but that all calls end.
func TestNothingPanics(t *testing.T) {
	ints := []int{math.MinInt, -2, -1, 0, 1, 8, 15495, 16383, 16384, math.MaxInt}
	long := strings.Repeat("{", 5000)
	pairs := [][]api.Pair{
		nil,
		{{Key: "{a}1"}, {Key: "a"}, {Key: ""}},
		{{Key: "a"}, {Key: "a"}, {Key: long}, {Key: "a", Item: api.Item{Kind: -5, Exp: math.MinInt, L: []string{long}, F: []api.Field{{}}}}},
	}
	calls := [][]string{nil, {""}, {"a"}, {"a", "{a}1", "{a}nix"}, {long}, {"\xff\x00{\x80}"}, {"{", "}"}, {"{a" + long + "}"}, {"hia", "qbi"}}
	for _, x := range ints {
		for _, y := range ints {
			claims := []api.Claim{{From: x, To: y, Node: y, Epoch: x}, {From: y, To: x, Node: x, Epoch: y}, {From: 0, To: 16383, Node: 1}, {From: x, To: math.MaxInt, Node: 2}}
			for z := range 5 {
				for _, db := range pairs {
					n := api.Node{Count: x, Id: y, Master: ints[(z*2)%len(ints)], Claims: claims[min(z, 3):], Db: db}
					n.Moves = []api.Move{{Slot: x, To: y, Num: x, Key: "a"}, {Slot: 15495, To: x, Num: y, Key: "{a}1"}, {Slot: y}}[z%3:]
					checkAllEnd(t, n, calls)
				}
			}
		}
	}
}

// checkAllEnd calls with all keys; what comes is of one of the forms, and comes again.
func checkAllEnd(t *testing.T, n api.Node, calls [][]string) {
	t.Helper()
	for _, call := range calls {
		for _, asking := range []bool{false, true} {
			got := Decide(n, call, asking)
			if again := Decide(n, call, asking); again != got {
				t.Fatalf("R1: Decide of %q is %q, and then %q", call, got, again)
			}
			switch word, _, _ := strings.Cut(got, " "); word {
			case "", "CROSSSLOT", "CLUSTERDOWN", "TRYAGAIN", "MOVED", "ASK":
			default:
				t.Fatalf("14.1: Decide of %q is %q", call, got)
			}
			Read(got)
		}
	}
}

// TestGreatCallsEnd would go on for very long if a call went through the space, or the keys, again for each key.
func TestGreatCallsEnd(t *testing.T) {
	n := api.Node{Count: 8, Id: 1, Master: -1, Claims: of(0, 16383, 1)}
	var keys []string
	for i := range 300000 {
		key := "{a}" + strconv.Itoa(1000000+i)
		keys = append(keys, key)
		n.Db = append(n.Db, api.Pair{Key: key, Item: api.Item{Kind: api.KText}})
		n.Moves = append(n.Moves, api.Move{Slot: i % 15495, To: 3, Num: 1, Key: key})
	}
	if got := Decide(n, keys, false); got != "" {
		t.Errorf("14.1: Decide of many keys is %q", got)
	}
	n.Moves = append(n.Moves, api.Move{Slot: 15495, To: 2})
	if got := Decide(n, keys, false); got != "" {
		t.Errorf("14.1: Decide of many keys that are here is %q", got)
	}
	if got := Decide(n, append(slices.Clone(keys), "{a}nix"), false); got != "TRYAGAIN" {
		t.Errorf("14.1: Decide of many keys that are here and one that is not is %q", got)
	}
	n.Moves[len(n.Moves)-1].Num = 5
	n.Moves[len(n.Moves)-1].Key = keys[len(keys)-1]
	if got := Decide(n, keys, false); got != "TRYAGAIN" {
		t.Errorf("14.1: Decide of many keys, the last one on its way, is %q", got)
	}
	n.Db = nil
	if got := Decide(n, keys[1:len(keys)-1], false); got != "ASK 15495 2" {
		t.Errorf("14.1: Decide of many keys that are not here is %q", got)
	}
	long := strings.Repeat("a", 1<<24)
	n.Claims = nil
	if got := Decide(n, []string{long, long}, false); got != "CLUSTERDOWN" {
		t.Errorf("14.1: Decide of a long key is %q", got)
	}
}
