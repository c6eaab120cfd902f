package move

import (
	"math"
	"math/rand/v2"
	"runtime"
	"slices"
	"strconv"
	"strings"
	"testing"

	"caravan/api"
	"caravan/space"
)

// asked is what the calls are given, all at once.
type asked struct {
	N        api.Node
	Slot, To int
	M        api.Msg
}

// answers is what the calls answer.
type answers struct {
	Started api.Node
	Errno   api.Errno
	Ticked  api.Node
	Sent    []api.Msg
	Taken   api.Node
	Acks    []api.Msg
	Acked   api.Node
}

func ask(a asked) answers {
	var b answers
	b.Started, b.Errno = Start(a.N, a.Slot, a.To)
	b.Ticked, b.Sent = Tick(a.N)
	b.Taken, b.Acks = Take(a.N, a.M)
	b.Acked = Acked(a.N, a.M)
	return b
}

// givings lead to all cases of all calls, and have something in each field.
func givings() []asked {
	r := rand.New(rand.NewPCG(16, 5))
	slots := []int{15495, 0, 7365, 9000}
	var all []asked
	for range 300 {
		n := anyNode(r, slots)
		all = append(all, asked{n, slots[r.IntN(4)], r.IntN(n.Count), anyMsg(r, n, slots)})
	}
	n := waiting()
	replica := ours()
	replica.Master = 3
	for _, m := range []api.Msg{ack(2, 15495, 20), ack(3, 7365, 11), ack(2, 7365, 11), brings(2, 7, "a", nthItem(0)), brings(2, 8, "a", nthItem(1)), brings(3, 8, "{a}9", nthItem(2)), {}} {
		m.Claims, m.Nodes = slices.Clone(n.Claims), []int{1, 2}
		for _, slot := range []int{-1, 3300, 6000, 15495} {
			all = append(all, asked{n, slot, 2, m}, asked{replica, slot, 2, m})
		}
	}
	return all
}

func TestArgumentsStayAndAnswersAreNewMemory(t *testing.T) {
	for _, a := range givings() {
		own := again(a)
		before := opened(own)
		want := ask(again(a))
		first, second := ask(own), ask(own)
		if !same(first, want) || !same(second, want) {
			t.Fatalf("R1: the same calls answer otherwise: %s", tell(a))
		}
		if !same(opened(own), before) {
			t.Fatalf("R3: a call changes its arguments: %s", tell(a))
		}
		spoil(first)
		if !same(opened(own), before) {
			t.Fatalf("R3: writing into answers changes arguments: %s", tell(a))
		}
		if !same(second, want) || !same(ask(own), want) {
			t.Fatalf("R3: writing into answers changes other answers: %s", tell(a))
		}
		spoil(own)
		if !same(second, want) {
			t.Fatalf("R3: writing into arguments changes answers: %s", tell(a))
		}
	}
}

// shared is our node with lists that share memory wherever two may be equal.
func shared() api.Node {
	n := waiting()
	list := append(make([]string, 0, 9), "a", "b")
	field := append(make([]api.Field, 0, 9), api.Field{Name: "a"})
	i, h := api.Item{Kind: api.KList, L: list}, api.Item{Kind: api.KHash, F: field}
	n.Db = []api.Pair{{Key: "", Item: i}, {Key: "a", Item: h}, {Key: "c", Item: i}, {Key: "hia", Item: h}, {Key: "{a}1", Item: i}}
	n.Feed.Back = []api.Effect{put("a", i), put("b", h), {Key: "c", Gone: true, Item: i}}
	row := append(make([]int, 0, 9), 0, 2)
	n.Watch = api.Watch{Heard: row, Says: [][]int{row, row, nil, row[:1]}}
	n.Votes = row
	return n
}

func TestListsOfTheirOwn(t *testing.T) {
	all := givings()
	n := shared()
	for _, m := range []api.Msg{ack(2, 15495, 20), ack(2, 15495, 3), brings(3, 8, "{a}9", n.Db[0].Item), brings(3, 8, "a", n.Db[0].Item), brings(2, 7, "a", n.Db[1].Item), {}} {
		for _, slot := range []int{-1, 3300, 6000, 15495} {
			all = append(all, asked{n, slot, 2, m})
		}
	}
	for _, a := range all {
		b := ask(a)
		own := places(b)
		if overlap(own) {
			t.Fatalf("R3: two lists of the answers share memory: %s", tell(a))
		}
		if touch(own, places(a)) {
			t.Fatalf("R3: an answer shares memory with an argument: %s", tell(a))
		}
		// What is free again may be the memory of a later answer.
		runtime.KeepAlive(a)
		runtime.KeepAlive(b)
	}
}

// TestStringsAreNewMemory by their bytes.
func TestStringsAreNewMemory(t *testing.T) {
	for _, a := range givings() {
		want := ask(again(a))
		own, bytes := lent(a)
		got := ask(own)
		if !same(own, a) {
			t.Fatalf("R3: a call writes into strings: %s", tell(a))
		}
		for _, b := range bytes {
			for i := range b {
				b[i] = '?'
			}
		}
		if !same(got, want) {
			t.Fatalf("R3: answers have memory of the arguments: %s", tell(a))
		}
	}
}

// TestCallsDoNotAffectEachOther asks all of them forwards and backwards.
func TestCallsDoNotAffectEachOther(t *testing.T) {
	all := givings()
	var alone []answers
	for _, a := range all {
		alone = append(alone, ask(a))
	}
	for i := len(all) - 1; i >= 0; i-- {
		if !same(ask(all[i]), alone[i]) {
			t.Fatalf("R5: behind other calls the answers differ: %s", tell(all[i]))
		}
	}
}

// TestAnswersAreArguments gives what was answered to the calls in turn, and adds to it.
func TestAnswersAreArguments(t *testing.T) {
	for _, a := range givings() {
		b := ask(a)
		for _, n := range []api.Node{b.Started, b.Ticked, b.Taken, b.Acked} {
			checkStart(t, n, a.Slot, a.To)
			checkTick(t, n)
			checkTake(t, n, a.M)
			checkAcked(t, n, a.M)
			want := again(n)
			grown := append(n.Moves, api.Move{Slot: 1})
			if !same(n, want) || len(grown) != len(n.Moves)+1 {
				t.Fatalf("R3: answers can't be added to: %s", tell(a))
			}
		}
	}
}

// odd is a node that is not valid, of such numbers.
func odd(x, y, z, turn int) api.Node {
	long := strings.Repeat("x", 1000)
	bad := api.Item{Kind: -1, L: []string{long}, F: []api.Field{{}, {}}, Exp: math.MinInt}
	dbs := [][]api.Pair{nil, {{Key: "b"}, {Key: "a"}, {Key: "a", Item: bad}}, {{Key: long}, {Key: "", Item: api.Item{Exp: math.MaxInt}}, {Key: "{a}1", Item: text(long)}}}
	lists := []api.Claim{{From: x, To: y, Node: z, Epoch: x}, {From: 0, To: 16383, Node: x, Epoch: z}, {From: y, To: math.MaxInt, Node: x, Epoch: y}, {From: z, To: x, Node: y}}
	moves := []api.Move{{Slot: 15495, To: x, Num: y, Key: "a"}, {Slot: x, To: y, Num: z, Key: long}, {Slot: x, To: z, Num: x, Key: "a"}, {Slot: y, To: x}, {Slot: 0, To: x}, {Slot: 0, To: y}, {Slot: 16383, To: z}}
	seen := []api.Seen{{Node: x, Slot: y, Num: z}, {Node: y, Slot: z, Num: x}, {Node: 2, Slot: 15495, Num: x}, {Node: 2, Slot: 15495, Num: y}, {}}
	back := []api.Effect{put(long, bad), {}, {Key: "a", Gone: true, Item: bad}}
	n := api.Node{Count: x, Id: y, Master: -1, Epoch: z, Voted: x, Last: z, Claims: lists[turn%4:], Db: dbs[turn%3], Moves: moves[turn%5:], Seen: seen[turn%5:]}
	n.Feed = api.Feed{Off: x, Until: y, Back: slices.Repeat(back, turn%30)}
	n.Watch = api.Watch{Heard: []int{x, y, z}, Says: [][]int{{x}, nil, {y, z}}}
	if turn%7 == 0 {
		n.Master = z
	}
	return n
}

// TestNothingPanics gives nodes and messages that are not valid, of which nothing is promised but that all calls end.
func TestNothingPanics(t *testing.T) {
	ints := []int{math.MinInt, math.MinInt + 1, -2, -1, 0, 1, 2, 8, 15495, 16383, 16384, 1 << 53, math.MaxInt - 1, math.MaxInt}
	turn := 0
	for _, x := range ints {
		for _, y := range ints {
			for _, z := range ints {
				turn++
				n := odd(x, y, z, turn)
				m := api.Msg{Kind: x, From: y, To: z, Slot: ints[turn%len(ints)], Num: y}
				for i := range turn % 4 {
					m.Effects = append(m.Effects, []api.Effect{put("a", text("1")), put(strings.Repeat("k", 5000), api.Item{Kind: 77}), gone("a"), {}}[(turn/4+i)%4])
				}
				a := asked{n, z, x, m}
				if first := ask(a); !same(first, ask(a)) {
					t.Fatalf("R1: the same calls answer otherwise: %s", tell(a))
				}
			}
		}
	}
}

// TestGreatCallsEnd would go on for very long if a call went through all of it again and again.
func TestGreatCallsEnd(t *testing.T) {
	n := api.Node{Count: 8, Id: 1, Master: -1, Epoch: 1, Last: 1, Claims: []api.Claim{{From: 0, To: 16383, Node: 1, Epoch: 1}}}
	for i := range 200000 {
		n.Db = append(n.Db, api.Pair{Key: "k" + strconv.Itoa(1000000+i), Item: text("1")})
	}
	n.Moves = []api.Move{{Slot: 15495, To: 2}}
	first, msgs := Tick(n)
	if want := space.In(n.Db, 15495)[0]; len(msgs) != 1 || msgs[0].Effects[0].Key != want || first.Moves[0].Key != want {
		t.Errorf("16.2: Tick of many keys sends %s", tell(msgs))
	}
	if got := Acked(first, ack(2, 15495, 2)); len(got.Db) != 199999 || got.Moves[0].Num != 0 {
		t.Errorf("16.4: Acked of many keys has %d keys", len(got.Db))
	}
	m := brings(2, 1, "a", text("1"))
	m.Effects = slices.Repeat(m.Effects, 200000)
	checkRefused(t, n, m, "of many effects")
	n.Moves = nil
	for s := range 5000 {
		n.Moves = append(n.Moves, api.Move{Slot: s, To: 2})
	}
	n.Moves = append(n.Moves, api.Move{Slot: 15495, To: 2})
	for node := range 8 {
		for s := range api.Slots {
			n.Seen = append(n.Seen, api.Seen{Node: node, Slot: s, Num: 5})
		}
	}
	n.Db = holding("a")
	got, msgs := Tick(n)
	if len(msgs) != 1 || len(got.Moves) != 1 || got.Epoch != 5001 || len(got.Claims) != 5001 {
		t.Errorf("16.2: Tick of many slots sends %d messages, and is at the epoch %d, with %d claims", len(msgs), got.Epoch, len(got.Claims))
	}
	checkTaken(t, api.Node{Count: 8, Id: 1, Master: -1, Db: n.Db}, brings(7, 6, "a", text("2")), api.Seen{Node: 7, Slot: 15495, Num: 6})
	checkPassed(t, n, brings(7, 5, "a", text("2")))
	if got, _ := Take(n, brings(7, 6, "a", text("2"))); len(got.Seen) != 8*api.Slots || got.Seen[7*api.Slots+15495].Num != 6 {
		t.Errorf("16.3: Take beside many numbers has %d of them", len(got.Seen))
	}
}

// TestMovesAreLeft goes through moves, leaves them anywhere, and goes through them again.
func TestMovesAreLeft(t *testing.T) {
	l := waiting().Moves
	all := each(l)
	for most := range len(l) + 2 {
		for range 2 {
			var got []api.Move
			for m := range all {
				if len(got) == most {
					break
				}
				got = append(got, m)
			}
			if !same(got, l[:min(most, len(l))]) {
				t.Errorf("the first %d moves are %v", most, got)
			}
		}
	}
}
