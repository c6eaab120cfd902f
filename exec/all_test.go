package exec

import (
	"iter"
	"maps"
	"math"
	"slices"
	"strconv"
	"strings"
	"testing"

	"caravan/api"
	"caravan/cmd"
	"caravan/space"
)

// forms are all commands with what their words may be: k a key, n a number, v a
// string.
func forms() []string {
	return []string{
		"PING",
		"SET k v", "SETNX k v", "SETEX k n v", "MGET k", "MGET k k", "MGET k k k", "MSET k v", "MSET k v k v", "MSET k v k v k v", "MSETNX k v", "MSETNX k v k v", "MSETNX k v k v k v", "DEL k", "DEL k k", "DEL k k k", "EXISTS k", "EXISTS k k", "EXISTS k k k", "TYPE k", "EXPIRE k n", "TTL k", "PERSIST k", "RENAME k k",
		"GET k", "GETSET k v", "APPEND k v", "STRLEN k", "GETRANGE k n n", "SETRANGE k n v", "INCR k", "DECR k", "INCRBY k n", "DECRBY k n",
		"HSET k v v", "HSET k v v v v", "HSET k v v v v v v", "HGET k v", "HDEL k v", "HDEL k v v", "HDEL k v v v", "HLEN k", "HEXISTS k v", "HKEYS k", "HVALS k", "HGETALL k", "HINCRBY k v n", "HMGET k v", "HMGET k v v", "HMGET k v v v",
		"LPUSH k v", "LPUSH k v v", "LPUSH k v v v", "RPUSH k v", "RPUSH k v v", "RPUSH k v v v", "LPOP k", "RPOP k", "LLEN k", "LRANGE k n n", "LINDEX k n", "LSET k n v", "LTRIM k n n", "LREM k n v",
		"SADD k v", "SADD k v v", "SADD k v v v", "SREM k v", "SREM k v v", "SREM k v v v", "SCARD k", "SISMEMBER k v", "SMEMBERS k", "SPOP k", "SMOVE k k v", "SINTER k", "SINTER k k", "SINTER k k k", "SUNION k", "SUNION k k", "SUNION k k k", "SDIFF k", "SDIFF k k", "SDIFF k k k",
	}
}

// choices are what the words of forms are chosen from.
type choices struct {
	keys    []string
	numbers []string
	values  []string
}

func (c choices) of(what string) []string {
	switch what {
	case "k":
		return c.keys
	case "n":
		return c.numbers
	case "v":
		return c.values
	}
	return []string{what}
}

// calls goes through the calls of a form, all of them if they are no more than
// most, else about so many from all over them.
func calls(form string, c choices, most int) iter.Seq[[]string] {
	return func(yield func([]string) bool) {
		parts := strings.Fields(form)
		count := 1
		for _, part := range parts {
			count *= len(c.of(part))
		}
		// A prime, so that no word keeps in step with it.
		step := 1
		for _, prime := range []int{2, 3, 7, 31, 127, 509, 2053, 8209, 32771, 131101, 524309} {
			if count/step > most {
				step = prime
			}
		}
		for at := 0; at < count; at += step {
			rest := at
			var l []string
			for _, part := range parts {
				some := c.of(part)
				l = append(l, some[rest%len(some)])
				rest /= len(some)
			}
			if !yield(l) {
				return
			}
		}
	}
}

func keysOf(db []api.Pair) []string {
	var l []string
	for _, p := range db {
		l = append(l, p.Key)
	}
	return l
}

// usual are the choices for the sample.
func usual() choices {
	return choices{
		keys:    append(keysOf(sample()), "x", "y", "tt", "\x00", "\xff", times(39), times(41)),
		numbers: []string{"0", "1", "-1", "2", "-2", "3", "-3", "4", "-5", "39", "40", "-40", "-41", "299", "300", "301", "1099511627775", "1099511627776", "1099511627777", "-1099511627776", "-1099511627777", "9223372036854775807", "-9223372036854775807", "-9223372036854775808", "9223372036854775808", "", "y", "+1", "-0", "00", "1 ", "0x1"},
		values:  []string{"", "a", "b", "x", "10", "m101", "\x00\xff", times(299), times(300), times(301)},
	}
}

func TestAllForms(t *testing.T) {
	has := map[string]int{}
	db := sample()
	for _, form := range forms() {
		name, _, _ := strings.Cut(form, " ")
		has[name]++
		for l := range calls(form, usual(), 4000) {
			checkCall(t, db, l, 100)
		}
		for l := range calls(form, usual(), 200) {
			for _, l := range inLetters(l) {
				checkCall(t, db, l, 100)
			}
		}
	}
	if names := slices.Sorted(maps.Keys(has)); !slices.Equal(names, cmd.Names()) {
		t.Errorf("there are forms of %q", names)
	}
	if !equalSpaces(db, sample()) {
		t.Error("R3: the space is changed")
	}
}

// Every form at times around the ends of lives, and at both ends of all times.
func TestAllTimes(t *testing.T) {
	db := append(sample(), api.Pair{Key: "z", Item: ending(textItem("7"), 1<<52)}, api.Pair{Key: "zz", Item: ending(listItem("a"), 1<<52+1)}, api.Pair{Key: "zzz", Item: ending(setItem("a"), 1<<53)})
	if !space.May(db) {
		t.Fatal("the tests' own space isn't valid")
	}
	c := usual()
	c.keys = append(c.keys, "z", "zz", "zzz")
	for _, now := range []int{0, 1, 98, 99, 101, 499, 500, 501, 1<<52 - 1, 1 << 52} {
		for _, form := range forms() {
			for l := range calls(form, c, 500) {
				checkCall(t, db, l, now)
			}
		}
	}
}

func TestAllFormsOfNoSpace(t *testing.T) {
	for _, empty := range [][]api.Pair{nil, {}, sample()[:0]} {
		for _, form := range forms() {
			for l := range calls(form, usual(), 500) {
				checkCall(t, empty, l, 100)
			}
		}
	}
}

// states are items of each Kind, alive and dead at 100, and no item.
func states() []api.Item {
	l := []api.Item{{}}
	for _, i := range []api.Item{textItem("1"), hashItem("a", "1"), listItem("a"), setItem("a")} {
		l = append(l, i, ending(i, 101), ending(i, 100))
	}
	return l
}

// Two keys in all states, in either order: calls that name both, and either twice.
func TestAllStatesOfTwoKeys(t *testing.T) {
	c := choices{keys: []string{"a", "b"}, numbers: []string{"0", "1", "-1", "y"}, values: []string{"a", "b", times(301)}}
	for _, first := range states() {
		for _, second := range states() {
			var db []api.Pair
			for n, i := range []api.Item{first, second} {
				if i.Kind != 0 {
					db = append(db, api.Pair{Key: c.keys[n], Item: i})
				}
			}
			for _, form := range forms() {
				for l := range calls(form, c, 72) {
					checkCall(t, db, l, 100)
				}
			}
		}
	}
}

// Calls with as many words as a call may have.
func TestManyWords(t *testing.T) {
	var db []api.Pair
	keys := rising(120)
	for n, key := range keys {
		i := []api.Item{textItem("1"), setItem("a", "b", key), ending(setItem("c"), 100), listItem("a"), hashItem("a", "1")}[n%5]
		db = append(db, api.Pair{Key: key, Item: i})
	}
	sets := slices.DeleteFunc(slices.Clone(db), func(p api.Pair) bool { return p.Item.Kind != api.KSet })
	for _, name := range cmd.Names() {
		for _, n := range []int{41, 42, 81, 82, 83, 98, 99, 100} {
			for _, some := range [][]string{keys[:n], keys[20:][:n], slices.Repeat(keysOf(sets), 5)[:n], slices.Repeat(keys[:7], 20)[:n], slices.Repeat([]string{"x"}, n)} {
				checkCall(t, db, append([]string{name}, some...), 100)
				checkCall(t, db, append([]string{name, "new"}, some[1:]...), 100)
				checkCall(t, db, append([]string{name, keys[1]}, some[1:]...), 100)
				checkCall(t, sets, append([]string{name}, some...), 100)
			}
		}
	}
}

// Numbers around all powers of two and ten, and around the edges of each command.
func TestManyNumbers(t *testing.T) {
	var l []string
	near := func(n int) {
		for d := range 5 {
			// Beyond the ends that wraps round, to numbers at the other end.
			l = append(l, strconv.Itoa(n+d-2), strconv.Itoa(-n+d-2))
		}
	}
	for shift := range 64 {
		near(1 << shift)
	}
	for n, power := 0, 1; n < 19; n, power = n+1, power*10 {
		near(power)
	}
	near(1 << 40)
	l = append(l, "18446744073709551615", "18446744073709551616", "-18446744073709551616", "9223372036854775809", "99999999999999999999", "000", "-", "--1", "1-", "1e3", "1.5", "١", " 1", "1\n", "\x00", "0_0", times(300), strings.Repeat("1", 300))
	db := sample()
	for _, form := range forms() {
		if strings.Count(form, "n") != 1 {
			continue
		}
		c := choices{keys: []string{"n", "max", "min", "t", "l", "h", "s", "x", "dead"}, numbers: l, values: []string{"a", "", "x"}}
		for row := range calls(form, c, 40000) {
			checkCall(t, db, row, 100)
		}
	}
}

// walk is numbers without order, always the same ones.
func walk() func(below int) int {
	n := uint64(7)
	return func(below int) int {
		n = n*6364136223846793005 + 1442695040888963407
		return int(n >> 33 % uint64(below))
	}
}

// alive is the space as a dictionary, without what is dead.
func alive(db []api.Pair, now int) map[string]value {
	m := map[string]value{}
	for _, p := range db {
		if p.Item.Exp == 0 || p.Item.Exp > now {
			m[p.Key] = valueOf(p.Item)
		}
	}
	return m
}

func equalDicts(a, b map[string]value) bool {
	return maps.EqualFunc(a, b, func(v, w value) bool { return equalItems(v.item(), w.item()) })
}

// A long row of calls, one on what the others left, beside one dictionary that is
// changed along with it, while time passes.
func TestAWalk(t *testing.T) {
	all := forms()
	c := choices{keys: []string{"", "a", "b", "c", "d", "e", "f", "g"}, numbers: []string{"0", "1", "-1", "2", "-2", "3", "5", "-7", "20", "60", "y", "9223372036854775807"}, values: []string{"", "1", "2", "30", "a", "b", "c", "d", "e", times(100), times(300), times(301)}}
	next := walk()
	var db []api.Pair
	dict := map[string]value{}
	now := 0
	replies := map[int]int{}
	for step := range 60000 {
		if next(20) == 0 {
			now += next(8)
			maps.DeleteFunc(dict, func(key string, v value) bool { return v.exp != 0 && v.exp <= now })
		}
		var words []string
		for _, part := range strings.Fields(all[next(len(all))]) {
			some := c.of(part)
			words = append(words, some[next(len(some))])
		}
		checkCall(t, db, words, now)
		r, l := Exec(db, words, now)
		replies[r.Kind]++
		db = space.Apply(db, l...)
		j := judge{dict: maps.Clone(dict), words: words, now: now}
		if want := j.answer(); want.Kind != api.RError {
			dict = j.dict
			if !equalReplies(r, want) {
				t.Fatalf("12.1: after %d steps %s at %d: %s, want %s", step, tellWords(words), now, tellReply(r), tellReply(want))
			}
		} else if !equalReplies(r, want) {
			t.Fatalf("12.1: after %d steps %s at %d: %s, want %s", step, tellWords(words), now, tellReply(r), tellReply(want))
		}
		if !space.May(db) || !equalDicts(alive(db, now), dict) {
			t.Fatalf("12.1: after %d steps %s at %d leaves another space: %s", step, tellWords(words), now, tellEffects(l))
		}
	}
	for kind := api.RSimple; kind <= api.RArray; kind++ {
		if replies[kind] < 100 {
			t.Errorf("of Kind %d there were %d replies", kind, replies[kind])
		}
	}
}

// 12.2, with all keys dead, and with none.
func TestReadingCommands(t *testing.T) {
	db := sample()
	for _, name := range cmd.Names() {
		spec, _ := cmd.Find(name)
		if spec.Write {
			continue
		}
		for _, form := range forms() {
			if !strings.HasPrefix(form+" ", name+" ") {
				continue
			}
			for l := range calls(form, usual(), 2000) {
				r, effects := Exec(db, l, 1<<52)
				var want []string
				for _, key := range cmd.Keys(l) {
					if i, has := space.Raw(db, key); has && i.Exp != 0 && !slices.Contains(want, "-"+key) {
						want = append(want, "-"+key)
					}
				}
				if got := tellEffects(effects); r.Kind != api.RError && got != strings.Join(want, ", ") {
					t.Errorf("12.2: %s with dead keys: %s, want %q", tellWords(l), got, want)
				}
				if _, effects := Exec(db, l, 0); len(effects) != 0 {
					t.Errorf("12.2: %s without dead keys: %s", tellWords(l), tellEffects(effects))
				}
			}
		}
	}
}

func TestRules(t *testing.T) {
	var names []string
	for r := range rules() {
		names = append(names, r.name)
		if r.kind != kindFor(r.name) || !slices.Equal(r.numbers, numbersFor(r.name)) {
			t.Errorf("12.1: %s is for Kind %d, with numbers %v", r.name, r.kind, r.numbers)
		}
		spec, _ := cmd.Find(r.name)
		for _, at := range r.numbers {
			if at >= spec.Least {
				t.Errorf("12.1: %s may have no word %d", r.name, at)
			}
		}
	}
	if slices.Sort(names); !slices.Equal(names, cmd.Names()) {
		t.Errorf("there are rules for %q", names)
	}
}

// firstRules are the names of the first rules, at most so many.
func firstRules(all iter.Seq[rule], most int) []string {
	var l []string
	for r := range all {
		if len(l) == most {
			break
		}
		l = append(l, r.name)
	}
	return l
}

// The iterator may be left at any rule, and gone through again.
func TestRulesAreLeft(t *testing.T) {
	all := rules()
	whole := firstRules(all, 99)
	for most := range 56 {
		for range 2 {
			if got := firstRules(all, most); !slices.Equal(got, whole[:min(most, 54)]) {
				t.Errorf("the first %d rules are %q", most, got)
			}
		}
	}
}

// disordered are spaces and times of which the chapter promises nothing: R1 holds
// for them all the same.
func disordered() [][]api.Pair {
	kinds := []api.Item{{}, {Kind: 5}, {Kind: -1, S: "1"}, {Kind: math.MinInt}, {Kind: api.KText, F: hashItem("a", "1").F, L: []string{"a"}}, {Kind: api.KHash}, {Kind: api.KHash, S: "1", L: []string{"b", "a"}}, {Kind: api.KList}, {Kind: api.KList, F: hashItem("b", "1", "a", "1", "a", "2").F}, {Kind: api.KSet}, setItem("b", "a", "b", "a"), setItem("c", "a", "b"), hashItem("b", "1", "a", "1", "a", "2"), ending(textItem("1"), -1), ending(textItem("1"), math.MinInt), ending(setItem("a"), math.MaxInt), textItem(times(5000)), listItem(slices.Repeat([]string{"a"}, 500)...), named(slices.Repeat([]string{"b", "a"}, 100))}
	var l [][]api.Pair
	for _, i := range kinds {
		for _, other := range []api.Item{i, setItem("a")} {
			l = append(l, []api.Pair{{Key: "a", Item: i}, {Key: "b", Item: other}}, []api.Pair{{Key: "b", Item: i}, {Key: "a", Item: other}}, []api.Pair{{Key: "a", Item: i}, {Key: "a", Item: other}}, []api.Pair{{Key: times(41), Item: i}, {Key: "", Item: other}, {Key: "a", Item: i}})
		}
	}
	return append(l, make([]api.Pair, 3))
}

func TestNoPanics(t *testing.T) {
	c := choices{keys: []string{"a", "b", "", times(41)}, numbers: []string{"0", "-1", "1", "9223372036854775807", "-9223372036854775808", "y"}, values: []string{"a", "b", "", times(400)}}
	for _, db := range disordered() {
		for _, now := range []int{0, -1, math.MinInt, math.MaxInt} {
			for _, form := range forms() {
				for l := range calls(form, c, 8) {
					r, effects := Exec(db, l, now)
					again, effectsAgain := Exec(db, l, now)
					if !equalReplies(r, again) || !equalEffects(effects, effectsAgain) {
						t.Errorf("R1: %s at %d: %s and %s", tellWords(l), now, tellReply(r), tellReply(again))
					}
					if r.Kind == api.RError && len(effects) != 0 {
						t.Errorf("12.3: %s at %d: %s", tellWords(l), now, tellEffects(effects))
					}
				}
			}
		}
	}
	for _, l := range [][]string{nil, {""}, {times(1 << 20)}, {"GET", times(1 << 20)}, {"SET", "a", times(1 << 20)}, {"APPEND", "t", times(1 << 20)}, {"HINCRBY", "h", times(1 << 20), "1"}, {"INCRBY", "n", strings.Repeat("9", 1<<20)}, slices.Repeat([]string{"DEL"}, 1<<16)} {
		if r, effects := Exec(sample(), l, 100); !equalReplies(r, fault) || len(effects) != 0 {
			t.Errorf("12.1: %s: %s %s", tellWords(l), tellReply(r), tellEffects(effects))
		}
	}
}

// Each reply has no more than its Kind has.
func TestRepliesAreWhole(t *testing.T) {
	db := sample()
	var check func(l []string, r api.Reply, within bool)
	check = func(l []string, r api.Reply, within bool) {
		zero := api.Reply{Kind: r.Kind}
		switch r.Kind {
		case api.RSimple, api.RError, api.RBulk:
			zero.S = r.S
		case api.RInt:
			zero.N = r.N
		case api.RArray:
			zero.L = r.L
			for _, x := range r.L {
				check(l, x, true)
			}
		}
		if !equalReplies(r, zero) || r.Kind < api.RSimple || r.Kind > api.RArray || within && r.Kind != api.RBulk && r.Kind != api.RNil {
			t.Errorf("R4: %s: %v", tellWords(l), r)
		}
		if r.Kind == api.RError && r.S != "ERR" && r.S != "WRONGTYPE" || r.Kind == api.RSimple && !slices.Contains([]string{"OK", "PONG", "string", "hash", "list", "set", "none"}, r.S) {
			t.Errorf("12.1: %s: %s", tellWords(l), tellReply(r))
		}
	}
	for _, form := range forms() {
		for l := range calls(form, usual(), 1000) {
			r, _ := Exec(db, l, 100)
			check(l, r, false)
		}
	}
}
