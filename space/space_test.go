package space

import (
	"iter"
	"maps"
	"math"
	"runtime"
	"slices"
	"strconv"
	"strings"
	"testing"
	"unsafe"

	"caravan/api"
)

func txt(s string) api.Item { return api.Item{Kind: api.KText, S: s} }

func hash(f ...api.Field) api.Item { return api.Item{Kind: api.KHash, F: f} }

func list(l ...string) api.Item { return api.Item{Kind: api.KList, L: l} }

func set(l ...string) api.Item { return api.Item{Kind: api.KSet, L: l} }

// fields are made of their Names and Vals in turn.
func fields(l ...string) []api.Field {
	var f []api.Field
	for pair := range slices.Chunk(l, 2) {
		f = append(f, api.Field{Name: pair[0], Val: pair[1]})
	}
	return f
}

// ending is the item with that end of life.
func ending(i api.Item, exp int) api.Item {
	i.Exp = exp
	return i
}

func times(n int) string { return strings.Repeat("x", n) }

// rising are so many texts, each greater than the one before it; ahead of each,
// and behind the last one, there is room for others.
func rising(n int) []string {
	var l []string
	for i := range n {
		l = append(l, "m"+strconv.Itoa(10001+2*i))
	}
	return l
}

// between is a key that isn't one of rising ones: it is greater than so many of
// them.
func between(n int) string { return "m" + strconv.Itoa(10000+2*n) }

// named are fields with those Names.
func named(names []string) []api.Field {
	var f []api.Field
	for i, name := range names {
		f = append(f, api.Field{Name: name, Val: strconv.Itoa(i)})
	}
	return f
}

// bytesInOrder is all 256 bytes, each as a text.
func bytesInOrder() []string {
	var l []string
	for c := range 256 {
		l = append(l, string([]byte{byte(c)}))
	}
	return l
}

// of is pairs of those keys, with items of each Kind in turn; no two neighbours
// have the same one.
func of(keys ...string) []api.Pair {
	var db []api.Pair
	for n, key := range keys {
		db = append(db, api.Pair{Key: key, Item: nth(n)})
	}
	return db
}

// nth is a valid item, another one for each number.
func nth(n int) api.Item {
	s := strconv.Itoa(n)
	switch n % 5 {
	case 0:
		return txt("text " + s)
	case 1:
		return ending(hash(fields("a", s, "b", "")...), 1+n)
	case 2:
		return list("z", s, "a")
	case 3:
		return ending(set("", s), 1+n)
	}
	return ending(txt(s), 1+n)
}

// put and gone are effects.
func put(key string, i api.Item) api.Effect { return api.Effect{Key: key, Item: i} }

func gone(key string) api.Effect { return api.Effect{Key: key, Gone: true} }

// short is a string as a test tells it.
func short(s string) string {
	if len(s) > 24 {
		return strconv.Quote(s[:24]) + ".. of " + strconv.Itoa(len(s))
	}
	return strconv.Quote(s)
}

// tellItem is an item as a test tells it.
func tellItem(i api.Item) string {
	s := "(kind " + strconv.Itoa(i.Kind) + " exp " + strconv.Itoa(i.Exp) + " " + short(i.S)
	for _, f := range i.F[:min(len(i.F), 4)] {
		s += " " + short(f.Name) + "=" + short(f.Val)
	}
	for _, e := range i.L[:min(len(i.L), 4)] {
		s += " " + short(e)
	}
	return s + " of " + strconv.Itoa(len(i.F)) + ", " + strconv.Itoa(len(i.L)) + ")"
}

// tell is a space as a test tells it.
func tell(db []api.Pair) string {
	s := "["
	for _, p := range db[:min(len(db), 10)] {
		s += short(p.Key) + tellItem(p.Item) + " "
	}
	return s + "] of " + strconv.Itoa(len(db))
}

// tellEffects is effects as a test tells them.
func tellEffects(l []api.Effect) string {
	s := "["
	for _, e := range l[:min(len(l), 10)] {
		if e.Gone {
			s += "gone "
		}
		s += short(e.Key) + tellItem(e.Item) + " "
	}
	return s + "] of " + strconv.Itoa(len(l))
}

// equalItems is whether two items are equal, nil and empty being the same.
func equalItems(a, b api.Item) bool {
	return a.Kind == b.Kind && a.S == b.S && a.Exp == b.Exp && slices.Equal(a.F, b.F) && slices.Equal(a.L, b.L)
}

func equal(a, b []api.Pair) bool {
	return slices.EqualFunc(a, b, func(p, q api.Pair) bool { return p.Key == q.Key && equalItems(p.Item, q.Item) })
}

func equalEffects(a, b []api.Effect) bool {
	return slices.EqualFunc(a, b, func(e, f api.Effect) bool {
		return e.Key == f.Key && e.Gone == f.Gone && equalItems(e.Item, f.Item)
	})
}

// nothing is whether the item is the zero item.
func nothing(i api.Item) bool { return equalItems(i, api.Item{}) }

// keyed is a space as a map, which is what the calls are held against.
func keyed(db []api.Pair) map[string]api.Item {
	m := map[string]api.Item{}
	for _, p := range db {
		m[p.Key] = p.Item
	}
	return m
}

// inOrder is a map as a space.
func inOrder(m map[string]api.Item) []api.Pair {
	var db []api.Pair
	for _, key := range slices.Sorted(maps.Keys(m)) {
		db = append(db, api.Pair{Key: key, Item: m[key]})
	}
	return db
}

// applied is Apply by the sentence of 11.1, one effect after the other.
func applied(db []api.Pair, l []api.Effect) []api.Pair {
	m := keyed(db)
	for _, e := range l {
		if e.Gone {
			delete(m, e.Key)
			continue
		}
		m[e.Key] = e.Item
	}
	return inOrder(m)
}

// slotOf is the slot of a key by 1.1 and 1.2, a bit at a time.
func slotOf(key string) int {
	if _, behind, found := strings.Cut(key, "{"); found {
		if tag, _, found := strings.Cut(behind, "}"); found && tag != "" {
			key = tag
		}
	}
	var register uint16
	for i := range len(key) {
		for bit := 7; bit >= 0; bit-- {
			in := uint16(key[i]>>bit&1) ^ register>>15
			register = register<<1 ^ in*0x1021
		}
	}
	return int(register) % 16384
}

// inSlot is In by the sentence of 11.1.
func inSlot(db []api.Pair, slot int) []string {
	var l []string
	for _, p := range db {
		if slotOf(p.Key) == slot {
			l = append(l, p.Key)
		}
	}
	return slices.Sorted(slices.Values(l))
}

func ascend(l []string) bool {
	for i := 1; i < len(l); i++ {
		if strings.Compare(l[i-1], l[i]) != -1 {
			return false
		}
	}
	return true
}

// mayItem is the sentences of 5.1, one after the other.
func mayItem(i api.Item) bool {
	var names []string
	all := append([]string{i.S}, i.L...)
	for _, f := range i.F {
		names = append(names, f.Name)
		all = append(all, f.Name, f.Val)
	}
	if i.Exp < 0 || i.Exp > 9007199254740992 || slices.ContainsFunc(all, func(s string) bool { return len(s) > 300 }) {
		return false
	}
	switch i.Kind {
	case 1:
		return len(i.F) == 0 && len(i.L) == 0
	case 2:
		return i.S == "" && len(i.F) > 0 && len(i.F) < 41 && len(i.L) == 0 && ascend(names)
	case 3:
		return i.S == "" && len(i.F) == 0 && len(i.L) > 0 && len(i.L) < 41
	case 4:
		return i.S == "" && len(i.F) == 0 && len(i.L) > 0 && len(i.L) < 41 && ascend(i.L)
	}
	return false
}

// may is the sentence of 11.1.
func may(db []api.Pair) bool {
	var keys []string
	for _, p := range db {
		if len(p.Key) > 40 || !mayItem(p.Item) {
			return false
		}
		keys = append(keys, p.Key)
	}
	return ascend(keys)
}

func checkMay(t *testing.T, db []api.Pair, want bool) {
	t.Helper()
	if May(db) != want {
		t.Errorf("11.1: May is %v, want %v: %s", !want, want, tell(db))
	}
	if may(db) != want {
		t.Errorf("the tests' own May is %v, want %v: %s", !want, want, tell(db))
	}
}

// checkKey holds Raw of a key, and Get of it at all times that matter, against the
// map.
func checkKey(t *testing.T, db []api.Pair, key string) {
	t.Helper()
	want, has := keyed(db)[key]
	if i, ok := Raw(db, key); ok != has || !equalItems(i, want) {
		t.Errorf("11.1: Raw of %s is %s, %v, want %s, %v: %s", short(key), tellItem(i), ok, tellItem(want), has, tell(db))
	}
	for _, now := range []int{math.MinInt, -1, 0, 1, want.Exp - 1, want.Exp, want.Exp + 1, 1 << 52, math.MaxInt} {
		alive := has && (want.Exp == 0 || want.Exp > now)
		wantNow := want
		if !alive {
			wantNow = api.Item{}
		}
		if i, ok := Get(db, key, now); ok != alive || !equalItems(i, wantNow) {
			t.Errorf("11.1: Get of %s at %d is %s, %v, want %s, %v: %s", short(key), now, tellItem(i), ok, tellItem(wantNow), alive, tell(db))
		}
	}
}

func checkApply(t *testing.T, db []api.Pair, l ...api.Effect) {
	t.Helper()
	want := applied(db, l)
	got := Apply(db, l...)
	if !equal(got, want) {
		t.Errorf("11.1: Apply of %s is %s, want %s: %s", tellEffects(l), tell(got), tell(want), tell(db))
	}
	if !May(got) {
		t.Errorf("11.1: Apply of %s isn't valid: %s: %s", tellEffects(l), tell(got), tell(db))
	}
}

func checkIn(t *testing.T, db []api.Pair, slot int) {
	t.Helper()
	if got, want := In(db, slot), inSlot(db, slot); !slices.Equal(got, want) {
		t.Errorf("11.1: In of slot %d is %q, want %q: %s", slot, got, want, tell(db))
	}
}

// checkAll holds All against the pairs, and against Apply as 11.2 says.
func checkAll(t *testing.T, db []api.Pair) {
	t.Helper()
	var want []api.Effect
	for _, p := range db {
		want = append(want, api.Effect{Key: p.Key, Gone: false, Item: p.Item})
	}
	if got := All(db); !equalEffects(got, want) {
		t.Errorf("11.1: All is %s, want %s", tellEffects(got), tellEffects(want))
	}
	for _, empty := range [][]api.Pair{nil, {}} {
		if got := Apply(empty, All(db)...); !equal(got, db) || !Same(got, db) {
			t.Errorf("11.2: applying All to the empty space is %s, want %s", tell(got), tell(db))
		}
	}
}

// valids are valid items of each Kind, with the least and the most that they may
// have.
func valids() []api.Item {
	l := []api.Item{
		txt(""), txt("a"), txt("a b\r\n\x00\xff"), txt(times(300)),
		hash(fields("", "")...), hash(fields("a", "1", "b", "1")...), hash(named(rising(40))...), hash(fields(times(300), times(300))...),
		list(""), list("b", "a", "b"), list(rising(40)...), list(slices.Repeat([]string{times(300)}, 40)...),
		set(""), set("", "a"), set(rising(40)...), set(times(299), times(300)),
	}
	for _, i := range slices.Clone(l) {
		l = append(l, ending(i, 1), ending(i, 1<<53))
	}
	return l
}

// invalids are items that 5.1 rules out, for one reason each.
func invalids() []api.Item {
	l := []api.Item{
		{}, {Kind: 5, S: "a"}, {Kind: -1, S: "a"}, {Kind: 5}, {Kind: 1<<32 + 1}, {Kind: math.MinInt}, {Kind: math.MaxInt}, {S: "a"}, {L: []string{"a"}}, {F: fields("a", "")}, {Exp: 1},
		txt(times(301)), {Kind: api.KText, F: fields("a", "")}, {Kind: api.KText, S: "a", F: make([]api.Field, 1)}, {Kind: api.KText, L: []string{""}}, {Kind: api.KText, S: "a", L: []string{"a"}},
		hash(), {Kind: api.KHash, F: []api.Field{}}, hash(named(rising(41))...), hash(fields("a", "", "a", "")...), hash(fields("b", "", "a", "")...), hash(fields("", "", "a", "", "a", "")...), hash(fields(times(301), "")...), hash(fields("a", times(301))...),
		{Kind: api.KHash, F: fields("a", "1"), S: "a"}, {Kind: api.KHash, F: fields("a", "1"), L: []string{""}}, {Kind: api.KHash, L: []string{"a"}},
		list(), {Kind: api.KList, L: []string{}}, list(rising(41)...), list(times(301)), list("a", times(301)), {Kind: api.KList, L: []string{"a"}, S: "a"}, {Kind: api.KList, L: []string{"a"}, F: make([]api.Field, 1)}, {Kind: api.KList, F: fields("a", "")},
		set(), {Kind: api.KSet, L: []string{}}, set(rising(41)...), set(times(301)), set("a", "a"), set("b", "a"), set("", ""), set("a", "b", "b"), {Kind: api.KSet, L: []string{"a"}, S: "a"}, {Kind: api.KSet, L: []string{"a"}, F: make([]api.Field, 1)}, {Kind: api.KSet, F: fields("a", "")},
	}
	for _, exp := range []int{-1, math.MinInt, 1<<53 + 1, math.MaxInt} {
		for _, i := range []api.Item{txt("a"), hash(fields("a", "1")...), list("a"), set("a")} {
			l = append(l, ending(i, exp))
		}
	}
	return l
}

func TestMayOfItems(t *testing.T) {
	for _, n := range []int{1, 2, 3, 10} {
		for at := range n {
			db := of(rising(n)...)
			checkMay(t, db, true)
			for _, i := range valids() {
				db[at].Item = i
				checkMay(t, db, true)
			}
			for _, i := range invalids() {
				db[at].Item = i
				checkMay(t, db, false)
			}
		}
	}
}

func TestMayOfFewPairs(t *testing.T) {
	checkMay(t, nil, true)
	checkMay(t, []api.Pair{}, true)
	checkMay(t, of("a")[:0], true)
	checkMay(t, of(""), true)
	checkMay(t, of("a"), true)
	checkMay(t, of("\x00"), true)
	checkMay(t, []api.Pair{{}}, false)
	checkMay(t, []api.Pair{{Key: "a"}}, false)
	checkMay(t, []api.Pair{{Key: "a", Item: txt("1")}, {Key: "a", Item: txt("1")}}, false)
	checkMay(t, []api.Pair{{Key: "a", Item: txt("1")}, {Key: "a", Item: txt("2")}}, false)
	// An item that is dead by now is as valid as any other.
	checkMay(t, []api.Pair{{Key: "a", Item: ending(txt("1"), 1)}}, true)
	// Items need not differ, nor rise.
	checkMay(t, []api.Pair{{Key: "a", Item: txt("2")}, {Key: "b", Item: txt("2")}, {Key: "c", Item: txt("1")}}, true)
}

func TestMayOfLongKeys(t *testing.T) {
	for _, c := range []struct {
		key  string
		want bool
	}{
		{times(39), true}, {times(40), true}, {times(41), false}, {times(42), false}, {times(80), false}, {times(296), false}, {times(300), false}, {times(1 << 16), false},
		{strings.Repeat("\x00", 40), true}, {strings.Repeat("\x00", 41), false}, {strings.Repeat("\xff", 40), true}, {strings.Repeat("\xff", 41), false},
		// Bytes count, whatever runes they make, and whatever part of them makes the slot.
		{strings.Repeat("é", 20), true}, {strings.Repeat("é", 21), false}, {strings.Repeat("é", 40), false}, {"{a}" + times(37), true}, {"{a}" + times(38), false},
	} {
		checkMay(t, of(c.key), c.want)
		for _, n := range []int{2, 3, 10} {
			for at := range n {
				// Behind what stands there the key is still less than the one that follows.
				keys := rising(n)
				keys[at] = (keys[at] + c.key)[:len(c.key)]
				checkMay(t, of(keys...), c.want)
			}
		}
	}
}

func TestMayOfOrder(t *testing.T) {
	for _, c := range []struct {
		a, b string
		want bool
	}{
		{"a", "b", true}, {"b", "a", false}, {"a", "a", false}, {"", "", false}, {"", "a", true}, {"a", "", false}, {"", "\x00", true}, {"\x00", "", false},
		{"a", "aa", true}, {"aa", "a", false}, {"a", "a\x00", true}, {"a\x00", "a", false}, {"ab", "b", true}, {"b", "ab", false},
		{"A", "a", true}, {"a", "A", false}, {"B", "a", true}, {"10", "9", true}, {"9", "10", false}, {"-1", "-2", true},
		{"z", "é", true}, {"é", "z", false}, {"\x7f", "\x80", true}, {"\x80", "\x7f", false}, {"\x00", "\xff", true}, {"\xff", "\x00", false},
		{"\uffff", "\U00010000", true}, {"\xf0", "\uffff", false}, {"\uffff", "\xf0", true}, {"e\u0301", "é", true},
		{"a", "{a}", true}, {"{a}", "a", false}, {"{a}", "{a}2", true}, {"{b}1", "{a}2", false}, {"{b}1", "{b}1", false},
		{times(39), times(40), true}, {times(40), times(39), false}, {times(40), times(40), false}, {times(39) + "a", times(39) + "b", true}, {times(39) + "b", times(39) + "a", false},
	} {
		checkMay(t, of(c.a, c.b), c.want)
	}
}

func TestMayOfOrderAtEachPlace(t *testing.T) {
	for _, n := range []int{2, 3, 4, 50, 300} {
		good := rising(n)
		checkMay(t, of(good...), true)
		for at := range n - 1 {
			equal := slices.Clone(good)
			equal[at+1] = equal[at]
			checkMay(t, of(equal...), false)
			swapped := slices.Clone(good)
			swapped[at], swapped[at+1] = swapped[at+1], swapped[at]
			checkMay(t, of(swapped...), false)
			behind := slices.Clone(good)
			behind[at] = "~"
			checkMay(t, of(behind...), false)
			ahead := slices.Clone(good)
			ahead[at+1] = ""
			checkMay(t, of(ahead...), false)
			again := slices.Clone(good)
			again[n-1] = again[at]
			checkMay(t, of(again...), false)
		}
		slices.Reverse(good)
		checkMay(t, of(good...), false)
	}
	checkMay(t, of(rising(20000)...), true)
}

// All lists of some keys, up to four of them.
func TestMayOfAllLists(t *testing.T) {
	some := []string{"", "\x00", "a", "ab", "b", "\x80", times(40), times(41)}
	lists := [][]string{nil}
	valid := 0
	for len(lists) > 0 {
		l := lists[len(lists)-1]
		lists = lists[:len(lists)-1]
		db := of(l...)
		want := may(db)
		checkMay(t, db, want)
		if want {
			valid++
		}
		for _, key := range some {
			if len(l) < 4 {
				lists = append(lists, append(slices.Clone(l), key))
			}
		}
	}
	// Of seven keys that may be: none of them, one, two, three, four.
	if valid != 1+7+21+35+35 {
		t.Errorf("%d of the lists are valid", valid)
	}
}

func TestGetAndRaw(t *testing.T) {
	db := []api.Pair{{Key: "", Item: txt("e")}, {Key: "a", Item: ending(txt("1"), 5)}, {Key: "c", Item: list("x", "y")}, {Key: "{a}2", Item: hash(fields("f", "v")...)}}
	for _, c := range []struct {
		key       string
		now       int
		want      api.Item
		has, live bool
	}{
		{"", 9, txt("e"), true, true}, {"", math.MaxInt, txt("e"), true, true}, {"", math.MinInt, txt("e"), true, true},
		{"a", 4, ending(txt("1"), 5), true, true}, {"a", 5, ending(txt("1"), 5), true, false}, {"a", 6, ending(txt("1"), 5), true, false}, {"a", 0, ending(txt("1"), 5), true, true}, {"a", -6, ending(txt("1"), 5), true, true},
		{"c", 1 << 52, list("x", "y"), true, true}, {"{a}2", 7, hash(fields("f", "v")...), true, true},
		{"b", 0, api.Item{}, false, false}, {"z", 0, api.Item{}, false, false}, {"\x00", 0, api.Item{}, false, false}, {"{a}", 0, api.Item{}, false, false}, {"{a}1", 0, api.Item{}, false, false}, {"{a}22", 0, api.Item{}, false, false}, {"A", 0, api.Item{}, false, false}, {"cc", 0, api.Item{}, false, false}, {"~", 0, api.Item{}, false, false},
	} {
		if i, ok := Raw(db, c.key); ok != c.has || !equalItems(i, c.want) {
			t.Errorf("11.1: Raw of %q is %s, %v", c.key, tellItem(i), ok)
		}
		wantNow := c.want
		if !c.live {
			wantNow = api.Item{}
		}
		if i, ok := Get(db, c.key, c.now); ok != c.live || !equalItems(i, wantNow) {
			t.Errorf("11.1: Get of %q at %d is %s, %v", c.key, c.now, tellItem(i), ok)
		}
	}
}

// names are in order, byte by byte; some begin with others, some share a slot.
func names() []string {
	return []string{"", "\x00", "a", "a\x00", "ab", "b", "{a}2", "\x7f{a}", "\xff"}
}

// subsets are all spaces there are with those keys.
func subsets(keys []string) iter.Seq[[]api.Pair] {
	whole := of(keys...)
	return func(yield func([]api.Pair) bool) {
		for which := range uint(1) << len(whole) {
			var db []api.Pair
			for i, p := range whole {
				if which>>i&1 == 1 {
					db = append(db, p)
				}
			}
			if !yield(db) {
				return
			}
		}
	}
}

// asked are keys that are in some of the subsets, and others beside them.
func asked() []string {
	return append(names(), "\x00\x00", "a\x00\x00", "aa", "abc", "A", "c", "{a}", "{", "\xfe", "\xff\xff", times(40), times(41), times(1000))
}

func TestAllSpacesOfSomeKeys(t *testing.T) {
	slots := []int{-1, 0, 1, 16383, 16384}
	for _, key := range asked() {
		slots = append(slots, slotOf(key))
	}
	for db := range subsets(names()) {
		checkMay(t, db, true)
		checkAll(t, db)
		checkApply(t, db)
		for _, key := range asked() {
			checkKey(t, db, key)
			if len(key) <= 40 {
				checkApply(t, db, put(key, txt("new")))
				checkApply(t, db, gone(key))
			}
		}
		for _, slot := range slots {
			checkIn(t, db, slot)
		}
	}
}

func TestKeysOfEachByte(t *testing.T) {
	for _, around := range [][2]string{{"", ""}, {"m", ""}, {"", "m"}, {"m", "m"}, {"\xff", "\x00"}, {"{", "}"}, {"{m}", ""}} {
		var whole []string
		for _, s := range bytesInOrder() {
			whole = append(whole, around[0]+s+around[1])
		}
		db := of(whole...)
		checkMay(t, db, true)
		checkAll(t, db)
		var l []api.Effect
		for i := range 256 {
			// 77 has no divisor in common with 256: each one has its turn.
			at := i * 77 % 256
			l = append(l, put(whole[at], db[at].Item))
		}
		if got := Apply(nil, l...); !equal(got, db) {
			t.Errorf("11.1: Apply of all keys around %q is %s", around, tell(got))
		}
		for i, key := range whole {
			checkKey(t, db, key)
			if got := Apply(db, gone(key)); !equal(got, slices.Concat(db[:i], db[i+1:])) {
				t.Errorf("11.1: Apply that removes %q isn't all others", key)
			}
			checkKey(t, slices.Concat(db[:i], db[i+1:]), key)
			checkIn(t, db, slotOf(key))
		}
	}
}

func TestSpacesOfManyPairs(t *testing.T) {
	for _, n := range []int{0, 1, 2, 3, 7, 8, 9, 64, 101} {
		db := of(rising(n)...)
		checkAll(t, db)
		for i, p := range db {
			checkKey(t, db, p.Key)
			if got, want := Apply(db, put(p.Key, set("new"))), slices.Concat(db[:i], []api.Pair{{Key: p.Key, Item: set("new")}}, db[i+1:]); !equal(got, want) {
				t.Errorf("11.1: Apply doesn't set the item of key %d of %d", i, n)
			}
			if got, want := Apply(db, gone(p.Key)), slices.Concat(db[:i], db[i+1:]); !equal(got, want) {
				t.Errorf("11.1: Apply doesn't remove key %d of %d", i, n)
			}
		}
		for i := range n + 1 {
			key := between(i)
			checkKey(t, db, key)
			if got, want := Apply(db, put(key, set("new"))), slices.Concat(db[:i], []api.Pair{{Key: key, Item: set("new")}}, db[i:]); !equal(got, want) {
				t.Errorf("11.1: Apply doesn't set a key behind %d of %d", i, n)
			}
			if got := Apply(db, gone(key)); !equal(got, db) {
				t.Errorf("11.1: Apply that removes no key behind %d of %d", i, n)
			}
		}
	}
}

func TestItemsOfEachKind(t *testing.T) {
	for _, i := range valids() {
		for at, key := range []string{"a", "b", "c"} {
			db := of("a", "b", "c")
			checkApply(t, db, put(key, i))
			checkApply(t, nil, put(key, i))
			db[at].Item = i
			checkKey(t, db, key)
			checkAll(t, db)
			checkApply(t, db, put(key, i))
			checkApply(t, db, gone(key))
			checkApply(t, db, put("bb", txt("")))
		}
	}
}

func TestLifeOfItems(t *testing.T) {
	for _, exp := range []int{0, 1, 2, 5, 1 << 31, 1 << 32, 1 << 52, 1<<53 - 1, 1 << 53} {
		db := []api.Pair{{Key: "a", Item: ending(txt("1"), exp)}, {Key: "b", Item: ending(list("1"), exp)}}
		for _, now := range []int{math.MinInt, -1 << 53, -5, -1, 0, 1, exp - 2, exp - 1, exp, exp + 1, 1 << 53, 1<<53 + 1, math.MaxInt} {
			for _, p := range db {
				i, ok := Get(db, p.Key, now)
				if alive := exp == 0 || exp > now; ok != alive || alive && !equalItems(i, p.Item) || !alive && !nothing(i) {
					t.Errorf("11.1: Get of an item with Exp %d at %d is %s, %v", exp, now, tellItem(i), ok)
				}
			}
		}
		for _, p := range db {
			if i, ok := Raw(db, p.Key); !ok || !equalItems(i, p.Item) {
				t.Errorf("11.1: Raw of an item with Exp %d is %s, %v", exp, tellItem(i), ok)
			}
			if got := In(db, slotOf(p.Key)); !slices.Equal(got, []string{p.Key}) {
				t.Errorf("11.1: In with an item with Exp %d is %q", exp, got)
			}
		}
		checkAll(t, db)
		checkApply(t, db)
		checkApply(t, db, gone("a"))
	}
}

func TestApply(t *testing.T) {
	db := []api.Pair{{Key: "b", Item: txt("1")}, {Key: "d", Item: ending(list("x"), 5)}}
	b, d := db[0], db[1]
	for _, c := range []struct {
		l    []api.Effect
		want []api.Pair
	}{
		{nil, db}, {[]api.Effect{}, db},
		{[]api.Effect{gone("x")}, db}, {[]api.Effect{gone("")}, db}, {[]api.Effect{gone("c")}, db},
		{[]api.Effect{gone("b")}, []api.Pair{d}}, {[]api.Effect{gone("d")}, []api.Pair{b}}, {[]api.Effect{gone("d"), gone("b")}, nil}, {[]api.Effect{gone("b"), gone("b")}, []api.Pair{d}},
		{[]api.Effect{put("a", set("s"))}, []api.Pair{{Key: "a", Item: set("s")}, b, d}},
		{[]api.Effect{put("c", set("s"))}, []api.Pair{b, {Key: "c", Item: set("s")}, d}},
		{[]api.Effect{put("e", set("s"))}, []api.Pair{b, d, {Key: "e", Item: set("s")}}},
		{[]api.Effect{put("", set("s"))}, []api.Pair{{Key: "", Item: set("s")}, b, d}},
		// A new item takes the place of the old one whole: its Kind, its Exp.
		{[]api.Effect{put("b", set("s"))}, []api.Pair{{Key: "b", Item: set("s")}, d}},
		{[]api.Effect{put("d", list("x"))}, []api.Pair{b, {Key: "d", Item: list("x")}}},
		{[]api.Effect{put("d", ending(list("x"), 9))}, []api.Pair{b, {Key: "d", Item: ending(list("x"), 9)}}},
		{[]api.Effect{put("d", ending(list("x"), 5))}, db},
		// The last effect on a key decides.
		{[]api.Effect{put("b", txt("2")), put("b", txt("3"))}, []api.Pair{{Key: "b", Item: txt("3")}, d}},
		{[]api.Effect{put("b", txt("3")), put("b", txt("2"))}, []api.Pair{{Key: "b", Item: txt("2")}, d}},
		{[]api.Effect{put("b", txt("2")), gone("b")}, []api.Pair{d}},
		{[]api.Effect{gone("b"), put("b", txt("2"))}, []api.Pair{{Key: "b", Item: txt("2")}, d}},
		{[]api.Effect{gone("b"), put("b", txt("1"))}, db},
		{[]api.Effect{put("c", txt("2")), gone("c")}, db},
		{[]api.Effect{gone("c"), put("c", txt("2"))}, []api.Pair{b, {Key: "c", Item: txt("2")}, d}},
		{[]api.Effect{put("c", txt("2")), gone("c"), put("c", txt("3")), gone("b"), put("a", txt("4")), put("c", txt("5"))}, []api.Pair{{Key: "a", Item: txt("4")}, {Key: "c", Item: txt("5")}, d}},
		{[]api.Effect{put("e", txt("5")), put("c", txt("3")), gone("d"), put("a", txt("1")), gone("b")}, []api.Pair{{Key: "a", Item: txt("1")}, {Key: "c", Item: txt("3")}, {Key: "e", Item: txt("5")}}},
		// An item beside Gone, valid or not, says nothing.
		{[]api.Effect{{Key: "b", Gone: true, Item: txt("2")}}, []api.Pair{d}},
		{[]api.Effect{{Key: "c", Gone: true, Item: txt("2")}}, db},
		{[]api.Effect{{Key: "b", Gone: true, Item: api.Item{Kind: 9, Exp: -1}}, {Key: "e", Gone: true, Item: set("b", "a")}}, []api.Pair{d}},
		// Keys that begin with others.
		{[]api.Effect{put("bb", txt("2")), gone("dd"), gone("d")}, []api.Pair{b, {Key: "bb", Item: txt("2")}}},
		{[]api.Effect{put(times(40), txt("2"))}, []api.Pair{b, d, {Key: times(40), Item: txt("2")}}},
	} {
		if got := Apply(db, c.l...); !equal(got, c.want) {
			t.Errorf("11.1: Apply of %s is %s, want %s", tellEffects(c.l), tell(got), tell(c.want))
		}
		checkApply(t, db, c.l...)
		checkApply(t, nil, c.l...)
	}
}

// All pairs of effects on some keys, and all threes on fewer, with all spaces of
// these keys.
func TestApplyOfAllEffects(t *testing.T) {
	on := func(keys ...string) []api.Effect {
		var l []api.Effect
		for _, key := range keys {
			l = append(l, gone(key), put(key, ending(txt("new"), 3)), put(key, hash(fields("new", key)...)))
		}
		return l
	}
	for db := range subsets([]string{"", "a", "ab", "b", "\xff"}) {
		all := on("", "\x00", "a", "aa", "ab", "b", "\xff", "\xff\xff")
		for _, first := range all {
			for _, second := range all {
				checkApply(t, db, first, second)
			}
		}
	}
	for db := range subsets([]string{"b", "d"}) {
		all := on("a", "b", "c", "d")
		for _, first := range all {
			for _, second := range all {
				for _, third := range all {
					checkApply(t, db, first, second, third)
				}
			}
		}
	}
}

// orders are all orders of the effects.
func orders(l []api.Effect) [][]api.Effect {
	if len(l) == 0 {
		return [][]api.Effect{nil}
	}
	var all [][]api.Effect
	for i, e := range l {
		for _, order := range orders(slices.Concat(l[:i], l[i+1:])) {
			all = append(all, append([]api.Effect{e}, order...))
		}
	}
	return all
}

func TestApplyInAnyOrder(t *testing.T) {
	l := []api.Effect{put("a", txt("a")), put("b", txt("b")), gone("b"), put("c", list("c")), gone("d"), put("e", ending(set("e"), 4)), gone("f")}
	db := of("b", "d", "f")
	for _, order := range orders(l) {
		checkApply(t, db, order...)
	}
}

// walk is numbers without order, always the same ones.
func walk() func(below int) int {
	n := uint64(7)
	return func(below int) int {
		n = n*6364136223846793005 + 1442695040888963407
		return int(n >> 33 % uint64(below))
	}
}

// A walk of effects without order, beside a map.
func TestAWalk(t *testing.T) {
	keys := rising(60)
	keys = append(keys, asked()[:15]...)
	next := walk()
	var db []api.Pair
	m := map[string]api.Item{}
	for step := range 6000 {
		var l []api.Effect
		for range next(7) {
			key := keys[next(len(keys))]
			if next(5) < 2 {
				delete(m, key)
				l = append(l, gone(key))
				continue
			}
			m[key] = nth(step + next(5))
			l = append(l, put(key, m[key]))
		}
		db = Apply(db, l...)
		if want := inOrder(m); !equal(db, want) || !May(db) {
			t.Fatalf("11.1: after %d steps the space is %s, want %s", step, tell(db), tell(want))
		}
		checkKey(t, db, keys[next(len(keys))])
		if step%50 == 0 {
			checkAll(t, db)
			checkIn(t, db, slotOf("a"))
		}
	}
}

// However many effects there are, on however few keys.
func TestApplyOfManyEffects(t *testing.T) {
	next := walk()
	for _, n := range []int{1, 2, 3, 10, 1000} {
		keys := rising(n)
		db := of(keys...)
		var l []api.Effect
		for step := range 20000 {
			key := keys[next(n)]
			if next(2) == 0 {
				key = between(next(n + 1))
			}
			if next(3) == 0 {
				l = append(l, gone(key))
				continue
			}
			l = append(l, put(key, nth(step)))
		}
		checkApply(t, db, l...)
		checkApply(t, nil, l...)
	}
}

func TestIn(t *testing.T) {
	db := []api.Pair{{Key: "", Item: txt("e")}, {Key: "a", Item: ending(txt("1"), 1)}, {Key: "c", Item: list("x", "y")}, {Key: "x{a}", Item: ending(set("s"), 1<<53)}, {Key: "{a}2", Item: hash(fields("f", "v")...)}, {Key: "{a}{b}", Item: txt("")}, {Key: "{}a", Item: txt("")}}
	for _, c := range []struct {
		slot int
		want []string
	}{
		{15495, []string{"a", "x{a}", "{a}2", "{a}{b}"}}, {0, []string{""}}, {slotOf("c"), []string{"c"}}, {slotOf("{}a"), []string{"{}a"}},
		{slotOf("b"), nil}, {1, nil}, {15494, nil}, {15496, nil}, {16383, nil},
		{-1, nil}, {-15495, nil}, {15495 - 16384, nil}, {15495 + 16384, nil}, {16384, nil}, {32768, nil}, {-16384, nil}, {1 << 16, nil}, {1<<32 + 15495, nil}, {1 << 32, nil}, {math.MinInt, nil}, {math.MaxInt, nil},
	} {
		if got := In(db, c.slot); !slices.Equal(got, c.want) {
			t.Errorf("11.1: In of slot %d is %q, want %q", c.slot, got, c.want)
		}
		if got := In(nil, c.slot); len(got) != 0 {
			t.Errorf("11.1: In of slot %d of the empty space is %q", c.slot, got)
		}
	}
	if got := In([]api.Pair{{Key: "a", Item: txt("1")}, {Key: "{a}2", Item: txt("2")}}, 15495); !slices.Equal(got, []string{"a", "{a}2"}) {
		t.Errorf("11.1: the chapter's example is %q", got)
	}
}

// alike are so many keys of one slot, each without a tag.
func alike(slot, n int) []string {
	var l []string
	for i := 0; len(l) < n; i++ {
		if key := strconv.Itoa(i); slotOf(key) == slot {
			l = append(l, key)
		}
	}
	return l
}

func TestInWithoutTags(t *testing.T) {
	for _, slot := range []int{0, 1, 15495, 16383} {
		l := append(alike(slot, 5), rising(20)...)
		db := of(slices.Compact(slices.Sorted(slices.Values(l)))...)
		checkIn(t, db, slot)
		if got := In(db, slot); len(got) < 5 {
			t.Errorf("11.1: In of slot %d is %q, want 5 keys at least", slot, got)
		}
	}
}

// Each key is in one slot, and in no other.
func TestInOfAllSlots(t *testing.T) {
	l := append(rising(100), names()...)
	l = append(l, alike(1, 1)[0], alike(16383, 1)[0], "{}{a}", "{{a}}", "a{", "}{a}", "{a", "a}")
	for i := range 10 {
		l = append(l, "{m10001}"+strconv.Itoa(i), strconv.Itoa(i)+"{a}", strconv.Itoa(i)+"{}")
	}
	db := of(slices.Sorted(slices.Values(l))...)
	checkMay(t, db, true)
	want := map[int][]string{}
	for _, p := range db {
		want[slotOf(p.Key)] = append(want[slotOf(p.Key)], p.Key)
	}
	for slot := -5; slot < 16384+5; slot++ {
		if got := In(db, slot); !slices.Equal(got, want[slot]) {
			t.Errorf("11.1: In of slot %d is %q, want %q", slot, got, want[slot])
		}
	}
}

// again is equal pairs, made anew, with spare capacity at each list.
func again(db []api.Pair) []api.Pair {
	l := make([]api.Pair, 0, len(db)+3)
	for _, p := range db {
		l = append(l, api.Pair{Key: string([]byte(p.Key)), Item: againItem(p.Item)})
	}
	for i := range l[len(l):cap(l)] {
		l[:cap(l)][len(l)+i] = api.Pair{Key: "spare", Item: txt("spare")}
	}
	return l
}

func againItem(i api.Item) api.Item {
	c := api.Item{Kind: i.Kind, S: string([]byte(i.S)), Exp: i.Exp}
	c.F = append(slices.Clone(i.F), fields("spare", "1", "spare", "2")...)[:len(i.F)]
	c.L = append(slices.Clone(i.L), "spare", "spare")[:len(i.L)]
	return c
}

func againEffects(l []api.Effect) []api.Effect {
	same := make([]api.Effect, 0, len(l)+3)
	for _, e := range l {
		same = append(same, api.Effect{Key: string([]byte(e.Key)), Gone: e.Gone, Item: againItem(e.Item)})
	}
	for i := range same[len(l):cap(same)] {
		same[:cap(same)][len(l)+i] = put("spare", txt("spare"))
	}
	return same
}

// turned are pairs that differ from these each in one thing alone.
func turned(db []api.Pair) [][]api.Pair {
	all := [][]api.Pair{append(again(db), api.Pair{}), append([]api.Pair{{}}, db...), append(again(db), api.Pair{Key: "~", Item: txt("~")})}
	for at := range db {
		turn := func(turn func(p *api.Pair)) {
			l := again(db)
			turn(&l[at])
			all = append(all, l)
		}
		turn(func(p *api.Pair) { p.Key += "\x00" })
		turn(func(p *api.Pair) { p.Key = "\x00" + p.Key })
		turn(func(p *api.Pair) { p.Item.Kind++ })
		turn(func(p *api.Pair) { p.Item.Kind-- })
		turn(func(p *api.Pair) { p.Item.S += "\x00" })
		turn(func(p *api.Pair) { p.Item.Exp++ })
		turn(func(p *api.Pair) { p.Item.Exp-- })
		turn(func(p *api.Pair) { p.Item.F = append(p.Item.F, api.Field{}) })
		turn(func(p *api.Pair) { p.Item.L = append(p.Item.L, "") })
		for i := range db[at].Item.F {
			turn(func(p *api.Pair) { p.Item.F[i].Name += "~" })
			turn(func(p *api.Pair) { p.Item.F[i].Val += "~" })
			turn(func(p *api.Pair) { p.Item.F = slices.Delete(p.Item.F, i, i+1) })
		}
		for i := range db[at].Item.L {
			turn(func(p *api.Pair) { p.Item.L[i] += "~" })
			turn(func(p *api.Pair) { p.Item.L = slices.Delete(p.Item.L, i, i+1) })
		}
		all = append(all, slices.Delete(again(db), at, at+1))
	}
	return all
}

func checkSame(t *testing.T, a, b []api.Pair, want bool) {
	t.Helper()
	if Same(a, b) != want || Same(b, a) != want {
		t.Errorf("11.1: Same is %v, %v, want %v: %s and %s", Same(a, b), Same(b, a), want, tell(a), tell(b))
	}
}

// disordered are lists that are no spaces: of them May and Same alone promise
// anything, but for R1 to R5.
func disordered() [][]api.Pair {
	l := [][]api.Pair{
		of("b", "a"), of("a", "a"), of("", ""), of("c", "b", "a"), of("a", "c", "b", "d"), of("a", "b", "a"), of("\xff", ""), of("b", "b", "b"), of("{a}2", "a", "{a}1", "a"),
		of(times(41)), of(times(1000), times(1000)), of(slices.Repeat([]string{"m"}, 50)...), of(slices.Concat(rising(20), rising(20))...), make([]api.Pair, 4),
		{{Key: "a", Item: txt("1")}, {Key: "a", Item: txt("2")}}, {{Key: "a", Item: txt("2")}, {Key: "a", Item: txt("1")}},
	}
	for _, i := range invalids() {
		l = append(l, []api.Pair{{Key: "a", Item: i}, {Key: "b", Item: i}})
	}
	return l
}

// samples are spaces, and lists that are none, for what is to hold of all calls.
func samples() [][]api.Pair {
	l := [][]api.Pair{nil, {}, of(""), of("a"), of("", "a", "ab"), of("b", "d"), of(names()...), of(rising(7)...), of(rising(33)...), of(times(40))}
	for _, i := range valids() {
		l = append(l, []api.Pair{{Key: "a", Item: i}, {Key: "b", Item: i}, {Key: "{a}", Item: i}})
	}
	return append(l, disordered()...)
}

func TestSame(t *testing.T) {
	for _, db := range samples() {
		checkSame(t, db, db, true)
		checkSame(t, db, again(db), true)
		checkSame(t, db, slices.Clone(db), true)
		for _, other := range turned(db) {
			checkSame(t, db, other, false)
		}
		for n := range db {
			checkSame(t, db, db[:n], false)
			checkSame(t, db, db[n+1:], false)
		}
	}
	checkSame(t, nil, []api.Pair{}, true)
	checkSame(t, nil, []api.Pair{{}}, false)
	checkSame(t, []api.Pair{{}}, []api.Pair{{Item: api.Item{F: []api.Field{}, L: []string{}}}}, true)
	checkSame(t, of("a", "b"), []api.Pair{of("a", "b")[1], of("a", "b")[0]}, false)
	checkSame(t, of("a", "b"), of("a", "c"), false)
	checkSame(t, of("a", "b"), of("ab", ""), false)
	checkSame(t, of("a"), of("A"), false)
	checkSame(t, of("\xff"), of("\ufffd"), false)
	checkSame(t, of("e\u0301"), of("é"), false)
	// Items that are dead are compared as all others are.
	checkSame(t, []api.Pair{{Key: "a", Item: ending(txt("1"), 1)}}, []api.Pair{{Key: "a", Item: ending(txt("1"), 2)}}, false)
	checkSame(t, []api.Pair{{Key: "a", Item: ending(txt("1"), 1)}}, nil, false)
}

// Lists of one, two or three pairs are the same just if they are equal.
func TestSameOfAllOfSome(t *testing.T) {
	all := [][]api.Pair{nil}
	for _, p := range []api.Pair{{}, {Key: "a"}, {Key: "a", Item: txt("")}, {Key: "a", Item: txt("1")}, {Key: "b", Item: txt("1")}} {
		for _, l := range slices.Clone(all) {
			all = append(all, append(slices.Clone(l), p), append([]api.Pair{p}, l...))
		}
	}
	for _, a := range all {
		for _, b := range all {
			checkSame(t, a, again(b), equal(a, b))
		}
	}
}

func TestAll(t *testing.T) {
	if len(All(nil)) != 0 || len(All([]api.Pair{})) != 0 {
		t.Error("11.1: All of an empty space isn't empty")
	}
	db := []api.Pair{{Key: "", Item: txt("e")}, {Key: "a", Item: ending(list("x", "y"), 5)}}
	if got := All(db); !equalEffects(got, []api.Effect{{Key: "", Item: txt("e")}, {Key: "a", Item: ending(list("x", "y"), 5)}}) {
		t.Errorf("11.1: All is %s", tellEffects(got))
	}
	for _, db := range samples() {
		if may(db) {
			checkAll(t, db)
		}
	}
	checkAll(t, of(rising(5000)...))
}

// 11.2: keys that no effect names stay as they are, and the others are as the
// last effect on them says.
func TestKeysThatNoEffectNames(t *testing.T) {
	next := walk()
	for db := range subsets(names()) {
		var l []api.Effect
		last := map[string]api.Effect{}
		for step := range next(8) {
			key := names()[next(len(names()))]
			e := put(key, nth(step))
			if next(2) == 0 {
				e = gone(key)
			}
			last[key] = e
			l = append(l, e)
		}
		after := Apply(db, l...)
		for _, key := range asked() {
			want, has := Raw(db, key)
			if e, isNamed := last[key]; isNamed {
				want, has = e.Item, !e.Gone
			}
			if i, ok := Raw(after, key); ok != has || !equalItems(i, want) {
				t.Errorf("11.2: after %s the item of %s is %s, %v, want %s, %v: %s", tellEffects(l), short(key), tellItem(i), ok, tellItem(want), has, tell(db))
			}
		}
	}
}

// 11.2, with what is there already: All of one space applied to another one.
func TestAllOnOtherSpaces(t *testing.T) {
	keys := []string{"", "a", "ab", "b", "\xff"}
	for db := range subsets(keys) {
		for other := range subsets(keys) {
			for i := range other {
				other[i].Item = txt("other")
			}
			checkApply(t, other, All(db)...)
		}
		if got := Apply(db, All(db)...); !equal(got, db) {
			t.Errorf("11.2: All of a space on the space itself is %s: %s", tell(got), tell(db))
		}
	}
}

// effectsFor are lists of effects for what is to hold of all calls.
func effectsFor(db []api.Pair) [][]api.Effect {
	l := [][]api.Effect{nil, {}, {gone("a")}, {put("a", nth(1))}, {put("a", nth(1)), put("c", nth(2)), gone("b"), put("a", nth(3)), put("", nth(4)), gone("zz")}}
	var all, removed []api.Effect
	for n, p := range db {
		all = append(all, put(p.Key, nth(n+1)), put(p.Key+"+", nth(n+2)))
		removed = append(removed, api.Effect{Key: p.Key, Gone: true, Item: nth(n)})
	}
	var wrong []api.Effect
	for n, i := range invalids() {
		wrong = append(wrong, put(times(n), i), gone(times(n/2)))
	}
	return append(l, all, removed, wrong)
}

// opened is the pairs as they are now, all spare capacity as a part of them.
func opened(db []api.Pair) []api.Pair {
	var l []api.Pair
	for _, p := range db[:cap(db)] {
		p.Item.F, p.Item.L = slices.Clone(p.Item.F[:cap(p.Item.F)]), slices.Clone(p.Item.L[:cap(p.Item.L)])
		l = append(l, p)
	}
	return l
}

func openedEffects(l []api.Effect) []api.Effect {
	var all []api.Effect
	for _, e := range l[:cap(l)] {
		e.Item.F, e.Item.L = slices.Clone(e.Item.F[:cap(e.Item.F)]), slices.Clone(e.Item.L[:cap(e.Item.L)])
		all = append(all, e)
	}
	return all
}

// answers is all that the calls answer of one space and one list of effects.
type answers struct {
	may, same bool
	raws      []api.Pair
	raw, got  []bool
	gots      []api.Pair
	after     []api.Pair
	in        [][]string
	all       []api.Effect
}

func ask(db []api.Pair, l []api.Effect) answers {
	a := answers{may: May(db), same: Same(db, db), after: Apply(db, l...), all: All(db)}
	keys := []string{"", "a", "m10005", times(41)}
	for _, p := range db[:min(len(db), 10)] {
		keys = append(keys, p.Key)
	}
	for _, key := range keys {
		i, ok := Raw(db, key)
		a.raws, a.raw = append(a.raws, api.Pair{Item: i}), append(a.raw, ok)
		i, ok = Get(db, key, 2)
		a.gots, a.got = append(a.gots, api.Pair{Item: i}), append(a.got, ok)
		a.in = append(a.in, In(db, slotOf(key)))
	}
	a.in = append(a.in, In(db, -1), In(db, 16384))
	return a
}

// like is whether two rounds of calls had the same answers.
func like(a, b answers) bool {
	return a.may == b.may && a.same == b.same && equal(a.raws, b.raws) && slices.Equal(a.raw, b.raw) && slices.Equal(a.got, b.got) && equal(a.gots, b.gots) &&
		equal(a.after, b.after) && equalEffects(a.all, b.all) && slices.EqualFunc(a.in, b.in, slices.Equal)
}

func TestArgumentsStayAsTheyAre(t *testing.T) {
	for _, sample := range samples() {
		for _, effects := range effectsFor(sample) {
			db, l := again(sample), againEffects(effects)
			before, effectsBefore := opened(db), openedEffects(l)
			first := ask(db, l)
			for range 3 {
				if !like(ask(db, l), first) {
					t.Errorf("R1: the answers differ: %s, %s", tell(sample), tellEffects(effects))
				}
			}
			if !equal(opened(db), before) {
				t.Errorf("R3: a call changes its space: %s, %s", tell(sample), tellEffects(effects))
			}
			if !equalEffects(openedEffects(l), effectsBefore) {
				t.Errorf("R3: a call changes its effects: %s, %s", tell(sample), tellEffects(effects))
			}
		}
	}
}

func TestNothingBesideFalse(t *testing.T) {
	for _, db := range samples() {
		for _, key := range asked() {
			if i, ok := Raw(db, key); !ok && !nothing(i) {
				t.Errorf("R4: beside false Raw of %s is %s: %s", short(key), tellItem(i), tell(db))
			}
			for _, now := range []int{math.MinInt, -1, 0, 1, 1 << 53, math.MaxInt} {
				if i, ok := Get(db, key, now); !ok && !nothing(i) {
					t.Errorf("R4: beside false Get of %s at %d is %s: %s", short(key), now, tellItem(i), tell(db))
				}
			}
		}
	}
}

// place is memory from one address up to another.
type place struct{ from, to uintptr }

func placeOf[T any](l []T) place {
	var one T
	from := uintptr(unsafe.Pointer(unsafe.SliceData(l)))
	return place{from: from, to: from + uintptr(cap(l))*unsafe.Sizeof(one)}
}

func placesOfItem(i api.Item) []place { return []place{placeOf(i.F), placeOf(i.L)} }

func placesOf(db []api.Pair) []place {
	l := []place{placeOf(db)}
	for _, p := range db[:cap(db)] {
		l = append(l, placesOfItem(p.Item)...)
	}
	return l
}

func placesOfEffects(l []api.Effect) []place {
	places := []place{placeOf(l)}
	for _, e := range l[:cap(l)] {
		places = append(places, placesOfItem(e.Item)...)
	}
	return places
}

// overlap is whether any two of the places do; those that are empty don't.
func overlap(l []place) bool {
	l = slices.DeleteFunc(slices.Clone(l), func(p place) bool { return p.from == p.to })
	slices.SortFunc(l, func(a, b place) int { return int(a.from) - int(b.from) })
	for i := 1; i < len(l); i++ {
		if l[i].from < l[i-1].to {
			return true
		}
	}
	return false
}

// No list of an answer shares memory with another one, nor with an argument, even
// where lists of the arguments share theirs.
func TestListsOfTheirOwn(t *testing.T) {
	check := func(what string, db []api.Pair, own []place, given ...place) {
		if overlap(own) {
			t.Errorf("R3: two lists of what %s answers share memory: %s", what, tell(db))
		}
		for _, p := range given {
			for _, q := range own {
				if p.from < q.to && q.from < p.to {
					t.Errorf("R3: what %s answers shares memory with an argument: %s", what, tell(db))
					return
				}
			}
		}
	}
	for _, sample := range samples() {
		for _, effects := range effectsFor(sample) {
			db, l := again(sample), againEffects(effects)
			given := append(placesOf(db), placesOfEffects(l)...)
			check("Apply", db, placesOf(Apply(db, l...)), given...)
			check("All", db, placesOfEffects(All(db)), given...)
			for _, p := range db {
				raw, _ := Raw(db, p.Key)
				got, _ := Get(db, p.Key, 0)
				check("Raw", db, placesOfItem(raw), given...)
				check("Get", db, placesOfItem(got), given...)
			}
			// What is free again may be the memory of a later answer.
			runtime.KeepAlive(db)
			runtime.KeepAlive(l)
		}
	}
	shared := list(append(make([]string, 0, 9), "a", "b", "c")...)
	named := hash(append(make([]api.Field, 0, 9), fields("a", "1", "b", "2")...)...)
	db := []api.Pair{{Key: "a", Item: shared}, {Key: "b", Item: shared}, {Key: "c", Item: named}, {Key: "d", Item: named}}
	l := []api.Effect{put("e", shared), put("aa", shared), put("f", named), put("cc", named), put("b", named), put("d", shared)}
	given := append(placesOfItem(shared), placesOfItem(named)...)
	check("Apply", db, placesOf(Apply(db)), given...)
	check("Apply", db, placesOf(Apply(db, l...)), given...)
	check("Apply", db, placesOf(Apply(nil, l...)), given...)
	check("All", db, placesOfEffects(All(db)), given...)
	runtime.KeepAlive(db)
	runtime.KeepAlive(l)
}

func spoilItem(i api.Item) {
	for n := range i.F[:cap(i.F)] {
		i.F[:cap(i.F)][n] = api.Field{Name: "spoiled", Val: "spoiled"}
	}
	for n := range i.L[:cap(i.L)] {
		i.L[:cap(i.L)][n] = "spoiled"
	}
}

// spoil writes into all that can be written into, the spare capacity too.
func spoil(db []api.Pair) {
	for n, p := range db[:cap(db)] {
		spoilItem(p.Item)
		db[:cap(db)][n] = api.Pair{Key: "spoiled", Item: txt("spoiled")}
	}
}

func spoilEffects(l []api.Effect) {
	for n, e := range l[:cap(l)] {
		spoilItem(e.Item)
		l[:cap(l)][n] = api.Effect{Key: "spoiled", Gone: true, Item: txt("spoiled")}
	}
}

func spoilAnswers(a answers) {
	spoil(a.raws)
	spoil(a.gots)
	spoil(a.after)
	spoilEffects(a.all)
	for _, l := range a.in {
		for i := range l[:cap(l)] {
			l[:cap(l)][i] = "spoiled"
		}
	}
}

func TestAnswersAreNewMemory(t *testing.T) {
	for _, sample := range samples() {
		for _, effects := range effectsFor(sample) {
			db, l := again(sample), againEffects(effects)
			before, effectsBefore := opened(db), openedEffects(l)
			want := ask(again(sample), againEffects(effects))
			first, second := ask(db, l), ask(db, l)
			spoilAnswers(first)
			if !equal(opened(db), before) || !equalEffects(openedEffects(l), effectsBefore) {
				t.Errorf("R3: writing into answers changes arguments: %s, %s", tell(sample), tellEffects(effects))
			}
			if !like(second, want) || !like(ask(db, l), want) {
				t.Errorf("R3: writing into answers changes other answers: %s, %s", tell(sample), tellEffects(effects))
			}
			spoil(db)
			spoilEffects(l)
			if !like(second, want) {
				t.Errorf("R3: writing into arguments changes answers: %s, %s", tell(sample), tellEffects(effects))
			}
		}
	}
}

// loan makes strings of bytes that the test may write into once the call is over,
// as nothing of them is to be kept.
type loan struct{ all [][]byte }

func (o *loan) text(s string) string {
	b := append(make([]byte, 0, len(s)+1), s...)
	o.all = append(o.all, b)
	return unsafe.String(unsafe.SliceData(b), len(b))
}

func (o *loan) item(i api.Item) api.Item {
	c := api.Item{Kind: i.Kind, S: o.text(i.S), Exp: i.Exp}
	for _, f := range i.F {
		c.F = append(c.F, api.Field{Name: o.text(f.Name), Val: o.text(f.Val)})
	}
	for _, s := range i.L {
		c.L = append(c.L, o.text(s))
	}
	return c
}

func (o *loan) space(db []api.Pair) []api.Pair {
	var l []api.Pair
	for _, p := range db {
		l = append(l, api.Pair{Key: o.text(p.Key), Item: o.item(p.Item)})
	}
	return l
}

func (o *loan) effects(l []api.Effect) []api.Effect {
	var same []api.Effect
	for _, e := range l {
		same = append(same, api.Effect{Key: o.text(e.Key), Gone: e.Gone, Item: o.item(e.Item)})
	}
	return same
}

func (o *loan) spoil() {
	for _, b := range o.all {
		for i := range b {
			b[i] = '?'
		}
	}
}

// The bytes of strings are memory, too.
func TestStringsAreNewMemory(t *testing.T) {
	for _, sample := range samples() {
		for _, effects := range effectsFor(sample) {
			want := ask(again(sample), againEffects(effects))
			var lent loan
			db, l := lent.space(sample), lent.effects(effects)
			got := ask(db, l)
			if !equal(db, sample) || !equalEffects(l, effects) {
				t.Errorf("R3: a call writes into strings: %s, %s", tell(sample), tellEffects(effects))
			}
			lent.spoil()
			if !like(got, want) {
				t.Errorf("R3: answers have memory of the arguments: %s, %s", tell(sample), tellEffects(effects))
			}
		}
	}
}

// The answers may be added to, and be given to the calls in turn.
func TestAnswersAreArguments(t *testing.T) {
	for _, db := range samples() {
		for _, l := range effectsFor(db) {
			after := Apply(db, l...)
			want := again(after)
			grown := append(after, api.Pair{Key: "\xff\xff\xff", Item: txt("")})
			more := append(All(db), gone("\xff\xff\xff"))
			if !equal(after, want) || len(grown) != len(want)+1 || len(more) != len(db)+1 {
				t.Errorf("R3: answers can't be added to: %s, %s", tell(db), tellEffects(l))
			}
			if may(db) && may(after) && !equal(Apply(grown, more...), applied(after, All(db))) {
				t.Errorf("11.1: Apply on what Apply answered: %s, %s", tell(db), tellEffects(l))
			}
		}
	}
}

// first are the first keys that an iterator goes through, at most so many.
func first(all iter.Seq[string], most int) []string {
	var l []string
	for key := range all {
		if len(l) == most {
			break
		}
		l = append(l, key)
	}
	return l
}

// The iterator may be left at any key, and gone through again.
func TestKeysAreLeft(t *testing.T) {
	db := of("a", "b", "c{a}", "d", "{a}1", "{a}2")
	want := []string{"a", "c{a}", "{a}1", "{a}2"}
	all := keys(db, 15495)
	for most := range len(want) + 2 {
		for range 2 {
			if got := first(all, most); !slices.Equal(got, want[:min(most, len(want))]) {
				t.Errorf("the first %d keys are %q, want of %q", most, got, want)
			}
		}
	}
	if got := first(keys(nil, 15495), 9); len(got) != 0 {
		t.Errorf("the keys of no space are %q", got)
	}
}
