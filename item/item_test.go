package item

import (
	"math"
	"slices"
	"strconv"
	"strings"
	"testing"
	"unsafe"

	"caravan/api"
)

func text(s string) api.Item { return api.Item{Kind: api.KText, S: s} }

func hash(f ...api.Field) api.Item { return api.Item{Kind: api.KHash, F: f} }

func list(l ...string) api.Item { return api.Item{Kind: api.KList, L: l} }

func set(l ...string) api.Item { return api.Item{Kind: api.KSet, L: l} }

// fields are made of their Names and Vals in turn.
func fields(l ...string) []api.Field {
	var f []api.Field
	for i := 0; i+1 < len(l); i += 2 {
		f = append(f, api.Field{Name: l[i], Val: l[i+1]})
	}
	return f
}

// ending is the item with that end of life.
func ending(i api.Item, exp int) api.Item {
	i.Exp = exp
	return i
}

func times(n int) string { return strings.Repeat("x", n) }

// rising are so many texts, each greater than the one before it.
func rising(n int) []string {
	var l []string
	for i := range n {
		l = append(l, "m"+strconv.Itoa(10000+i))
	}
	return l
}

// named are fields with those Names.
func named(names []string) []api.Field {
	var f []api.Field
	for i, name := range names {
		f = append(f, api.Field{Name: name, Val: strconv.Itoa(i)})
	}
	return f
}

// with is the list with that string at an index.
func with(l []string, at int, s string) []string {
	l = slices.Clone(l)
	l[at] = s
	return l
}

// withField is the fields with that one at an index.
func withField(f []api.Field, at int, field api.Field) []api.Field {
	f = slices.Clone(f)
	f[at] = field
	return f
}

// tell is an item's shape, for what a test tells.
func tell(i api.Item) string {
	s := "kind " + strconv.Itoa(i.Kind) + ", exp " + strconv.Itoa(i.Exp) + ", S " + short(i.S)
	for _, f := range i.F[:min(len(i.F), 4)] {
		s += ", field " + short(f.Name) + "=" + short(f.Val)
	}
	for _, e := range i.L[:min(len(i.L), 4)] {
		s += ", element " + short(e)
	}
	return s + " (" + strconv.Itoa(len(i.F)) + " fields, " + strconv.Itoa(len(i.L)) + " elements)"
}

func short(s string) string {
	if len(s) > 12 {
		return strconv.Quote(s[:12]) + ".. of " + strconv.Itoa(len(s))
	}
	return strconv.Quote(s)
}

// checkMay holds May against what is wanted.
func checkMay(t *testing.T, i api.Item, want bool) {
	t.Helper()
	if May(i) != want {
		t.Errorf("5.1: May is %v, want %v: %s", !want, want, tell(i))
	}
}

// valids are valid items of each Kind.
func valids() []api.Item {
	return []api.Item{
		text(""), text("a"), text("a b\r\n\x00\xff"), text(times(299)), text(times(300)),
		hash(fields("a", "1")...), hash(fields("", "")...), hash(fields("", "", "a", "")...), hash(fields("a", "1", "b", "1", "c", "0")...),
		hash(named(rising(39))...), hash(named(rising(40))...), hash(fields(times(300), times(300))...),
		list("a"), list(""), list("", ""), list("b", "a", "b", "b"), list(rising(39)...), list(rising(40)...), list(times(300), times(300)),
		list(slices.Repeat([]string{"a"}, 40)...), list(slices.Repeat([]string{times(300)}, 40)...),
		set("a"), set(""), set("", "a"), set("a", "b", "c"), set(rising(39)...), set(rising(40)...), set(times(299), times(300)),
	}
}

func TestMayOfValidItems(t *testing.T) {
	for _, i := range valids() {
		for _, exp := range []int{0, 1, 2, 5, 1 << 31, 1 << 32, 1<<53 - 1, 1 << 53} {
			checkMay(t, ending(i, exp), true)
		}
	}
}

func TestMayOfExp(t *testing.T) {
	for _, i := range valids() {
		for _, exp := range []int{-1, -2, math.MinInt32, -1 << 53, math.MinInt, 1<<53 + 1, 1<<53 + 2, 1 << 54, 1 << 62, math.MaxInt} {
			checkMay(t, ending(i, exp), false)
		}
	}
}

func TestMayOfKinds(t *testing.T) {
	for _, kind := range []int{0, -1, -2, -3, -4, 5, 6, 1 << 8, 1<<8 + 1, 1<<32 + 1, math.MinInt, math.MaxInt} {
		checkMay(t, api.Item{Kind: kind}, false)
		for _, i := range valids() {
			i.Kind = kind
			checkMay(t, i, false)
		}
	}
}

func TestMayWithFieldsOfOtherKinds(t *testing.T) {
	for _, i := range valids() {
		for _, s := range []string{"a", "\x00", times(300), times(301)} {
			if i.Kind != api.KText {
				j := i
				j.S = s
				checkMay(t, j, false)
			}
		}
		for _, f := range [][]api.Field{{{}}, fields("a", "1"), fields("a", "", "b", ""), named(rising(40)), named(rising(41))} {
			if i.Kind != api.KHash {
				j := i
				j.F = f
				checkMay(t, j, false)
			}
		}
		for _, l := range [][]string{{""}, {"a"}, {"a", "b"}, rising(40), rising(41)} {
			if i.Kind == api.KText || i.Kind == api.KHash {
				j := i
				j.L = l
				checkMay(t, j, false)
			}
		}
	}
}

// What is empty and not nil is no field of another Kind, but none of its own, either.
func TestMayOfEmptyLists(t *testing.T) {
	for kind := -1; kind <= 5; kind++ {
		for _, l := range [][]string{nil, {}, rising(3)[:0]} {
			for _, f := range [][]api.Field{nil, {}, named(rising(3))[:0]} {
				checkMay(t, api.Item{Kind: kind, F: f, L: l}, kind == api.KText)
				checkMay(t, api.Item{Kind: kind, F: f, L: l, S: "a"}, kind == api.KText)
				checkMay(t, api.Item{Kind: kind, F: f, L: []string{"a"}}, kind == api.KList || kind == api.KSet)
				checkMay(t, api.Item{Kind: kind, F: fields("a", "1"), L: l}, kind == api.KHash)
			}
		}
	}
}

func TestMayOfCounts(t *testing.T) {
	for _, n := range []int{0, 1, 2, 20, 39, 40, 41, 42, 80, 256, 257, 296, 1 << 16} {
		want := 1 <= n && n <= 40
		checkMay(t, hash(named(rising(n))...), want)
		checkMay(t, list(rising(n)...), want)
		checkMay(t, set(rising(n)...), want)
		checkMay(t, list(make([]string, n)...), want)
		checkMay(t, set(make([]string, n)...), n == 1)
		checkMay(t, hash(make([]api.Field, n)...), n == 1)
	}
}

// atMost and beyond are texts of MaxVal bytes and of more; they are counted by
// bytes, whatever runes these make.
func atMost() []string {
	return []string{times(300), strings.Repeat("é", 150), strings.Repeat("\xff", 300), strings.Repeat("\x00", 300)}
}

func beyond() []string {
	return []string{times(301), strings.Repeat("é", 150) + "x", strings.Repeat("é", 151), strings.Repeat("é", 300), strings.Repeat("\xff", 301), strings.Repeat("\x00", 301), times(556), times(600), times(1 << 16), times(1 << 20)}
}

func TestMayOfLongTexts(t *testing.T) {
	for _, s := range atMost() {
		checkLong(t, s, true)
	}
	for _, s := range beyond() {
		checkLong(t, s, false)
	}
}

// checkLong puts a text at each place of items that are valid otherwise.
func checkLong(t *testing.T, s string, want bool) {
	t.Helper()
	checkMay(t, text(s), want)
	for _, n := range []int{1, 2, 3, 40} {
		l := rising(n)
		for at := range n {
			checkMay(t, list(with(l, at, s)...), want)
			f := named(l)
			checkMay(t, hash(withField(f, at, api.Field{Name: f[at].Name, Val: s})...), want)
			// Behind the Name that stands there, s is still less than the one that follows.
			name := (l[at] + s)[:len(s)]
			checkMay(t, hash(withField(f, at, api.Field{Name: name, Val: f[at].Val})...), want)
			checkMay(t, set(with(l, at, name)...), want)
		}
	}
}

func TestMayOfOrder(t *testing.T) {
	for _, c := range []struct {
		a, b string
		want bool
	}{
		{"a", "b", true}, {"b", "a", false}, {"a", "a", false}, {"", "", false}, {"", "a", true}, {"a", "", false}, {"", "\x00", true},
		{"a", "aa", true}, {"aa", "a", false}, {"a", "a\x00", true}, {"a\x00", "a", false}, {"ab", "b", true}, {"b", "ab", false},
		{"A", "a", true}, {"a", "A", false}, {"B", "a", true}, {"Z", "a", true}, {"10", "9", true}, {"9", "10", false}, {"-1", "-2", true},
		{"z", "é", true}, {"é", "z", false}, {"\x7f", "\x80", true}, {"\x80", "\x7f", false}, {"\x00", "\xff", true}, {"\xff", "\x00", false},
		{"\uffff", "\U00010000", true}, {"\xf0", "\uffff", false}, {"\uffff", "\xf0", true}, {times(299), times(300), true}, {times(300), times(299), false}, {times(300), times(300), false},
		{times(299) + "a", times(299) + "b", true}, {times(299) + "b", times(299) + "a", false},
	} {
		checkMay(t, set(c.a, c.b), c.want)
		checkMay(t, hash(fields(c.a, "2", c.b, "1")...), c.want)
		checkMay(t, hash(fields(c.a, "1", c.b, "2")...), c.want)
		checkMay(t, list(c.a, c.b), true)
		checkMay(t, hash(fields("", c.a, "a", c.b)...), true)
	}
}

func TestMayOfOrderAtEachPlace(t *testing.T) {
	for _, n := range []int{2, 3, 4, 39, 40} {
		l := rising(n)
		for at := range n - 1 {
			equal := with(l, at+1, l[at])
			swapped := with(with(l, at+1, l[at]), at, l[at+1])
			last := with(l, at, "~")
			for _, bad := range [][]string{equal, swapped, last} {
				checkMay(t, set(bad...), false)
				checkMay(t, hash(named(bad)...), false)
				checkMay(t, list(bad...), true)
			}
		}
		checkMay(t, set(with(l, n-1, "")...), false)
		checkMay(t, set(with(l, n-1, l[0])...), false)
		checkMay(t, hash(named(with(l, n-1, l[0]))...), false)
		checkMay(t, set(with(l, 0, "")...), true)
		checkMay(t, hash(named(with(l, 0, ""))...), true)
		slices.Reverse(l)
		checkMay(t, set(l...), false)
		checkMay(t, hash(named(l)...), false)
		checkMay(t, list(l...), true)
	}
}

// judge is the sentences of 5.1, one after the other.
func judge(i api.Item) bool {
	if i.Exp < 0 || i.Exp > 9007199254740992 {
		return false
	}
	switch i.Kind {
	case 1:
		return len(i.S) <= 300 && len(i.F) == 0 && len(i.L) == 0
	case 2:
		for n, f := range i.F {
			if len(f.Name) > 300 || len(f.Val) > 300 || n > 0 && strings.Compare(i.F[n-1].Name, f.Name) != -1 {
				return false
			}
		}
		return i.S == "" && len(i.F) > 0 && len(i.F) < 41 && len(i.L) == 0
	case 3, 4:
		for n, s := range i.L {
			if len(s) > 300 || i.Kind == 4 && n > 0 && strings.Compare(i.L[n-1], s) != -1 {
				return false
			}
		}
		return i.S == "" && len(i.F) == 0 && len(i.L) > 0 && len(i.L) < 41
	}
	return false
}

// mixes are items of all Kinds with all fields in all mixes.
func mixes() []api.Item {
	var all []api.Item
	lists := [][]string{nil, {""}, {"a"}, {"a", "b"}, {"a", "a"}, {"b", "a"}, {"a", "b", "a"}, {times(300)}, {times(301)}, rising(40), rising(41)}
	hashes := [][]api.Field{{}, {{}}, fields("a", "a", "b", "a"), fields("a", "a", "a", "b"), fields("b", "a", "a", "b"), fields(times(301), ""), fields("", times(301)), named(rising(40)), named(rising(41))}
	for kind := -1; kind <= 6; kind++ {
		for _, exp := range []int{math.MinInt, -1, 0, 1, 1 << 53, 1<<53 + 1, math.MaxInt} {
			for _, s := range []string{"", "a", times(300), times(301)} {
				for _, f := range hashes {
					for _, l := range lists {
						all = append(all, api.Item{Kind: kind, S: s, F: f, L: l, Exp: exp})
					}
				}
			}
		}
	}
	return all
}

func TestMayOfAllMixes(t *testing.T) {
	valid := 0
	for _, i := range mixes() {
		checkMay(t, i, judge(i))
		if judge(i) {
			valid++
		}
	}
	if valid == 0 {
		t.Error("none of the mixes is valid")
	}
}

// apart are items of which no two are the same.
func apart() []api.Item {
	long := times(1000)
	l := []api.Item{
		{}, {Kind: 1}, {Kind: 2}, {Kind: 3}, {Kind: 4}, {Kind: 5}, {Kind: -1}, {Kind: math.MinInt}, {Kind: math.MaxInt},
		{Exp: 1}, {Exp: 2}, {Exp: -1}, {Exp: 1 << 53}, {Exp: 1<<53 + 1}, {Exp: math.MinInt}, {Exp: math.MaxInt},
		{Kind: 1, Exp: 1}, {Kind: 1, Exp: 2}, {Kind: 2, Exp: 1},
		{S: "a"}, {S: "b"}, {S: "A"}, {S: "aa"}, {S: "\x00"}, {S: "\x00\x00"}, {S: "a\x00"}, {S: "\xff"}, {S: "\ufffd"}, {S: "é"}, {S: "e\u0301"}, {S: long}, {S: long + "x"},
		{Kind: 1, S: "a"}, {Kind: 1, S: "a", Exp: 1}, {Kind: 2, S: "a"}, {Kind: 0, S: "a", Exp: 1},
		{F: []api.Field{{}}}, {F: []api.Field{{}, {}}}, {F: fields("a", "")}, {F: fields("", "a")}, {F: fields("a", "b")}, {F: fields("b", "a")}, {F: fields("a", "a")}, {F: fields("ab", "")}, {F: fields("", "ab")},
		{F: fields("a", "1", "b", "2")}, {F: fields("b", "2", "a", "1")}, {F: fields("a", "2", "b", "1")}, {F: fields("a", "1", "b", "3")}, {F: fields("a", "1", "c", "2")}, {F: fields("a", "0", "b", "2")},
		{F: fields("a", "1", "b", "2", "b", "2")}, {F: fields("a", "1", "a", "1", "b", "2")}, {F: fields("a", "1")}, {F: fields("b", "2")}, {F: fields("a", "1", "", "", "b", "2")},
		{Kind: 2, F: fields("a", "1")}, {Kind: 2, F: fields("a", "1"), Exp: 1}, {Kind: 3, F: fields("a", "1")},
		{L: []string{""}}, {L: []string{"", ""}}, {L: []string{"a"}}, {L: []string{"b"}}, {L: []string{"a", "b"}}, {L: []string{"b", "a"}}, {L: []string{"ab"}}, {L: []string{"a", "b", "b"}}, {L: []string{"a", "a", "b"}}, {L: []string{"a", "b", ""}}, {L: []string{"", "a", "b"}}, {L: []string{"a", "", "b"}}, {L: []string{"a", "c"}}, {L: []string{"c", "b"}},
		{Kind: 3, L: []string{"a"}}, {Kind: 4, L: []string{"a"}}, {Kind: 4, L: []string{"a"}, Exp: 1}, {Kind: 3, L: []string{"a"}, Exp: 1},
		{S: "a", F: fields("a", "1"), L: []string{"a"}}, {S: "a", F: fields("a", "1")}, {S: "a", L: []string{"a"}}, {F: fields("a", "1"), L: []string{"a"}}, {S: "a", F: fields("a", "1"), L: []string{"b"}}, {S: "a", F: fields("a", "2"), L: []string{"a"}}, {S: "b", F: fields("a", "1"), L: []string{"a"}}, {S: "a", F: fields("b", "1"), L: []string{"a"}},
		{Kind: 1, S: "a", F: fields("a", "1"), L: []string{"a"}, Exp: 1},
		{L: rising(300)}, {L: rising(299)}, {L: rising(301)}, {L: with(rising(300), 150, "m")}, {L: with(rising(300), 299, "m")}, {L: with(rising(300), 0, "m")},
		{F: named(rising(300))}, {F: named(rising(299))}, {F: named(rising(301))}, {F: withField(named(rising(300)), 299, api.Field{Name: "m"})}, {F: withField(named(rising(300)), 0, api.Field{Name: "m"})},
	}
	return l
}

// again is an equal item, made anew by other means than Copy.
func again(i api.Item) api.Item {
	i.S = string([]byte(i.S))
	f := make([]api.Field, len(i.F), len(i.F)+3)
	for n, field := range i.F {
		f[n] = api.Field{Name: string([]byte(field.Name)), Val: string([]byte(field.Val))}
	}
	l := make([]string, len(i.L), len(i.L)+3)
	for n, s := range i.L {
		l[n] = string([]byte(s))
	}
	i.F, i.L = f, l
	return i
}

func TestSame(t *testing.T) {
	all := apart()
	for n, a := range all {
		for m, b := range all {
			if Same(a, b) != (n == m) {
				t.Errorf("5.1: Same is %v of %s and %s", n != m, tell(a), tell(b))
			}
		}
		if !Same(a, again(a)) || !Same(again(a), a) {
			t.Errorf("5.1: Same is false of an item and its like: %s", tell(a))
		}
	}
}

func TestSameOfItemsThatDifferAtOnePlace(t *testing.T) {
	for _, i := range append(valids(), apart()...) {
		for n, j := range turned(i) {
			if Same(i, j) || Same(j, i) {
				t.Errorf("5.1: Same is true of items that differ, %d: %s and %s", n, tell(i), tell(j))
			}
		}
	}
}

// turned are items that differ from this one each in one thing alone.
func turned(i api.Item) []api.Item {
	var all []api.Item
	add := func(turn func(j *api.Item)) {
		j := again(i)
		turn(&j)
		all = append(all, j)
	}
	add(func(j *api.Item) { j.Kind++ })
	add(func(j *api.Item) { j.Kind-- })
	add(func(j *api.Item) { j.Exp++ })
	add(func(j *api.Item) { j.Exp-- })
	add(func(j *api.Item) { j.S += "\x00" })
	add(func(j *api.Item) { j.F = append(j.F, api.Field{}) })
	add(func(j *api.Item) { j.L = append(j.L, "") })
	for at := range i.F {
		add(func(j *api.Item) { j.F[at].Name += "~" })
		add(func(j *api.Item) { j.F[at].Val += "~" })
		add(func(j *api.Item) { j.F = slices.Delete(j.F, at, at+1) })
	}
	for at := range i.L {
		add(func(j *api.Item) { j.L[at] += "~" })
		add(func(j *api.Item) { j.L = slices.Delete(j.L, at, at+1) })
	}
	return all
}

func TestSameOfNilAndEmpty(t *testing.T) {
	for _, i := range []api.Item{{}, text("a"), list("a"), set("a", "b"), hash(fields("a", "1")...), {Kind: 5, Exp: -1}} {
		j := i
		if i.F == nil {
			j.F = []api.Field{}
		}
		if i.L == nil {
			j.L = rising(3)[:0]
		}
		if !Same(i, j) || !Same(j, i) || !Same(j, j) {
			t.Errorf("5.1: Same is false of nil and empty: %s", tell(i))
		}
		if May(i) != May(j) {
			t.Errorf("5.1: May is %v with nil, %v with empty: %s", May(i), May(j), tell(i))
		}
		if !Same(Copy(j), i) || !Same(Copy(i), j) {
			t.Errorf("5.1: Copy of nil or empty isn't the same: %s", tell(i))
		}
	}
}

func TestAlive(t *testing.T) {
	for _, c := range []struct {
		exp, now int
		want     bool
	}{
		{0, math.MinInt, true}, {0, -1, true}, {0, 0, true}, {0, 1, true}, {0, 1 << 60, true}, {0, math.MaxInt, true},
		{1, math.MinInt, true}, {1, -1, true}, {1, 0, true}, {1, 1, false}, {1, 2, false}, {1, math.MaxInt, false},
		{5, 0, true}, {5, 3, true}, {5, 4, true}, {5, 5, false}, {5, 6, false}, {5, 1 << 40, false},
		{1 << 31, 1<<31 - 1, true}, {1 << 31, 1 << 31, false}, {1 << 32, 1, true},
		{1 << 53, 1<<53 - 1, true}, {1 << 53, 1 << 53, false}, {1 << 53, 1<<53 + 1, false}, {1 << 53, -1 << 60, true},
		{1<<53 + 1, 1 << 53, true}, {1<<53 + 1, 1<<53 + 1, false},
		{math.MaxInt, math.MinInt, true}, {math.MaxInt, math.MaxInt - 1, true}, {math.MaxInt, math.MaxInt, false},
		{-1, 0, false}, {-1, -1, false}, {-1, -2, true}, {-1, math.MaxInt, false}, {math.MinInt, math.MaxInt, false}, {math.MinInt, math.MinInt, false},
	} {
		for _, i := range []api.Item{{}, text("a"), hash(fields("a", "1")...), list("a"), set("a"), hash(), {Kind: 9}} {
			if got := Alive(ending(i, c.exp), c.now); got != c.want {
				t.Errorf("5.1: Alive at %d with Exp %d is %v, kind %d", c.now, c.exp, got, i.Kind)
			}
		}
	}
}

func TestType(t *testing.T) {
	for _, c := range []struct {
		kind int
		want string
	}{
		{api.KText, "string"}, {api.KHash, "hash"}, {api.KList, "list"}, {api.KSet, "set"},
		{0, "none"}, {5, "none"}, {6, "none"}, {-1, "none"}, {-2, "none"}, {-3, "none"}, {-4, "none"}, {257, "none"}, {1<<32 + 1, "none"}, {math.MinInt, "none"}, {math.MaxInt, "none"},
	} {
		for _, i := range []api.Item{{}, {S: "a"}, {F: fields("a", "1")}, {L: []string{"b", "a"}}, {Exp: -1}, {S: times(301), F: fields("a", ""), L: []string{""}, Exp: 7}} {
			i.Kind = c.kind
			if got := Type(i); got != c.want {
				t.Errorf("5.1: Type of %s is %q, want %q", tell(i), got, c.want)
			}
		}
	}
	if Type(api.Item{}) != "none" {
		t.Error("5.1: Type of the zero item")
	}
}

// equal doesn't lean on Same.
func equal(a, b api.Item) bool {
	if a.Kind != b.Kind || a.S != b.S || a.Exp != b.Exp || len(a.F) != len(b.F) || len(a.L) != len(b.L) {
		return false
	}
	for n := range a.F {
		if a.F[n] != b.F[n] {
			return false
		}
	}
	for n := range a.L {
		if a.L[n] != b.L[n] {
			return false
		}
	}
	return true
}

// samples are items, valid and not, for what is to hold of all.
func samples() []api.Item {
	return slices.Concat(valids(), apart(), mixes())
}

func TestCopyIsEqual(t *testing.T) {
	for _, i := range samples() {
		c := Copy(i)
		if !equal(c, i) || !Same(c, i) || !Same(i, c) || May(c) != May(i) || Type(c) != Type(i) {
			t.Errorf("5.1: Copy of %s is %s", tell(i), tell(c))
		}
	}
}

// spoil writes into all that can be written into, the spare capacity too.
func spoil(i *api.Item) {
	f := i.F[:cap(i.F)]
	for n := range f {
		f[n] = api.Field{Name: "spoiled", Val: "spoiled"}
	}
	l := i.L[:cap(i.L)]
	for n := range l {
		l[n] = "spoiled"
	}
	i.F = append(i.F, api.Field{Name: "more", Val: "more"})
	i.L = append(i.L, "more")
	i.Kind, i.S, i.Exp = -7, "spoiled", -7
}

// roomy is an equal item whose lists have spare capacity, and that capacity itself.
func roomy(i api.Item) (j api.Item, fields []api.Field, elements []string) {
	j = again(i)
	fields, elements = j.F[:cap(j.F)], j.L[:cap(j.L)]
	for n := len(i.F); n < len(fields); n++ {
		fields[n].Name = "spare"
	}
	for n := len(i.L); n < len(elements); n++ {
		elements[n] = "spare"
	}
	return j, fields, elements
}

func TestWritingIntoACopy(t *testing.T) {
	for _, i := range samples() {
		from, allFields, allElements := roomy(i)
		fieldsBefore, elementsBefore := slices.Clone(allFields), slices.Clone(allElements)
		first, second := Copy(from), Copy(from)
		of := Copy(first)
		spoil(&first)
		if !equal(from, i) || !slices.Equal(allFields, fieldsBefore) || !slices.Equal(allElements, elementsBefore) {
			t.Errorf("5.2: writing into a Copy changes its item: %s", tell(i))
		}
		if !equal(second, i) || !equal(of, i) || !equal(Copy(from), i) {
			t.Errorf("5.2: writing into a Copy changes other copies: %s", tell(i))
		}
		spoil(&from)
		if !equal(second, i) {
			t.Errorf("5.2: writing into an item changes its Copy: %s", tell(i))
		}
	}
}

// A list with no elements may still have memory behind it.
func TestAppendingToACopyOfNothing(t *testing.T) {
	f, l := named(rising(3)), rising(3)
	c := Copy(api.Item{Kind: api.KList, F: f[:0], L: l[:0]})
	spoil(&c)
	if !slices.Equal(f, named(rising(3))) || !slices.Equal(l, rising(3)) {
		t.Error("5.2: appending to a Copy of empty lists writes behind these")
	}
	c = Copy(api.Item{Kind: api.KList, F: f[:1], L: l[:1]})
	spoil(&c)
	if !slices.Equal(f, named(rising(3))) || !slices.Equal(l, rising(3)) {
		t.Error("5.2: appending to a Copy writes behind its item's lists")
	}
}

// bytesOf is where the bytes of an item's strings are.
func bytesOf(i api.Item) []*byte {
	var at []*byte
	add := func(s string) {
		for n := range len(s) {
			at = append(at, unsafe.StringData(s[n:]))
		}
	}
	add(i.S)
	for _, f := range i.F {
		add(f.Name)
		add(f.Val)
	}
	for _, s := range i.L {
		add(s)
	}
	return at
}

func TestCopySharesNoBytes(t *testing.T) {
	for _, i := range append(valids(), api.Item{Kind: 9, S: "a", F: fields("b", "c"), L: []string{"d"}, Exp: -1}) {
		theirs := map[*byte]struct{}{}
		for _, at := range bytesOf(i) {
			theirs[at] = struct{}{}
		}
		for _, at := range bytesOf(Copy(i)) {
			if _, ok := theirs[at]; ok {
				t.Errorf("5.1: Copy shares bytes with its item: %s", tell(i))
				break
			}
		}
	}
}

func TestArgumentsStayAsTheyAre(t *testing.T) {
	for _, i := range samples() {
		j, allFields, allElements := roomy(i)
		fieldsBefore, elementsBefore := slices.Clone(allFields), slices.Clone(allElements)
		other := again(i)
		for range 2 {
			may, same, alive, kind := May(j), Same(j, other), Alive(j, 5), Type(j)
			if may != May(i) || !same || alive != Alive(i, 5) || kind != Type(i) || !equal(Copy(j), i) {
				t.Errorf("R1: the answers of one item differ: %s", tell(i))
			}
		}
		if !equal(j, i) || !equal(other, i) || !slices.Equal(allFields, fieldsBefore) || !slices.Equal(allElements, elementsBefore) {
			t.Errorf("R3: a call changes its item: %s", tell(i))
		}
	}
}

// collected is what texts goes through, at most so many.
func collected(i api.Item, most int) []string {
	var l []string
	for s := range texts(i) {
		l = append(l, s)
		if len(l) == most {
			break
		}
	}
	return l
}

func TestTextsOfAnItem(t *testing.T) {
	i := api.Item{Kind: 9, S: "s", F: fields("a", "1", "b", "2"), L: []string{"x", "x", ""}}
	want := []string{"s", "a", "1", "b", "2", "x", "x", ""}
	for most := 1; most <= len(want); most++ {
		if l := collected(i, most); !slices.Equal(l, want[:most]) {
			t.Errorf("the first %d texts are %q, want %q", most, l, want[:most])
		}
	}
	if l := collected(i, 100); !slices.Equal(l, want) {
		t.Errorf("all texts are %q, want %q", l, want)
	}
}
