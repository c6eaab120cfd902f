package hash

import (
	"iter"
	"maps"
	"math/bits"
	"slices"
	"strconv"
	"strings"
	"testing"
	"unsafe"

	"caravan/api"
)

// of is a hash made of its Names and Vals in turn.
func of(words ...string) []api.Field {
	var l []api.Field
	for i := 0; i+1 < len(words); i += 2 {
		l = append(l, api.Field{Name: words[i], Val: words[i+1]})
	}
	return l
}

func times(n int) string { return strings.Repeat("x", n) }

// rising is a hash of so many fields; ahead of the Name of each, and behind the
// last one, there is room for others.
func rising(n int) []api.Field {
	var l []api.Field
	for i := range n {
		l = append(l, api.Field{Name: "m" + strconv.Itoa(10001+2*i), Val: strconv.Itoa(i)})
	}
	return l
}

// between is a Name that a rising hash hasn't: greater than those of so many of
// its fields.
func between(n int) string { return "m" + strconv.Itoa(10000+2*n) }

// short is a string as a test tells it.
func short(s string) string {
	if len(s) > 24 {
		return strconv.Quote(s[:24]) + ".. of " + strconv.Itoa(len(s))
	}
	return strconv.Quote(s)
}

// tell is a hash as a test tells it.
func tell(l []api.Field) string {
	var words []string
	for _, f := range l[:min(len(l), 12)] {
		words = append(words, short(f.Name)+"="+short(f.Val))
	}
	return "[" + strings.Join(words, " ") + "] of " + strconv.Itoa(len(l))
}

// keyed is a hash as a map, which is what the calls are held against.
func keyed(l []api.Field) map[string]string {
	m := map[string]string{}
	for _, f := range l {
		m[f.Name] = f.Val
	}
	return m
}

// inOrder is a map as a hash.
func inOrder(m map[string]string) []api.Field {
	var l []api.Field
	for _, name := range slices.Sorted(maps.Keys(m)) {
		l = append(l, api.Field{Name: name, Val: m[name]})
	}
	return l
}

func checkGet(t *testing.T, l []api.Field, name string) {
	t.Helper()
	val, ok := Get(l, name)
	if want, has := keyed(l)[name]; val != want || ok != has {
		t.Errorf("7.1: Get of %s in %s is %s, %v, want %s, %v", short(name), tell(l), short(val), ok, short(want), has)
	}
}

func checkSet(t *testing.T, l []api.Field, name, val string) {
	t.Helper()
	m := keyed(l)
	m[name] = val
	if got, want := Set(l, name, val), inOrder(m); !slices.Equal(got, want) {
		t.Errorf("7.1: Set of %s to %s in %s is %s, want %s", short(name), short(val), tell(l), tell(got), tell(want))
	}
}

func checkDel(t *testing.T, l []api.Field, name string) {
	t.Helper()
	m := keyed(l)
	delete(m, name)
	if got, want := Del(l, name), inOrder(m); !slices.Equal(got, want) {
		t.Errorf("7.1: Del of %s in %s is %s, want %s", short(name), tell(l), tell(got), tell(want))
	}
}

func checkLists(t *testing.T, l []api.Field) {
	t.Helper()
	names, vals := Names(l), Vals(l)
	if len(names) != len(l) || len(vals) != len(l) {
		t.Errorf("7.1: of %s there are %d Names, %d Vals", tell(l), len(names), len(vals))
		return
	}
	for i, f := range l {
		if names[i] != f.Name || vals[i] != f.Val {
			t.Errorf("7.1: Name and Val %d of %s are %s, %s", i, tell(l), short(names[i]), short(vals[i]))
		}
	}
}

func TestGet(t *testing.T) {
	l := of("b", "2", "d", "", "da", "4", "e", "\xff\x00")
	for _, c := range []struct {
		name, want string
		ok         bool
	}{
		{"b", "2", true}, {"d", "", true}, {"da", "4", true}, {"e", "\xff\x00", true},
		{"", "", false}, {"a", "", false}, {"c", "", false}, {"f", "", false}, {"B", "", false}, {"bb", "", false}, {"dab", "", false}, {"d\x00", "", false}, {"b ", "", false}, {"2", "", false}, {"\xff", "", false}, {"\x00", "", false},
	} {
		if val, ok := Get(l, c.name); val != c.want || ok != c.ok {
			t.Errorf("7.1: Get of %q is %q, %v", c.name, val, ok)
		}
	}
	if val, ok := Get(of("b", "2", "d", "4"), "a"); val != "" || ok {
		t.Errorf("7.1: the chapter's example is %q, %v", val, ok)
	}
}

func TestSet(t *testing.T) {
	for _, c := range []struct {
		l         []api.Field
		name, val string
		want      []api.Field
	}{
		{of("b", "2", "d", "4"), "c", "x", of("b", "2", "c", "x", "d", "4")},
		{of("b", "2", "d", "4"), "a", "x", of("a", "x", "b", "2", "d", "4")},
		{of("b", "2", "d", "4"), "e", "x", of("b", "2", "d", "4", "e", "x")},
		{of("b", "2", "d", "4"), "", "x", of("", "x", "b", "2", "d", "4")},
		{of("b", "2", "d", "4"), "b", "x", of("b", "x", "d", "4")},
		{of("b", "2", "d", "4"), "d", "x", of("b", "2", "d", "x")},
		{of("b", "2", "d", "4"), "d", "4", of("b", "2", "d", "4")},
		{of("b", "2", "d", "4"), "d", "", of("b", "2", "d", "")},
		{of("b", "2", "c", "3", "d", "4"), "c", "x", of("b", "2", "c", "x", "d", "4")},
		{of("", "1"), "", "2", of("", "2")}, {of("", ""), "", "", of("", "")}, {of("", "1"), "a", "2", of("", "1", "a", "2")}, {of("a", "1"), "", "2", of("", "2", "a", "1")},
		{nil, "a", "1", of("a", "1")}, {nil, "", "", of("", "")}, {[]api.Field{}, "a", "", of("a", "")},
		{of("a", "1", "abc", "3"), "ab", "2", of("a", "1", "ab", "2", "abc", "3")}, {of("ab", "2"), "a", "1", of("a", "1", "ab", "2")}, {of("ab", "2"), "abc", "3", of("ab", "2", "abc", "3")},
		{of("a", "1"), "a\x00", "2", of("a", "1", "a\x00", "2")}, {of("a\x00", "1"), "a", "2", of("a", "2", "a\x00", "1")},
		{of("\x7f", "1", "\xff", "3"), "\x80", "2", of("\x7f", "1", "\x80", "2", "\xff", "3")}, {of("z", "1"), "\u00e9", "2", of("z", "1", "\u00e9", "2")}, {of("\xff", "1"), "\ufffd", "2", of("\ufffd", "2", "\xff", "1")}, {of("\x80", "1"), "a", "2", of("a", "2", "\x80", "1")},
		{of("10", "1", "9", "2"), "2", "3", of("10", "1", "2", "3", "9", "2")}, {of("B", "1", "a", "2"), "b", "3", of("B", "1", "a", "2", "b", "3")}, {of("e\u0301", "1"), "\u00e9", "2", of("e\u0301", "1", "\u00e9", "2")},
	} {
		if got := Set(c.l, c.name, c.val); !slices.Equal(got, c.want) {
			t.Errorf("7.1: Set of %q to %q in %s is %s", c.name, c.val, tell(c.l), tell(got))
		}
	}
}

func TestDel(t *testing.T) {
	for _, c := range []struct {
		l    []api.Field
		name string
		want []api.Field
	}{
		{of("b", "2", "d", "4"), "b", of("d", "4")},
		{of("b", "2", "d", "4"), "d", of("b", "2")},
		{of("b", "2", "c", "3", "d", "4"), "c", of("b", "2", "d", "4")},
		{of("b", "2", "d", "4"), "a", of("b", "2", "d", "4")},
		{of("b", "2", "d", "4"), "c", of("b", "2", "d", "4")},
		{of("b", "2", "d", "4"), "e", of("b", "2", "d", "4")},
		{of("b", "2", "d", "4"), "", of("b", "2", "d", "4")},
		{of("b", "2", "d", "4"), "2", of("b", "2", "d", "4")},
		{of("", "1", "a", "2"), "", of("a", "2")}, {of("", "1"), "", nil}, {of("", ""), "", nil}, {of("", ""), "\x00", of("", "")}, {of("a", ""), "", of("a", "")},
		{of("a", "1"), "a", nil}, {nil, "a", nil}, {nil, "", nil}, {[]api.Field{}, "", nil},
		{of("a", "1", "ab", "2", "abc", "3"), "a", of("ab", "2", "abc", "3")}, {of("a", "1", "ab", "2", "abc", "3"), "ab", of("a", "1", "abc", "3")}, {of("a", "1", "ab", "2", "abc", "3"), "abc", of("a", "1", "ab", "2")}, {of("ab", "2"), "a", of("ab", "2")}, {of("a", "1"), "ab", of("a", "1")},
		{of("\x7f", "1", "\x80", "2", "\xff", "3"), "\x80", of("\x7f", "1", "\xff", "3")}, {of("\x80", "1"), "\ufffd", of("\x80", "1")}, {of("\x00", "1"), "", of("\x00", "1")}, {of("A", "1", "a", "2"), "a", of("A", "1")},
	} {
		if got := Del(c.l, c.name); !slices.Equal(got, c.want) {
			t.Errorf("7.1: Del of %q in %s is %s", c.name, tell(c.l), tell(got))
		}
	}
}

func TestNamesAndVals(t *testing.T) {
	l := of("", "z", "a", "", "b", "1", "c", "1", "\xff", "\x00")
	if got := Names(l); !slices.Equal(got, []string{"", "a", "b", "c", "\xff"}) {
		t.Errorf("7.1: Names are %q", got)
	}
	if got := Vals(l); !slices.Equal(got, []string{"z", "", "1", "1", "\x00"}) {
		t.Errorf("7.1: Vals are %q", got)
	}
	if len(Names(nil)) != 0 || len(Vals(nil)) != 0 || len(Names([]api.Field{})) != 0 || len(Vals([]api.Field{})) != 0 {
		t.Error("7.1: an empty hash has Names or Vals")
	}
	if got := Names(of("a", "1")); !slices.Equal(got, []string{"a"}) {
		t.Errorf("7.1: Names of one field are %q", got)
	}
	if got := Vals(of("a", "1")); !slices.Equal(got, []string{"1"}) {
		t.Errorf("7.1: Vals of one field are %q", got)
	}
}

// names are in order, byte by byte; some begin with others.
func names() []string {
	return []string{"", "\x00", "a", "a\x00", "aa", "ab", "b", "\x7f", "\x80", "\u00e9", "\xff"}
}

// subsets are all hashes there are with those Names. Some of their Vals are equal,
// some empty, and they fall as well as rise.
func subsets() iter.Seq[[]api.Field] {
	all := names()
	return func(yield func([]api.Field) bool) {
		for which := range uint(1) << len(all) {
			l := make([]api.Field, 0, bits.OnesCount(which)+2)
			for i, name := range all {
				if which>>i&1 == 1 {
					l = append(l, api.Field{Name: name, Val: strings.Repeat("v", (i*5+3)%7)})
				}
			}
			if !yield(l) {
				return
			}
		}
	}
}

// asked are Names that are in some of the subsets, and others beside them.
func asked() []string {
	return append(names(), "\x00\x00", "a\x00\x00", "aaa", "A", "c", "\xc3", "\xff\xff", "v")
}

func TestAllHashesOfSomeNames(t *testing.T) {
	for l := range subsets() {
		checkLists(t, l)
		for _, name := range asked() {
			checkGet(t, l, name)
			checkSet(t, l, name, "new")
			checkDel(t, l, name)
		}
	}
}

// Each byte there is stands in each place of a Name, so that it is the first byte
// that differs from its neighbours'.
func TestNamesOfEachByte(t *testing.T) {
	for _, around := range [][2]string{{"", ""}, {"m", ""}, {"", "m"}, {"m", "m"}, {"\xff", "\x00"}} {
		var whole []api.Field
		for c := range 256 {
			whole = append(whole, api.Field{Name: around[0] + string([]byte{byte(c)}) + around[1], Val: strconv.Itoa(c)})
		}
		var grown []api.Field
		for i := range 256 {
			// 77 has no divisor in common with 256: each one has its turn.
			f := whole[i*77%256]
			grown = Set(grown, f.Name, f.Val)
		}
		if !slices.Equal(grown, whole) {
			t.Errorf("7.1: Set one by one, around %q, are %s", around, tell(grown))
		}
		for i, f := range whole {
			checkGet(t, whole, f.Name)
			if got := Del(whole, f.Name); !slices.Equal(got, slices.Concat(whole[:i], whole[i+1:])) {
				t.Errorf("7.1: Del of %q isn't all others", f.Name)
			}
			if got := Set(Del(whole, f.Name), f.Name, f.Val); !slices.Equal(got, whole) {
				t.Errorf("7.1: Set of %q after Del isn't the hash from before", f.Name)
			}
		}
	}
}

// No bound of an item holds for the calls of this package.
func TestHashesOfManyFields(t *testing.T) {
	for _, n := range []int{0, 1, 2, 3, 39, 40, 41, 100, 300} {
		l := rising(n)
		checkLists(t, l)
		for i, f := range l {
			checkGet(t, l, f.Name)
			if got, want := Set(l, f.Name, "new"), slices.Concat(l[:i], of(f.Name, "new"), l[i+1:]); !slices.Equal(got, want) {
				t.Errorf("7.1: Set doesn't replace field %d of %d", i, n)
			}
			if got, want := Del(l, f.Name), slices.Concat(l[:i], l[i+1:]); !slices.Equal(got, want) {
				t.Errorf("7.1: Del of field %d of %d", i, n)
			}
		}
		for i := range n + 1 {
			name := between(i)
			checkGet(t, l, name)
			if got, want := Set(l, name, "new"), slices.Concat(l[:i], of(name, "new"), l[i:]); !slices.Equal(got, want) {
				t.Errorf("7.1: Set doesn't insert behind %d of %d", i, n)
			}
			if got := Del(l, name); !slices.Equal(got, l) {
				t.Errorf("7.1: Del of none behind %d of %d", i, n)
			}
		}
	}
}

func TestLongNamesAndVals(t *testing.T) {
	for _, n := range []int{1, 40, 41, 299, 300, 301, 1000, 1 << 20} {
		l := of(times(n), times(n)+"v", times(n)+"b", times(n))
		for _, name := range []string{times(n - 1), times(n), times(n + 1), times(n) + "a", times(n) + "b", times(n) + "bb", times(n-1) + "a", times(n-1) + "z"} {
			checkGet(t, l, name)
			checkSet(t, l, name, times(n)+"w")
			checkDel(t, l, name)
		}
		checkLists(t, l)
	}
}

func TestNilAndEmpty(t *testing.T) {
	for _, l := range [][]api.Field{nil, {}, rising(3)[:0], rising(3)[3:]} {
		if val, ok := Get(l, ""); val != "" || ok {
			t.Errorf("7.1: Get in an empty hash is %q, %v", val, ok)
		}
		if got := Set(l, "a", "1"); !slices.Equal(got, of("a", "1")) {
			t.Errorf("7.1: Set in an empty hash is %s", tell(got))
		}
		if len(Del(l, "")) != 0 || len(Del(l, "m10001")) != 0 || len(Names(l)) != 0 || len(Vals(l)) != 0 {
			t.Error("7.1: an empty hash has fields")
		}
	}
}

// Set and Get, as 7.2 says them, without the order of fields.
func checkProperty(t *testing.T, l []api.Field, name, val string) {
	t.Helper()
	after := Set(l, name, val)
	if got, ok := Get(after, name); got != val || !ok {
		t.Errorf("7.2: after Set of %s to %s in %s, Get is %s, %v", short(name), short(val), tell(l), short(got), ok)
	}
	more := 1
	for _, f := range l {
		if f.Name == name {
			more = 0
			continue
		}
		if got, ok := Get(after, f.Name); got != f.Val || !ok {
			t.Errorf("7.2: after Set of %s in %s, Get of %s is %s, %v", short(name), tell(l), short(f.Name), short(got), ok)
		}
	}
	if len(after) != len(l)+more {
		t.Errorf("7.2: after Set of %s in %s there are %d fields", short(name), tell(l), len(after))
	}
}

func TestGetAfterSet(t *testing.T) {
	for l := range subsets() {
		for _, name := range asked() {
			old, has := Get(l, name)
			for _, val := range []string{"", "new", name, "vvv", "\x00", "\xff"} {
				checkProperty(t, l, name, val)
			}
			for _, other := range asked() {
				if got, ok := Get(Set(l, other, "new"), name); other != name && (got != old || ok != has) {
					t.Errorf("7.2: after Set of %q in %s, Get of %q is %q, %v", other, tell(l), name, got, ok)
				}
			}
		}
	}
}

func TestGetAfterSetInManyFields(t *testing.T) {
	for _, n := range []int{0, 1, 2, 40, 41, 100} {
		l := rising(n)
		for _, f := range l {
			checkProperty(t, l, f.Name, "new")
			checkProperty(t, l, f.Name, "")
			checkProperty(t, l, f.Name, f.Val)
		}
		for i := range n + 1 {
			checkProperty(t, l, between(i), "new")
			checkProperty(t, l, between(i), times(301))
		}
	}
}

func TestSetToWhatStandsThere(t *testing.T) {
	for l := range subsets() {
		for _, f := range l {
			if got := Set(l, f.Name, f.Val); !slices.Equal(got, l) {
				t.Errorf("7.1: Set of %q to its Val in %s is %s", f.Name, tell(l), tell(got))
			}
		}
	}
}

func TestTheSameCallTwice(t *testing.T) {
	for l := range subsets() {
		for _, name := range asked() {
			once := Set(l, name, "new")
			if got := Set(once, name, "new"); !slices.Equal(got, once) {
				t.Errorf("7.1: Set of %q twice in %s is %s", name, tell(l), tell(got))
			}
			if got := Set(Set(l, name, "old"), name, "new"); !slices.Equal(got, once) {
				t.Errorf("7.1: Set of %q to two Vals in %s is %s", name, tell(l), tell(got))
			}
			without := Del(l, name)
			if got := Del(without, name); !slices.Equal(got, without) {
				t.Errorf("7.1: Del of %q twice in %s is %s", name, tell(l), tell(got))
			}
			if got := Del(once, name); !slices.Equal(got, without) {
				t.Errorf("7.1: Del of %q after its Set in %s is %s", name, tell(l), tell(got))
			}
			if val, ok := Get(without, name); val != "" || ok {
				t.Errorf("7.1: Get of %q after its Del in %s is %q, %v", name, tell(l), val, ok)
			}
		}
	}
}

// A walk of Sets and Dels without order, beside a map.
func TestAWalk(t *testing.T) {
	var l []api.Field
	m := map[string]string{}
	n := uint64(7)
	for step := range 20000 {
		n = n*6364136223846793005 + 1442695040888963407
		name := times(int(n>>50%3)) + string([]byte{byte(n >> 40 & 0x9f)})
		if n>>35%5 < 2 {
			delete(m, name)
			l = Del(l, name)
		} else {
			m[name] = strconv.Itoa(step)
			l = Set(l, name, strconv.Itoa(step))
		}
		want, has := m[name]
		if got, ok := Get(l, name); got != want || ok != has {
			t.Fatalf("7.1: after %d steps Get of %q is %q, %v, want %q, %v", step, name, got, ok, want, has)
		}
		if len(l) != len(m) || step%97 == 0 && !slices.Equal(l, inOrder(m)) {
			t.Fatalf("7.1: after %d steps the hash is %s, want %d fields", step, tell(l), len(m))
		}
	}
}

// disordered are lists that are no hashes: of them little is promised.
func disordered() [][]api.Field {
	return [][]api.Field{
		of("b", "2", "a", "1"), of("a", "1", "a", "1"), of("a", "1", "a", "2"), of("", "", "", ""), of("c", "1", "b", "2", "a", "3"),
		of("a", "1", "c", "2", "b", "3", "d", "4"), of("a", "1", "b", "2", "a", "3"), of("\xff", "1", "", "2"), of("b", "1", "b", "2", "b", "3"),
		slices.Repeat(of("m", "1"), 100), slices.Concat(rising(50), rising(50)), {{}, {}, {}},
	}
}

func TestListsThatAreNoHashes(t *testing.T) {
	for _, l := range disordered() {
		before := slices.Clone(l)
		checkLists(t, l)
		for _, name := range append(asked(), "m", "m10001", "m10051", "none") {
			val, ok := Get(l, name)
			set, del := Set(l, name, "new"), Del(l, name)
			againVal, againOk := Get(l, name)
			if againVal != val || againOk != ok || !slices.Equal(Set(l, name, "new"), set) || !slices.Equal(Del(l, name), del) {
				t.Errorf("R1: the answers to %q in %s differ", name, tell(l))
			}
			if !ok && val != "" {
				t.Errorf("R4: beside false Get of %q in %s is %q", name, tell(l), val)
			}
		}
		if !slices.Equal(l, before) {
			t.Errorf("R3: a call changes %s", tell(before))
		}
	}
}

// samples are hashes for what is to hold of all calls.
func samples() [][]api.Field {
	l := [][]api.Field{nil, {}, of("", ""), of("b", "2"), of("b", ""), of("", "2"), of("b", "2", "d", "4"), of("b", "2", "bb", "3", "c", "2"), rising(3), rising(8), rising(40), rising(41), of(times(301), times(301))}
	for _, words := range disordered() {
		l = append(l, words)
	}
	return l
}

// tried are the Names to call with: all of a hash, and others.
func tried(l []api.Field) []string {
	tried := []string{"", "a", "b", "c", "bc", "\xff", between(0), between(2), times(301)}
	for _, f := range l {
		tried = append(tried, f.Name)
	}
	return tried
}

// calls are those that answer a hash.
func calls(name string) map[string]func(l []api.Field) []api.Field {
	return map[string]func(l []api.Field) []api.Field{
		"Set":            func(l []api.Field) []api.Field { return Set(l, name, "new") },
		"Set to nothing": func(l []api.Field) []api.Field { return Set(l, name, "") },
		"Del":            func(l []api.Field) []api.Field { return Del(l, name) },
	}
}

// roomy is an equal hash with spare capacity behind it, and all of its memory.
func roomy(l []api.Field) (same, all []api.Field) {
	all = append(slices.Clone(l), of("spare", "1", "spare", "2", "spare", "3")...)
	return all[:len(l)], all
}

// spoil writes into all that can be written into, the spare capacity too.
func spoil(l []api.Field) {
	l = l[:cap(l)]
	for i := range l {
		l[i] = api.Field{Name: "spoiled", Val: "spoiled"}
	}
}

func TestHashesAreNewMemory(t *testing.T) {
	for _, sample := range samples() {
		for _, name := range tried(sample) {
			for what, call := range calls(name) {
				l, all := roomy(sample)
				before := slices.Clone(all)
				want := call(slices.Clone(sample))
				first, second := call(l), call(l)
				ofFirst := call(first)
				wantOfFirst := slices.Clone(ofFirst)
				if !slices.Equal(all, before) {
					t.Errorf("R3: %s of %s writes into %s", what, short(name), tell(sample))
				}
				spoil(first)
				if more := append(first, api.Field{Name: "more"}); len(more) != len(want)+1 {
					t.Errorf("R3: what %s of %s answers can't be added to", what, short(name))
				}
				if !slices.Equal(all, before) {
					t.Errorf("R3: writing into what %s of %s answers changes %s", what, short(name), tell(sample))
				}
				if !slices.Equal(second, want) || !slices.Equal(ofFirst, wantOfFirst) || !slices.Equal(call(l), want) {
					t.Errorf("R3: writing into what %s of %s in %s answers changes other answers", what, short(name), tell(sample))
				}
				spoil(all)
				if !slices.Equal(second, want) {
					t.Errorf("R3: writing into %s changes what %s of %s answered", tell(sample), what, short(name))
				}
			}
		}
	}
}

func TestListsAreNewMemory(t *testing.T) {
	for _, sample := range samples() {
		for _, call := range []func(l []api.Field) []string{Names, Vals} {
			l, all := roomy(sample)
			before := slices.Clone(all)
			want := call(slices.Clone(sample))
			first, second := call(l), call(l)
			first = first[:cap(first)]
			for i := range first {
				first[i] = "spoiled"
			}
			if !slices.Equal(all, before) || !slices.Equal(second, want) || !slices.Equal(call(l), want) {
				t.Errorf("R3: writing into the Names or Vals of %s changes more than these", tell(sample))
			}
			spoil(all)
			if !slices.Equal(second, want) {
				t.Errorf("R3: writing into %s changes its Names or Vals", tell(sample))
			}
		}
	}
}

// lent is a string of bytes that the test may write into once the call is over,
// as nothing of it is to be kept.
func lent(s string, lentAll *[][]byte) string {
	b := append(make([]byte, 0, len(s)+1), s...)
	*lentAll = append(*lentAll, b)
	return unsafe.String(unsafe.SliceData(b), len(b))
}

func lentHash(l []api.Field, all *[][]byte) []api.Field {
	var same []api.Field
	for _, f := range l {
		same = append(same, api.Field{Name: lent(f.Name, all), Val: lent(f.Val, all)})
	}
	return same
}

func spoilBytes(all [][]byte) {
	for _, b := range all {
		for i := range b {
			b[i] = '?'
		}
	}
}

// The bytes of strings are memory, too.
func TestStringsAreNewMemory(t *testing.T) {
	for _, sample := range samples() {
		for _, name := range tried(sample) {
			wantVal, has := Get(sample, name)
			wantSet, wantDel := Set(sample, name, "new"), Del(sample, name)
			wantNames, wantVals := Names(sample), Vals(sample)

			var all [][]byte
			l, n, v := lentHash(sample, &all), lent(name, &all), lent("new", &all)
			val, ok := Get(l, n)
			set, del, names, vals := Set(l, n, v), Del(l, n), Names(l), Vals(l)
			if !slices.Equal(l, sample) || n != name || v != "new" {
				t.Errorf("R3: a call with %s writes into the strings of %s", short(name), tell(sample))
			}
			spoilBytes(all)
			if val != wantVal || ok != has {
				t.Errorf("R3: Get of %s in %s answers memory of the hash", short(name), tell(sample))
			}
			if !slices.Equal(set, wantSet) {
				t.Errorf("R3: Set of %s in %s answers memory that it was given", short(name), tell(sample))
			}
			if !slices.Equal(del, wantDel) {
				t.Errorf("R3: Del of %s in %s answers memory of the hash", short(name), tell(sample))
			}
			if !slices.Equal(names, wantNames) || !slices.Equal(vals, wantVals) {
				t.Errorf("R3: the Names or Vals of %s are memory of the hash", tell(sample))
			}
		}
	}
}

func TestArgumentsStayAsTheyAre(t *testing.T) {
	for _, sample := range samples() {
		l, all := roomy(sample)
		before := slices.Clone(all)
		for _, name := range tried(sample) {
			val, ok := Get(l, name)
			set, del, names, vals := Set(l, name, "new"), Del(l, name), Names(l), Vals(l)
			for range 2 {
				againVal, againOk := Get(l, name)
				if againVal != val || againOk != ok || !slices.Equal(Set(l, name, "new"), set) || !slices.Equal(Del(l, name), del) || !slices.Equal(Names(l), names) || !slices.Equal(Vals(l), vals) {
					t.Errorf("R1: the answers to %s in %s differ", short(name), tell(sample))
				}
			}
		}
		if !slices.Equal(all, before) {
			t.Errorf("R3: a call changes %s", tell(sample))
		}
	}
}

// first are the first fields that an iterator goes through, at most so many.
func first(all iter.Seq2[string, string], most int) []api.Field {
	var l []api.Field
	if most == 0 {
		return l
	}
	for name, val := range all {
		l = append(l, api.Field{Name: name, Val: val})
		if len(l) == most {
			break
		}
	}
	return l
}

// An iterator may be left at any field, and gone through again.
func TestIteratorsAreLeft(t *testing.T) {
	l := of("a", "1", "b", "2", "c", "3", "d", "4")
	check := func(what string, all iter.Seq2[string, string], want []api.Field) {
		for most := range len(want) + 2 {
			for range 2 {
				if got := first(all, most); !slices.Equal(got, want[:min(most, len(want))]) {
					t.Errorf("the first %d fields %s are %s, want of %s", most, what, tell(got), tell(want))
				}
			}
		}
	}
	check("of all", fields(l), l)
	check("of none", fields(nil), nil)
	for _, name := range []string{"", "a", "aa", "b", "bb", "c", "d", "dd"} {
		check("without "+name, without(fields(l), name), Del(l, name))
		check("with "+name, with(without(fields(l), name), name, "new"), Set(l, name, "new"))
	}
	check("with one alone", with(fields(nil), "a", "1"), of("a", "1"))
}
