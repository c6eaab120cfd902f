package sets

import (
	"iter"
	"maps"
	"slices"
	"strconv"
	"strings"
	"testing"
	"unsafe"
)

// of is a list made of the words of a text.
func of(s string) []string { return strings.Fields(s) }

// these are sets made of the words of texts.
func these(texts ...string) [][]string {
	var all [][]string
	for _, s := range texts {
		all = append(all, of(s))
	}
	return all
}

func times(n int) string { return strings.Repeat("x", n) }

// counted is the set of the numbers from one to ahead of another, each so much
// more than the one before it, all with as many digits.
func counted(from, to, step int) []string {
	var l []string
	for i := from; i < to; i += step {
		l = append(l, strconv.Itoa(10000000 + i)[1:])
	}
	return l
}

// short is a string as a test tells it.
func short(s string) string {
	if len(s) > 24 {
		return strconv.Quote(s[:24]) + ".. of " + strconv.Itoa(len(s))
	}
	return strconv.Quote(s)
}

// tell is a list as a test tells it.
func tell(l []string) string {
	var words []string
	for _, s := range l[:min(len(l), 12)] {
		words = append(words, short(s))
	}
	return "[" + strings.Join(words, " ") + "] of " + strconv.Itoa(len(l))
}

// tellAll is lists as a test tells them.
func tellAll(all [][]string) string {
	var words []string
	for _, l := range all[:min(len(all), 6)] {
		words = append(words, tell(l))
	}
	return "(" + strings.Join(words, ", ") + ") of " + strconv.Itoa(len(all))
}

// less compares byte by byte, a string with one that goes on behind it as the
// lesser one.
func less(a, b string) bool {
	for i := range min(len(a), len(b)) {
		if a[i] != b[i] {
			return a[i] < b[i]
		}
	}
	return len(a) < len(b)
}

// rises tells whether a list is a set.
func rises(l []string) bool {
	for i := range l {
		if i > 0 && !less(l[i-1], l[i]) {
			return false
		}
	}
	return true
}

// having counts, for each element, how many of the sets have it.
func having(all [][]string) map[string]int {
	sets := map[string]int{}
	for _, l := range all {
		for _, s := range l {
			sets[s]++
		}
	}
	return sets
}

// consists tells whether a list is the set of the strings whose counts are wanted.
func consists(l []string, sets map[string]int, wanted func(n int) bool) bool {
	want := 0
	for _, n := range sets {
		if wanted(n) {
			want++
		}
	}
	for _, s := range l {
		if n, has := sets[s]; !has || !wanted(n) {
			return false
		}
	}
	return rises(l) && len(l) == want
}

// checkOf holds Of against the strings that its arguments have.
func checkOf(t *testing.T, l ...string) {
	t.Helper()
	if got := Of(l...); !consists(got, having([][]string{l}), func(n int) bool { return n > 0 }) {
		t.Errorf("9.1: Of %s is %s", tell(l), tell(got))
	}
}

// checkHas holds Has against a search from the first element to the last.
func checkHas(t *testing.T, l []string, s string) {
	t.Helper()
	if got := Has(l, s); got != slices.Contains(l, s) {
		t.Errorf("9.1: Has of %s in %s is %v", short(s), tell(l), got)
	}
}

// checkAll holds Both, Union and Minus against counts of the sets that have an
// element. Of each set it is once the one that the others are taken from.
func checkAll(t *testing.T, all ...[]string) {
	t.Helper()
	sets := having(all)
	if got := Both(all...); !consists(got, sets, func(n int) bool { return n == len(all) }) {
		t.Errorf("9.1: Both of %s is %s", tellAll(all), tell(got))
	}
	if got := Union(all...); !consists(got, sets, func(n int) bool { return n > 0 }) {
		t.Errorf("9.1: Union of %s is %s", tellAll(all), tell(got))
	}
	for i, a := range all {
		others := slices.Concat(all[:i], all[i+1:])
		checkMinus(t, a, others...)
	}
}

// checkMinus holds Minus against the elements that no other set has.
func checkMinus(t *testing.T, a []string, others ...[]string) {
	t.Helper()
	sets := having(others)
	var want []string
	for _, s := range a {
		if sets[s] == 0 {
			want = append(want, s)
		}
	}
	if got := Minus(a, others...); !slices.Equal(got, want) {
		t.Errorf("9.1: Minus of %s and %s is %s, want %s", tell(a), tellAll(others), tell(got), tell(want))
	}
}

func TestOf(t *testing.T) {
	for _, c := range []struct{ l, want []string }{
		{of("c a b a c"), of("a b c")},
		{nil, nil}, {[]string{}, nil},
		{of("a"), of("a")}, {of("a a"), of("a")}, {of("a a a a"), of("a")}, {of("b a"), of("a b")}, {of("a b"), of("a b")},
		{of("a b c"), of("a b c")}, {of("c b a"), of("a b c")}, {of("a b c c b a"), of("a b c")}, {of("b a b a b"), of("a b")}, {of("a a b b"), of("a b")}, {of("b b a a"), of("a b")},
		{[]string{""}, []string{""}}, {[]string{"", ""}, []string{""}}, {[]string{"a", ""}, []string{"", "a"}}, {[]string{"", "a", ""}, []string{"", "a"}}, {[]string{"\x00", ""}, []string{"", "\x00"}},
		{of("aa a aaa"), of("a aa aaa")}, {of("ab b a"), of("a ab b")}, {of("aab aa ab"), of("aa aab ab")}, {[]string{"a\x00", "a"}, []string{"a", "a\x00"}}, {[]string{"aa", "a\x00", "a", "a\x00"}, []string{"a", "a\x00", "aa"}},
		{of("10 9 1 2 -1 01"), of("-1 01 1 10 2 9")}, {of("b A a B"), of("A B a b")}, {of("a _ Z z"), of("Z _ a z")},
		{[]string{"\xff", "\x80", "\x7f", "a", "\x00"}, []string{"\x00", "a", "\x7f", "\x80", "\xff"}}, {[]string{"\u00e9", "z", "e"}, []string{"e", "z", "\u00e9"}}, {[]string{"\xff", "\xfe\xff"}, []string{"\xfe\xff", "\xff"}},
		{[]string{"\U0001f600", "\uffff"}, []string{"\uffff", "\U0001f600"}}, {[]string{"\u00e9", "e\u0301"}, []string{"e\u0301", "\u00e9"}},
		{[]string{"b ", " b", "b"}, []string{" b", "b", "b "}}, {[]string{times(301), times(300) + "a", times(300)}, []string{times(300), times(300) + "a", times(301)}},
	} {
		if got := Of(c.l...); !slices.Equal(got, c.want) {
			t.Errorf("9.1: Of %s is %s, want %s", tell(c.l), tell(got), tell(c.want))
		}
	}
	if got := Of(); len(got) != 0 {
		t.Errorf("9.1: Of no arguments is %s", tell(got))
	}
}

func TestHas(t *testing.T) {
	for _, c := range []struct {
		l    []string
		s    string
		want bool
	}{
		{of("b d f"), "d", true}, {of("b d f"), "b", true}, {of("b d f"), "f", true},
		{of("b d f"), "a", false}, {of("b d f"), "c", false}, {of("b d f"), "e", false}, {of("b d f"), "g", false}, {of("b d f"), "", false}, {of("b d f"), "\x00", false}, {of("b d f"), "\xff", false},
		{of("b d f"), "D", false}, {of("b d f"), "dd", false}, {of("b d f"), "bd", false}, {of("b d f"), "b d f", false}, {of("b d f"), "d\x00", false}, {of("b d f"), " d", false},
		{nil, "", false}, {nil, "a", false}, {[]string{}, "", false}, {[]string{}, "a", false},
		{of("a"), "a", true}, {of("a"), "", false}, {of("a"), "A", false}, {of("a"), "b", false}, {of("a"), "aa", false}, {of("aa"), "a", false}, {of("aa"), "aa", true},
		{[]string{""}, "", true}, {[]string{""}, "\x00", false}, {[]string{""}, "a", false}, {[]string{"", "a"}, "", true}, {[]string{"", "a"}, "a", true},
		{of("a aa aaa"), "aa", true}, {of("a aaa"), "aa", false}, {[]string{"\x80", "\xff"}, "\xff", true}, {[]string{"\x80", "\xff"}, "\x7f", false},
	} {
		if got := Has(c.l, c.s); got != c.want {
			t.Errorf("9.1: Has of %q in %q is %v", c.s, c.l, got)
		}
	}
}

func TestBothUnionMinus(t *testing.T) {
	for _, c := range []struct {
		l                  [][]string
		both, union, minus string
	}{
		{these("a b c", "b c d"), "b c", "a b c d", "a"}, {these("b c d", "a b c"), "b c", "a b c d", "d"},
		{these("a b c"), "a b c", "a b c", "a b c"}, {these("a"), "a", "a", "a"}, {these(""), "", "", ""},
		{these("a b", "a b"), "a b", "a b", ""}, {these("a b", "a b", "a b"), "a b", "a b", ""},
		{these("a b", "c d"), "", "a b c d", "a b"}, {these("c d", "a b"), "", "a b c d", "c d"}, {these("a c e", "b d f"), "", "a b c d e f", "a c e"}, {these("b d f", "a c e"), "", "a b c d e f", "b d f"},
		{these("a b c", "b"), "b", "a b c", "a c"}, {these("b", "a b c"), "b", "a b c", ""}, {these("a b c", "a"), "a", "a b c", "b c"}, {these("a b c", "c"), "c", "a b c", "a b"}, {these("a b c d", "a d"), "a d", "a b c d", "b c"},
		{these("", "a"), "", "a", ""}, {these("a", ""), "", "a", "a"}, {these("", ""), "", "", ""}, {these("a", "", "a"), "", "a", ""}, {these("a b", "", "a"), "", "a b", "b"}, {these("", "a b", ""), "", "a b", ""}, {these("a b", "", ""), "", "a b", "a b"},
		{these("a b c d", "a c", "b c"), "c", "a b c d", "d"}, {these("a c", "b c", "a b c d"), "c", "a b c d", ""}, {these("a b", "b c", "c d"), "", "a b c d", "a"}, {these("a b", "b c", "a c"), "", "a b c", ""},
		{these("a b c", "a", "b", "c"), "", "a b c", ""}, {these("a b c d", "a", "b", "c"), "", "a b c d", "d"}, {these("d", "c", "b", "a"), "", "a b c d", "d"}, {these("a b", "a b", "b c", "a b"), "b", "a b c", ""},
		{these("a aa aaa", "aa aab"), "aa", "a aa aaa aab", "a aaa"}, {these("a b", "A B"), "", "A B a b", "a b"}, {these("1 10 2", "10 9"), "10", "1 10 2 9", "1 2"},
		{these("a b c d e f", "b c d e f g", "c d e f g h", "d e f g h i", "e f g h i j"), "e f", "a b c d e f g h i j", "a"},
	} {
		if got := Both(c.l...); !slices.Equal(got, of(c.both)) {
			t.Errorf("9.1: Both of %q is %q", c.l, got)
		}
		if got := Union(c.l...); !slices.Equal(got, of(c.union)) {
			t.Errorf("9.1: Union of %q is %q", c.l, got)
		}
		if got := Minus(c.l[0], c.l[1:]...); !slices.Equal(got, of(c.minus)) {
			t.Errorf("9.1: Minus of %q and %q is %q", c.l[0], c.l[1:], got)
		}
	}
}

func TestOfNothing(t *testing.T) {
	if got := Both(); len(got) != 0 {
		t.Errorf("9.1: Both of no sets is %s", tell(got))
	}
	if got := Union(); len(got) != 0 {
		t.Errorf("9.1: Union of no sets is %s", tell(got))
	}
	for _, empty := range nothing() {
		for _, more := range nothing() {
			for _, call := range []func(l ...[]string) []string{Both, Union, minus} {
				if len(call(empty)) != 0 || len(call(empty, more)) != 0 || len(call(empty, more, empty)) != 0 {
					t.Error("9.1: of empty sets comes an element")
				}
			}
		}
		for _, s := range []string{"", "\x00", "a", "\xff"} {
			if Has(empty, s) {
				t.Errorf("9.1: the empty set has %q", s)
			}
		}
	}
}

// nothing is the empty set in several ways.
func nothing() [][]string {
	return [][]string{nil, {}, of("a b")[:0], of("a b")[2:], make([]string, 0, 8)}
}

// minus takes the first set as that which the others are taken from.
func minus(l ...[]string) []string {
	if len(l) == 0 {
		return Minus(nil)
	}
	return Minus(l[0], l[1:]...)
}

// Empty sets, nil or not, stand for the same wherever they are.
func TestEmptySetsAmidOthers(t *testing.T) {
	for _, others := range [][][]string{nil, these("a"), these("a b", "b c"), these("a b c", "b c d", "c d e"), {{""}, {"", "a"}}} {
		for place := range len(others) + 1 {
			for _, empty := range nothing() {
				all := slices.Insert(slices.Clone(others), place, empty)
				checkAll(t, all...)
				if got := Both(all...); len(got) != 0 {
					t.Errorf("9.1: Both of %s is %s", tellAll(all), tell(got))
				}
				if got := Union(all...); !slices.Equal(got, Union(others...)) {
					t.Errorf("9.1: Union of %s is %s", tellAll(all), tell(got))
				}
				if got := minus(all...); place > 0 && !slices.Equal(got, minus(others...)) {
					t.Errorf("9.1: Minus of %s is %s", tellAll(all), tell(got))
				}
			}
		}
	}
}

// subsets are all sets of some of these strings.
func subsets(l ...string) [][]string {
	all := [][]string{nil}
	for _, s := range l {
		for _, less := range slices.Clone(all) {
			all = append(all, slices.Concat(less, []string{s}))
		}
	}
	return all
}

func TestAllSetsOfFewStrings(t *testing.T) {
	all := subsets("", "\x00", "a", "ab", "b", "\xff")
	between := []string{"", "\x00", "\x00\x00", "A", "a", "a\x00", "aa", "ab", "abc", "b", "ba", "\x80", "\xff", "\xff\x00"}
	for _, a := range all {
		checkAll(t, a)
		for _, s := range between {
			checkHas(t, a, s)
		}
		for _, b := range all {
			checkAll(t, a, b)
		}
	}
	few := subsets("", "a", "ab", "b")
	for _, a := range few {
		for _, b := range few {
			for _, c := range few {
				checkAll(t, a, b, c)
			}
		}
	}
	few = subsets("", "a", "ab")
	for _, a := range few {
		for _, b := range few {
			for _, c := range few {
				for _, d := range few {
					checkAll(t, a, b, c, d)
				}
			}
		}
	}
}

// lists are all there are of these strings, with at most so many elements.
func lists(most int, words ...string) iter.Seq[[]string] {
	return func(yield func([]string) bool) {
		some := [][]string{nil}
		for len(some) > 0 {
			l := some[0]
			some = some[1:]
			if !yield(l) {
				return
			}
			for _, s := range words {
				if len(l) < most {
					some = append(some, slices.Concat(l, []string{s}))
				}
			}
		}
	}
}

func TestOfAllShortLists(t *testing.T) {
	for l := range lists(7, "", "a", "ab") {
		checkOf(t, l...)
	}
	for l := range lists(5, "b", "a", "aa", "\x00", "\xff") {
		checkOf(t, l...)
	}
}

// orders are all orders of the list.
func orders[T any](l []T) [][]T {
	if len(l) == 0 {
		return [][]T{nil}
	}
	var all [][]T
	for _, rest := range orders(l[1:]) {
		for place := range len(l) {
			all = append(all, slices.Insert(slices.Clone(rest), place, l[0]))
		}
	}
	return all
}

// checkOrders holds Of, Both and Union in all orders of their arguments against
// that in which they are given (9.2).
func checkOrders(t *testing.T, all [][]string) {
	t.Helper()
	both, union := Both(all...), Union(all...)
	for _, order := range orders(all) {
		if got := Both(order...); !slices.Equal(got, both) {
			t.Errorf("9.2: Both of %s is %s, of %s it is %s", tellAll(all), tell(both), tellAll(order), tell(got))
		}
		if got := Union(order...); !slices.Equal(got, union) {
			t.Errorf("9.2: Union of %s is %s, of %s it is %s", tellAll(all), tell(union), tellAll(order), tell(got))
		}
	}
}

func TestTheOrderOfSets(t *testing.T) {
	few := subsets("", "a", "ab")
	for i, a := range few {
		for j, b := range few[:i+1] {
			for k, c := range few[:j+1] {
				checkOrders(t, [][]string{a, b, c})
				for _, d := range few[:k+1] {
					checkOrders(t, [][]string{a, b, c, d})
				}
			}
		}
	}
	for _, all := range [][][]string{
		these("a b c d", "b c d e", "c d e f", "d e f g", "a d g", "d"), these("a", "b", "c", "d", "e", "f"), these("a b", "a b", "b c", "b c", "", "x"), these("b", "b", "b", "b", "b", "b"),
		{counted(0, 60, 1), counted(0, 60, 2), counted(0, 60, 3), counted(0, 60, 5), counted(30, 31, 1)}, {counted(0, 40, 1), nil, {}, counted(40, 80, 1), {times(301)}},
	} {
		checkOrders(t, all)
	}
}

func TestTheOrderOfStrings(t *testing.T) {
	for _, l := range [][]string{of("a b c d e f g"), of("a a b b c c"), {"", "a", "aa", "\x00", "\xff", "b"}, of("a a a a a a a"), {"", "", "a", "a", "\xff"}, {times(300), times(301), times(302), times(301)}} {
		want := Of(l...)
		for _, order := range orders(l) {
			if got := Of(order...); !slices.Equal(got, want) {
				t.Fatalf("9.2: Of %s is %s, of %s it is %s", tell(l), tell(want), tell(order), tell(got))
			}
		}
	}
	for l := range lists(6, "", "a", "b") {
		sorted, reverse := slices.Sorted(slices.Values(l)), slices.Clone(l)
		slices.Reverse(reverse)
		if want := Of(l...); !slices.Equal(Of(sorted...), want) || !slices.Equal(Of(reverse...), want) {
			t.Errorf("9.2: Of %q hangs on the order", l)
		}
	}
}

// Strings are compared byte by byte, whatever the bytes are.
func TestElementsOfEachByte(t *testing.T) {
	for _, around := range [][2]string{{"", ""}, {"m", ""}, {"", "m"}, {"\xff", "\x00"}, {"\xc3", ""}, {times(40), ""}} {
		var l []string
		for c := range 256 {
			l = append(l, around[0]+string([]byte{byte(c)})+around[1])
		}
		mixed := make([]string, 0, 512)
		for i := range 512 {
			mixed = append(mixed, l[i*77%256])
		}
		if got := Of(mixed...); !slices.Equal(got, l) {
			t.Errorf("9.1: Of all bytes within %q isn't in their order", around)
		}
		for c, s := range l {
			one := []string{s}
			checkHas(t, l, s)
			checkHas(t, l, s+"\x00")
			rest := slices.Concat(l[:c], l[c+1:])
			checkHas(t, rest, s)
			if got := Both(l, one); !slices.Equal(got, one) {
				t.Errorf("9.1: Both of all bytes and %q is %s", s, tell(got))
			}
			if got := Union(rest, one); !slices.Equal(got, l) {
				t.Errorf("9.1: Union of all other bytes and %q is %s", s, tell(got))
			}
			if got := Minus(l, one); !slices.Equal(got, rest) {
				t.Errorf("9.1: Minus of all bytes and %q is %s", s, tell(got))
			}
		}
		checkAll(t, l[:128], l[128:], l[64:192])
	}
}

// A string that is the beginning of another is the lesser one, however long.
func TestLongElements(t *testing.T) {
	for _, n := range []int{1, 40, 41, 299, 300, 301, 1000, 1 << 20} {
		l := []string{times(n - 1), times(n-1) + "a", times(n), times(n) + "a", times(n) + "b", times(n + 1)}
		if got := Of(l[3], l[1], l[5], l[2], l[0], l[4], l[2]); !slices.Equal(got, l) {
			t.Errorf("9.1: Of long strings is %s", tell(got))
		}
		for i, s := range l {
			checkHas(t, l, s)
			checkHas(t, l, s+"\x00")
			checkHas(t, slices.Concat(l[:i], l[i+1:]), s)
			checkAll(t, l, []string{s})
			checkAll(t, l[:i], l[i:], l)
		}
	}
}

// No bound of an item holds for the calls of this package.
func TestSetsOfManyElements(t *testing.T) {
	for _, n := range []int{1, 2, 3, 7, 8, 9, 39, 40, 41, 100, 300} {
		odd, all := counted(1, 2*n, 2), counted(0, 2*n+1, 1)
		for _, s := range all {
			checkHas(t, odd, s)
			checkHas(t, all, s)
			checkHas(t, all, s+"0")
		}
		checkHas(t, all, "")
		checkAll(t, odd, all)
		checkAll(t, all, counted(0, 2*n+1, 3), counted(0, 2*n+1, 5))
		checkAll(t, counted(0, n, 1), counted(n, 2*n, 1))
		checkAll(t, counted(0, n+1, 1), counted(n, 2*n, 1))
		checkAll(t, all, counted(n, n+1, 1), nil, all)
		checkOf(t, slices.Concat(all, odd, all)...)
		reverse := slices.Clone(all)
		slices.Reverse(reverse)
		checkOf(t, reverse...)
	}
}

func TestManySets(t *testing.T) {
	for n := 1; n <= 70; n++ {
		var ones, lesser, without [][]string
		all := counted(0, n, 1)
		for i, s := range all {
			ones = append(ones, []string{s})
			lesser = append(lesser, all[:i+1])
			without = append(without, slices.Concat(all[:i], all[i+1:]))
		}
		checkAll(t, ones...)
		checkAll(t, lesser...)
		checkAll(t, without...)
		checkAll(t, slices.Repeat([][]string{all}, n)...)
		if got := Union(ones...); !slices.Equal(got, all) {
			t.Errorf("9.1: Union of %d sets of one is %s", n, tell(got))
		}
		for i := range all {
			if got := Minus(all, slices.Concat(ones[:i], ones[i+1:])...); !slices.Equal(got, all[i:i+1]) {
				t.Errorf("9.1: Minus of all and %d sets of one is %s", n-1, tell(got))
			}
			if got := Both(slices.Concat(without[:i], without[i+1:])...); n > 1 && !slices.Equal(got, all[i:i+1]) {
				t.Errorf("9.1: Both of %d sets is %s", n-1, tell(got))
			}
		}
	}
}

func TestVeryMany(t *testing.T) {
	const n = 200000
	all := counted(0, n, 1)
	even, odd := counted(0, n, 2), counted(1, n, 2)
	if got := Of(slices.Concat(odd, even, odd)...); !slices.Equal(got, all) {
		t.Errorf("9.1: Of many is %s", tell(got))
	}
	if got := Union(odd, even); !slices.Equal(got, all) {
		t.Errorf("9.1: Union of many is %s", tell(got))
	}
	if got := Both(all, odd); !slices.Equal(got, odd) {
		t.Errorf("9.1: Both of many is %s", tell(got))
	}
	if got := Minus(all, odd); !slices.Equal(got, even) {
		t.Errorf("9.1: Minus of many is %s", tell(got))
	}
	for i, s := range all {
		if !Has(all, s) || Has(odd, s) != (i%2 == 1) {
			t.Fatalf("9.1: Has of %q among many", s)
		}
	}
	var ones [][]string
	for _, s := range odd {
		ones = append(ones, []string{s})
	}
	if got := Union(ones...); !slices.Equal(got, odd) {
		t.Errorf("9.1: Union of many sets is %s", tell(got))
	}
	if got := Minus(all, ones...); !slices.Equal(got, even) {
		t.Errorf("9.1: Minus of many sets is %s", tell(got))
	}
	if got := Both(slices.Repeat([][]string{{"a", "b"}}, n)...); !slices.Equal(got, of("a b")) {
		t.Errorf("9.1: Both of many sets is %s", tell(got))
	}
	if got := Union(make([][]string, n)...); len(got) != 0 {
		t.Errorf("9.1: Union of many empty sets is %s", tell(got))
	}
}

// What the calls answer belongs together, also with what they answered before.
func TestTheSameCallTwice(t *testing.T) {
	few := subsets("", "a", "ab", "b")
	for l := range lists(5, "", "b", "ab") {
		set := Of(l...)
		if again := Of(set...); !slices.Equal(again, set) {
			t.Errorf("9.1: Of the set of %q is %q", l, again)
		}
		for _, s := range []string{"", "a", "ab", "b"} {
			if Has(set, s) != slices.Contains(l, s) {
				t.Errorf("9.1: the set of %q has %q: %v", l, s, Has(set, s))
			}
		}
	}
	for _, a := range few {
		for _, call := range []func(l ...[]string) []string{Both, Union, minus} {
			if got := call(a); !slices.Equal(got, a) {
				t.Errorf("9.1: of %q alone comes %q", a, got)
			}
		}
		if !slices.Equal(Both(a, a), a) || !slices.Equal(Union(a, a), a) || len(Minus(a, a)) != 0 {
			t.Errorf("9.1: of %q and itself come %q, %q, %q", a, Both(a, a), Union(a, a), Minus(a, a))
		}
		for _, b := range few {
			both, union, less := Both(a, b), Union(a, b), Minus(a, b)
			if !slices.Equal(Both(both, b), both) || !slices.Equal(Union(union, b), union) || !slices.Equal(Minus(less, b), less) {
				t.Errorf("9.1: calls on what they answered of %q and %q answer something else", a, b)
			}
			if !slices.Equal(Union(both, less), a) || !slices.Equal(Union(less, b), union) || !slices.Equal(Minus(a, less), both) || len(Both(less, b)) != 0 {
				t.Errorf("9.1: the answers on %q and %q don't belong together", a, b)
			}
			if !slices.Equal(Of(slices.Concat(b, a)...), union) {
				t.Errorf("9.1: Of all that %q and %q have isn't %q", a, b, union)
			}
			for _, c := range few {
				if !slices.Equal(Both(a, b, c), Both(Both(a, b), c)) || !slices.Equal(Union(a, b, c), Union(a, Union(b, c))) || !slices.Equal(Minus(a, b, c), Minus(Minus(a, c), b)) {
					t.Errorf("9.1: calls on %q, %q, %q at once differ from those one by one", a, b, c)
				}
			}
		}
	}
}

// A walk of calls without order, beside sets as maps.
func TestAWalk(t *testing.T) {
	var l []string
	want := map[string]int{}
	n := uint64(7)
	for step := range 20000 {
		n = n*6364136223846793005 + 1442695040888963407
		var more []string
		for i := range int(n >> 60) {
			more = append(more, strconv.Itoa(int(n>>(20+i)%64)))
		}
		others := Of(more...)
		switch n >> 50 % 4 {
		case 0, 1:
			l = Union(l, others)
			for _, s := range more {
				want[s] = 1
			}
		case 2:
			l = Minus(l, others)
			for _, s := range more {
				delete(want, s)
			}
		case 3:
			kept := Of(slices.Concat(more, counted(0, 3, 1), counted(3, 6, 1))...)
			for s := range want {
				if len(s) == 1 {
					kept = Union(kept, []string{s})
				}
			}
			l = Both(kept, l)
			maps.DeleteFunc(want, func(s string, _ int) bool { return len(s) > 1 && !slices.Contains(more, s) })
		}
		if !consists(l, want, func(n int) bool { return true }) {
			t.Fatalf("9.1: after %d steps the set is %s, want %v", step, tell(l), want)
		}
	}
}

// Of lists that are no sets nothing is promised, but that each call ends and none
// panics.
func TestListsThatAreNoSets(t *testing.T) {
	var all [][]string
	for l := range lists(4, "b", "", "a") {
		all = append(all, l)
	}
	for _, a := range all {
		for _, b := range all {
			for _, call := range []func(l ...[]string) []string{Both, Union, minus} {
				if len(call(a, b)) > len(a)+len(b) || len(call(a, b, a)) > 2*len(a)+len(b) {
					t.Errorf("R1: of %q and %q come more than there are", a, b)
				}
			}
		}
		for _, s := range []string{"", "a", "aa", "b", "c"} {
			if Has(a, s) && !slices.Contains(a, s) {
				t.Errorf("R1: %q has %q", a, s)
			}
		}
	}
}

// samples are sets for what is to hold of all calls.
func samples() [][]string {
	return [][]string{nil, {}, {""}, of("a"), of("a b"), of("a b c"), {"", "a"}, {"", "a", "aa", "b"}, of("m n o p"), counted(0, 3, 1), counted(0, 8, 1), counted(0, 40, 1), counted(0, 41, 1), {"a", times(301)}}
}

// calls are those that answer a set, with what they are given beside it. Some of
// them answer an equal set.
func calls() map[string]func(l []string) []string {
	return map[string]func(l []string) []string{
		"Of":                            func(l []string) []string { return Of(l...) },
		"Both of one":                   func(l []string) []string { return Both(l) },
		"Both of itself":                func(l []string) []string { return Both(l, l) },
		"Both of itself, three times":   func(l []string) []string { return Both(l, l, l) },
		"Both, first":                   func(l []string) []string { return Both(l, of("a b m")) },
		"Both, last":                    func(l []string) []string { return Both(of("a b m"), l) },
		"Both of an equal one":          func(l []string) []string { return Both(slices.Clone(l), l) },
		"Both with none":                func(l []string) []string { return Both(l, nil) },
		"Union of one":                  func(l []string) []string { return Union(l) },
		"Union of itself":               func(l []string) []string { return Union(l, l) },
		"Union of itself, three times":  func(l []string) []string { return Union(l, l, l) },
		"Union, first":                  func(l []string) []string { return Union(l, of("a b m")) },
		"Union, last":                   func(l []string) []string { return Union(of("a b m"), l) },
		"Union amid":                    func(l []string) []string { return Union(of("a b m"), l, of("z")) },
		"Union with none":               func(l []string) []string { return Union(l, nil) },
		"Union behind none":             func(l []string) []string { return Union(nil, l) },
		"Union amid none":               func(l []string) []string { return Union(nil, nil, l, nil) },
		"Minus of none":                 func(l []string) []string { return Minus(l) },
		"Minus of the empty set":        func(l []string) []string { return Minus(l, nil) },
		"Minus of several empty sets":   func(l []string) []string { return Minus(l, nil, []string{}) },
		"Minus of itself":               func(l []string) []string { return Minus(l, l) },
		"Minus of what it hasn't":       func(l []string) []string { return Minus(l, of("x"), of("y z")) },
		"Minus, first":                  func(l []string) []string { return Minus(l, of("a b m")) },
		"Minus, last":                   func(l []string) []string { return Minus(of("a b m"), l) },
		"Minus, last of several":        func(l []string) []string { return Minus(of("a b m"), nil, of("m"), l) },
		"Minus from none":               func(l []string) []string { return Minus(nil, l) },
		"Of it and what comes ahead":    func(l []string) []string { return Of(append([]string{"A"}, l...)...) },
		"Union of what is shared":       func(l []string) []string { return Union(Both(l, l), Minus(l)) },
		"Both of all and the union":     func(l []string) []string { return Both(Union(l, of("x")), l) },
		"Minus from the union":          func(l []string) []string { return Minus(Union(l, of("x")), of("x")) },
		"Of the one that is first in l": func(l []string) []string { return Of(l[:min(len(l), 1)]...) },
	}
}

// roomy is an equal list with spare capacity behind it, and all of its memory.
func roomy(l []string) (same, all []string) {
	all = append(slices.Clone(l), "spare", "spare", "spare")
	return all[:len(l)], all
}

// spoil writes into all that can be written into, the spare capacity too.
func spoil(l []string) {
	l = l[:cap(l)]
	for i := range l {
		l[i] = "spoiled"
	}
}

func TestSetsAreNewMemory(t *testing.T) {
	for _, sample := range samples() {
		for what, call := range calls() {
			l, all := roomy(sample)
			before := slices.Clone(all)
			want := call(slices.Clone(sample))
			first, second := call(l), call(l)
			ofFirst := call(first)
			wantOfFirst := slices.Clone(ofFirst)
			if !slices.Equal(all, before) {
				t.Errorf("R3: %s writes into %s", what, tell(sample))
			}
			spoil(first)
			if more := append(first, "more"); len(more) != len(want)+1 {
				t.Errorf("R3: what %s answers can't be added to", what)
			}
			if !slices.Equal(all, before) {
				t.Errorf("R3: writing into what %s answers changes %s", what, tell(sample))
			}
			if !slices.Equal(second, want) || !slices.Equal(ofFirst, wantOfFirst) || !slices.Equal(call(l), want) {
				t.Errorf("R3: writing into what %s of %s answers changes other answers", what, tell(sample))
			}
			spoil(all)
			if !slices.Equal(second, want) {
				t.Errorf("R3: writing into %s changes what %s answered", tell(sample), what)
			}
		}
	}
}

// lent is a string of bytes that the test may write into once the call is over,
// as nothing of it is to be kept.
func lent(s string, lentAll *[][]byte) string {
	b := append(make([]byte, 0, len(s)+1), s...)
	*lentAll = append(*lentAll, b)
	return unsafe.String(unsafe.SliceData(b), len(b))
}

func lentList(l []string, all *[][]byte) []string {
	var same []string
	for _, s := range l {
		same = append(same, lent(s, all))
	}
	return same
}

func spoilBytes(all [][]byte) {
	for _, b := range all {
		for i := range b {
			b[i] = '?'
		}
	}
}

// The bytes of strings are memory, too.
func TestStringsAreNewMemory(t *testing.T) {
	for _, sample := range samples() {
		for what, call := range calls() {
			want := call(sample)
			var all [][]byte
			l := lentList(sample, &all)
			got := call(l)
			if !slices.Equal(l, sample) {
				t.Errorf("R3: %s writes into the strings of %s", what, tell(sample))
			}
			spoilBytes(all)
			if !slices.Equal(got, want) {
				t.Errorf("R3: %s of %s answers memory of the set", what, tell(sample))
			}
		}
	}
}

// All sets of a call, and the list of them, stay as they are, and no answer
// changes with them.
func TestArgumentsStayAsTheyAre(t *testing.T) {
	for _, call := range []func(l ...[]string) []string{Both, Union, minus} {
		for n := range 6 {
			var sets, memory, wantMemory [][]string
			for i := range n {
				l, all := roomy(samples()[(i*5+3)%len(samples())])
				sets, memory, wantMemory = append(sets, l), append(memory, all), append(wantMemory, slices.Clone(all))
			}
			spare := append(slices.Clone(sets), of("spare"), of("more"))
			want := call(slices.Clone(sets)...)
			first, second := call(spare[:n]...), call(spare[:n]...)
			if !slices.Equal(first, want) || !slices.Equal(second, want) {
				t.Errorf("R1: the answers to %s differ: %s, %s, %s", tellAll(sets), tell(want), tell(first), tell(second))
			}
			spoil(first)
			for i := range n {
				if !slices.Equal(memory[i], wantMemory[i]) || !slices.Equal(spare[i], sets[i]) || len(spare[i]) != len(sets[i]) {
					t.Errorf("R3: a call changes set %d of %s", i, tellAll(sets))
				}
			}
			if !slices.Equal(spare[n], of("spare")) || !slices.Equal(spare[n+1], of("more")) {
				t.Errorf("R3: a call writes behind %d sets", n)
			}
			for _, all := range memory {
				spoil(all)
			}
			clear(spare)
			if !slices.Equal(second, want) {
				t.Errorf("R3: writing into %d sets changes an answer", n)
			}
		}
	}
}

func TestArgumentsOfOfAndHas(t *testing.T) {
	for l := range lists(5, "b", "", "a") {
		same, all := roomy(l)
		before := slices.Clone(all)
		first, second := Of(same...), Of(same...)
		if !slices.Equal(first, second) || !slices.Equal(all, before) {
			t.Errorf("R3: Of changes %q to %q", before, all)
		}
		spoil(first)
		if !slices.Equal(all, before) || !slices.Equal(Of(same...), second) {
			t.Errorf("R3: writing into an answer of Of changes %q", before)
		}
		set, all := roomy(second)
		before = slices.Clone(all)
		for _, s := range []string{"", "a", "aa", "b", "spare"} {
			if has := Has(set, s); has != slices.Contains(second, s) || Has(set, s) != has || !slices.Equal(all, before) {
				t.Errorf("R3: Has of %q in %q is %v, and leaves %q", s, second, has, all)
			}
		}
	}
}

// passed are the first elements that an iterator comes by, at most so many, each
// with the sides that have it.
func passed(all iter.Seq2[string, sides], most int) (l []string, in []sides) {
	for s, of := range all {
		l, in = append(l, s), append(in, of)
		if len(l) >= most {
			break
		}
	}
	return l, in
}

// An iterator may be left at any element, and gone through again.
func TestIteratorsAreLeft(t *testing.T) {
	few := subsets("", "a", "ab", "b")
	for _, a := range few {
		for _, b := range few {
			all := elements(a, b)
			union := Union(a, b)
			for most := 1; most <= len(union)+1; most++ {
				for range 2 {
					l, in := passed(all, most)
					if !slices.Equal(l, union[:min(most, len(union))]) {
						t.Errorf("the first %d elements of %q and %q are %q", most, a, b, l)
					}
					for i, s := range l {
						if want := (sides{slices.Contains(a, s), slices.Contains(b, s)}); in[i] != want {
							t.Errorf("of %q and %q, %q is an element of %v", a, b, s, in[i])
						}
					}
				}
			}
			less := chosen(a, b, func(in sides) bool { return !in.second })
			for range 2 {
				for s := range less {
					if s != Minus(a, b)[0] {
						t.Errorf("the first element of %q that isn't one of %q is %q", a, b, s)
					}
					break
				}
			}
		}
	}
}
