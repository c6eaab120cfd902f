package list

import (
	"iter"
	"math"
	"slices"
	"strconv"
	"strings"
	"testing"
	"unsafe"
)

// of is a list made of the words of a text.
func of(s string) []string { return strings.Fields(s) }

func times(n int) string { return strings.Repeat("x", n) }

// counted is a list of so many elements, no two of them equal.
func counted(n int) []string {
	var l []string
	for i := range n {
		l = append(l, strconv.Itoa(i))
	}
	return l
}

// short is a string as a test tells it.
func short(s string) string {
	if len(s) > 24 {
		return strconv.Quote(s[:24]) + ".. of " + strconv.Itoa(len(s))
	}
	return strconv.Quote(s)
}

// tell is a list as a test tells it.
func tell(l []string) string {
	var words []string
	for _, s := range l[:min(len(l), 12)] {
		words = append(words, short(s))
	}
	return "[" + strings.Join(words, " ") + "] of " + strconv.Itoa(len(l))
}

// names tells whether an index stands for the place in a list of n elements: as it
// is, or counted from the end.
func names(i, place, n int) bool { return i == place || i == place-n }

// checkPush holds Push against elements that are added one at a time.
func checkPush(t *testing.T, l []string, front bool, v ...string) {
	t.Helper()
	want := slices.Clone(l)
	for _, s := range v {
		if front {
			want = slices.Insert(want, 0, s)
		} else {
			want = append(want, s)
		}
	}
	if got := Push(l, front, v...); !slices.Equal(got, want) {
		t.Errorf("8.1: Push of %s to %s, front %v, is %s, want %s", tell(v), tell(l), front, tell(got), tell(want))
	}
}

// checkSub holds Sub against the places that are neither ahead of a nor behind b.
// No sum is made of an index, so that none wraps round.
func checkSub(t *testing.T, l []string, a, b int) {
	t.Helper()
	var want []string
	for place, s := range l {
		ahead := a >= 0 && place < a || a < 0 && place-len(l) < a
		behind := b >= 0 && place > b || b < 0 && place-len(l) > b
		if !ahead && !behind {
			want = append(want, s)
		}
	}
	if got := Sub(l, a, b); !slices.Equal(got, want) {
		t.Errorf("8.1: Sub of %s from %d to %d is %s, want %s", tell(l), a, b, tell(got), tell(want))
	}
}

// checkAt holds At and Set against the place that the index stands for.
func checkAt(t *testing.T, l []string, i int) {
	t.Helper()
	want, wantSet, has := "", []string(nil), false
	for place, s := range l {
		if names(i, place, len(l)) {
			want, wantSet, has = s, slices.Concat(l[:place], []string{"new"}, l[place+1:]), true
		}
	}
	if got, ok := At(l, i); got != want || ok != has {
		t.Errorf("8.1: At of %d in %s is %s, %v, want %s, %v", i, tell(l), short(got), ok, short(want), has)
	}
	got, ok := Set(l, i, "new")
	if !slices.Equal(got, wantSet) || ok != has {
		t.Errorf("8.1: Set of %d in %s is %s, %v, want %s, %v", i, tell(l), tell(got), ok, tell(wantSet), has)
	}
	if !ok && got != nil {
		t.Errorf("R4: beside false Set of %d in %s is a list", i, tell(l))
	}
}

// checkRem holds Rem against the places of the equal elements: the first of them,
// the last or all.
func checkRem(t *testing.T, l []string, n int, v string) {
	t.Helper()
	var places []int
	for place, s := range l {
		if s == v {
			places = append(places, place)
		}
	}
	if n > 0 && n < len(places) {
		places = places[:n]
	}
	if n < 0 && n > -len(places) {
		places = places[len(places)+n:]
	}
	want := slices.Clone(l)
	for _, place := range slices.Backward(places) {
		want = slices.Delete(want, place, place+1)
	}
	if got, gone := Rem(l, n, v); !slices.Equal(got, want) || gone != len(places) {
		t.Errorf("8.1: Rem of %d %s in %s is %s, %d, want %s, %d", n, short(v), tell(l), tell(got), gone, tell(want), len(places))
	}
}

func TestPush(t *testing.T) {
	for _, c := range []struct {
		l, v, front, end []string
	}{
		{of("a b"), of("x y"), of("y x a b"), of("a b x y")},
		{of("a b"), of("x"), of("x a b"), of("a b x")},
		{of("a b"), of("x y z"), of("z y x a b"), of("a b x y z")},
		{of("a"), of("x y"), of("y x a"), of("a x y")},
		{of("a b"), of("a b"), of("b a a b"), of("a b a b")},
		{of("a a"), of("a"), of("a a a"), of("a a a")},
		{of("a b"), nil, of("a b"), of("a b")}, {of("a b"), []string{}, of("a b"), of("a b")}, {of("a"), nil, of("a"), of("a")},
		{nil, of("x"), of("x"), of("x")}, {nil, of("x y"), of("y x"), of("x y")}, {[]string{}, of("x y z"), of("z y x"), of("x y z")},
		{nil, nil, nil, nil}, {nil, []string{}, nil, nil}, {[]string{}, nil, nil, nil}, {[]string{}, []string{}, nil, nil},
		{nil, []string{""}, []string{""}, []string{""}}, {[]string{""}, nil, []string{""}, []string{""}}, {[]string{""}, []string{""}, []string{"", ""}, []string{"", ""}},
		{[]string{""}, of("x"), []string{"x", ""}, []string{"", "x"}}, {of("x"), []string{"", "y", ""}, []string{"", "y", "", "x"}, []string{"x", "", "y", ""}},
		{[]string{"\xff\x00"}, []string{"\x80", "a b"}, []string{"a b", "\x80", "\xff\x00"}, []string{"\xff\x00", "\x80", "a b"}},
	} {
		if got := Push(c.l, true, c.v...); !slices.Equal(got, c.front) {
			t.Errorf("8.1: Push of %q to the front of %q is %q", c.v, c.l, got)
		}
		if got := Push(c.l, false, c.v...); !slices.Equal(got, c.end) {
			t.Errorf("8.1: Push of %q to the end of %q is %q", c.v, c.l, got)
		}
	}
}

func TestSub(t *testing.T) {
	l := of("a b c d e")
	for _, c := range []struct {
		a, b int
		want []string
	}{
		{0, -1, l}, {0, 4, l}, {-5, -1, l}, {-5, 4, l}, {0, 5, l}, {-6, -1, l}, {-99, 99, l}, {math.MinInt, math.MaxInt, l}, {math.MinInt, -1, l}, {0, math.MaxInt, l},
		{0, 0, of("a")}, {-5, 0, of("a")}, {-6, 0, of("a")}, {-5, -5, of("a")}, {0, -5, of("a")}, {math.MinInt, 0, of("a")}, {math.MinInt, -5, of("a")},
		{4, 4, of("e")}, {-1, -1, of("e")}, {4, 5, of("e")}, {-1, 4, of("e")}, {4, -1, of("e")}, {-1, 99, of("e")}, {4, math.MaxInt, of("e")}, {-1, math.MaxInt, of("e")},
		{1, 3, of("b c d")}, {1, -2, of("b c d")}, {-4, -2, of("b c d")}, {-4, 3, of("b c d")}, {2, 2, of("c")}, {-3, -3, of("c")}, {-2, -1, of("d e")}, {0, 1, of("a b")}, {0, -4, of("a b")},
		{1, 0, nil}, {3, 1, nil}, {4, 3, nil}, {-1, -2, nil}, {-1, 3, nil}, {4, -2, nil}, {5, 5, nil}, {5, 9, nil}, {5, 0, nil}, {5, -1, nil}, {6, 5, nil},
		{0, -6, nil}, {-6, -6, nil}, {-9, -6, nil}, {-6, -9, nil}, {0, math.MinInt, nil}, {math.MinInt, math.MinInt, nil}, {math.MinInt, -6, nil}, {math.MaxInt, math.MinInt, nil}, {math.MaxInt, math.MaxInt, nil}, {math.MaxInt, -1, nil}, {5, math.MaxInt, nil}, {-1, math.MinInt, nil}, {math.MaxInt, 0, nil},
	} {
		if got := Sub(l, c.a, c.b); !slices.Equal(got, c.want) {
			t.Errorf("8.1: Sub of %q from %d to %d is %q", l, c.a, c.b, got)
		}
	}
	if got := Sub(of("a b a c a"), -2, -1); !slices.Equal(got, of("c a")) {
		t.Errorf("8.1: the chapter's example is %q", got)
	}
}

func TestAt(t *testing.T) {
	l := of("a b c d e")
	for _, c := range []struct {
		i    int
		want string
		ok   bool
	}{
		{0, "a", true}, {1, "b", true}, {2, "c", true}, {3, "d", true}, {4, "e", true},
		{-1, "e", true}, {-2, "d", true}, {-3, "c", true}, {-4, "b", true}, {-5, "a", true},
		{5, "", false}, {6, "", false}, {9, "", false}, {10, "", false}, {-6, "", false}, {-7, "", false}, {-10, "", false}, {-11, "", false},
		{math.MaxInt, "", false}, {math.MaxInt - 1, "", false}, {math.MinInt, "", false}, {math.MinInt + 1, "", false}, {math.MinInt + 5, "", false}, {1 << 32, "", false}, {-1 << 32, "", false},
	} {
		if got, ok := At(l, c.i); got != c.want || ok != c.ok {
			t.Errorf("8.1: At of %d in %q is %q, %v", c.i, l, got, ok)
		}
	}
	if got, ok := At(of("a b a c a"), -2); got != "c" || !ok {
		t.Errorf("8.1: the chapter's example is %q, %v", got, ok)
	}
	if got, ok := At([]string{""}, 0); got != "" || !ok {
		t.Errorf("8.1: the empty element is %q, %v", got, ok)
	}
}

func TestSet(t *testing.T) {
	l := of("a b c d e")
	for _, c := range []struct {
		i    int
		want []string
		ok   bool
	}{
		{0, of("x b c d e"), true}, {1, of("a x c d e"), true}, {2, of("a b x d e"), true}, {3, of("a b c x e"), true}, {4, of("a b c d x"), true},
		{-1, of("a b c d x"), true}, {-2, of("a b c x e"), true}, {-3, of("a b x d e"), true}, {-4, of("a x c d e"), true}, {-5, of("x b c d e"), true},
		{5, nil, false}, {6, nil, false}, {10, nil, false}, {-6, nil, false}, {-7, nil, false}, {-10, nil, false}, {-11, nil, false},
		{math.MaxInt, nil, false}, {math.MaxInt - 1, nil, false}, {math.MinInt, nil, false}, {math.MinInt + 1, nil, false}, {math.MinInt + 5, nil, false}, {1 << 32, nil, false}, {-1 << 32, nil, false},
	} {
		if got, ok := Set(l, c.i, "x"); !slices.Equal(got, c.want) || ok != c.ok {
			t.Errorf("8.1: Set of %d in %q is %q, %v", c.i, l, got, ok)
		}
	}
	for _, v := range []string{"", "a", "b", "\xff\x00", times(301)} {
		if got, ok := Set(of("a b"), 1, v); !slices.Equal(got, []string{"a", v}) || !ok {
			t.Errorf("8.1: Set to %s is %s, %v", short(v), tell(got), ok)
		}
	}
	if got, ok := Set([]string{""}, -1, "x"); !slices.Equal(got, of("x")) || !ok {
		t.Errorf("8.1: Set of the empty element is %q, %v", got, ok)
	}
}

func TestRem(t *testing.T) {
	l := of("a b a c a")
	for _, c := range []struct {
		n    int
		v    string
		want []string
		gone int
	}{
		{0, "a", of("b c"), 3}, {0, "b", of("a a c a"), 1}, {0, "c", of("a b a a"), 1}, {0, "x", l, 0}, {0, "", l, 0}, {0, "A", l, 0}, {0, "aa", l, 0},
		{1, "a", of("b a c a"), 1}, {2, "a", of("b c a"), 2}, {3, "a", of("b c"), 3}, {4, "a", of("b c"), 3}, {9, "a", of("b c"), 3}, {math.MaxInt, "a", of("b c"), 3}, {math.MaxInt - 1, "a", of("b c"), 3}, {1 << 32, "a", of("b c"), 3},
		{-1, "a", of("a b a c"), 1}, {-2, "a", of("a b c"), 2}, {-3, "a", of("b c"), 3}, {-4, "a", of("b c"), 3}, {-9, "a", of("b c"), 3}, {math.MinInt, "a", of("b c"), 3}, {math.MinInt + 1, "a", of("b c"), 3}, {-1 << 32, "a", of("b c"), 3},
		{1, "b", of("a a c a"), 1}, {-1, "b", of("a a c a"), 1}, {2, "b", of("a a c a"), 1}, {-2, "c", of("a b a a"), 1}, {math.MaxInt, "b", of("a a c a"), 1}, {math.MinInt, "c", of("a b a a"), 1},
		{1, "x", l, 0}, {-1, "x", l, 0}, {math.MaxInt, "x", l, 0}, {math.MinInt, "", l, 0},
	} {
		if got, gone := Rem(l, c.n, c.v); !slices.Equal(got, c.want) || gone != c.gone {
			t.Errorf("8.1: Rem of %d %q in %q is %q, %d", c.n, c.v, l, got, gone)
		}
	}
	same := []string{"", "", ""}
	for n, left := range map[int]int{0: 0, 1: 2, 2: 1, 3: 0, 4: 0, -1: 2, -2: 1, -3: 0, -4: 0, math.MaxInt: 0, math.MinInt: 0} {
		if got, gone := Rem(same, n, ""); !slices.Equal(got, same[:left]) || gone != 3-left {
			t.Errorf("8.1: Rem of %d in three empty elements is %q, %d", n, got, gone)
		}
	}
}

func TestNilAndEmpty(t *testing.T) {
	for _, l := range [][]string{nil, {}, counted(3)[:0], counted(3)[3:]} {
		for _, i := range indices(0) {
			checkAt(t, l, i)
			for _, v := range []string{"", "a", "0"} {
				checkRem(t, l, i, v)
			}
			for _, b := range indices(0) {
				checkSub(t, l, i, b)
			}
		}
		checkPush(t, l, true)
		checkPush(t, l, false)
		checkPush(t, l, true, "a", "")
		checkPush(t, l, false, "a", "")
	}
}

// indices are those around both ends of a list of n elements and around the
// bounds of int, where sums with n wrap round.
func indices(n int) []int {
	l := []int{math.MinInt, math.MinInt + 1, math.MinInt + n - 1, math.MinInt + n, math.MinInt + n + 1, math.MaxInt, math.MaxInt - 1, math.MaxInt - n, math.MaxInt - n + 1, 1 << 31, -1 << 31, 1 << 32, -1 << 32}
	for i := -n - 2; i <= n+2; i++ {
		l = append(l, i)
	}
	return l
}

// lists are all there are of three strings, with at most so many elements.
func lists(most int) iter.Seq[[]string] {
	return func(yield func([]string) bool) {
		some := [][]string{nil}
		for len(some) > 0 {
			l := some[0]
			some = some[1:]
			if !yield(l) {
				return
			}
			for _, s := range []string{"", "a", "ab"} {
				if len(l) < most {
					some = append(some, slices.Concat(l, []string{s}))
				}
			}
		}
	}
}

func TestAllShortLists(t *testing.T) {
	for l := range lists(6) {
		for _, i := range indices(len(l)) {
			checkAt(t, l, i)
			for _, v := range []string{"", "a", "ab", "b", "\x00"} {
				checkRem(t, l, i, v)
			}
		}
	}
	for l := range lists(4) {
		for _, a := range indices(len(l)) {
			for _, b := range indices(len(l)) {
				checkSub(t, l, a, b)
			}
		}
		for v := range lists(4) {
			checkPush(t, l, true, v...)
			checkPush(t, l, false, v...)
		}
	}
}

// No bound of an item holds for the calls of this package.
func TestListsOfManyElements(t *testing.T) {
	for _, n := range []int{1, 2, 3, 39, 40, 41, 100} {
		l := counted(n)
		for _, i := range indices(n) {
			checkAt(t, l, i)
			checkRem(t, l, i, "0")
			checkRem(t, l, i, strconv.Itoa(n-1))
			checkRem(t, slices.Repeat([]string{"a"}, n), i, "a")
			checkRem(t, slices.Repeat(of("a b"), n), i, "b")
		}
		for a := -n - 1; a <= n+1; a++ {
			for b := -n - 1; b <= n+1; b++ {
				checkSub(t, l, a, b)
			}
		}
		for _, more := range []int{0, 1, 2, 39, 40, 41, 300} {
			checkPush(t, l, true, counted(more)...)
			checkPush(t, l, false, counted(more)...)
		}
	}
}

func TestVeryManyElements(t *testing.T) {
	const n = 200000
	l := counted(n)
	if got := Push(l, true, l...); len(got) != 2*n || got[0] != l[n-1] || got[n-1] != "0" || got[n] != "0" || got[2*n-1] != l[n-1] {
		t.Errorf("8.1: Push of many to the front is %s", tell(got))
	}
	if got := Push(l, false, l...); !slices.Equal(got, slices.Concat(l, l)) {
		t.Errorf("8.1: Push of many to the end is %s", tell(got))
	}
	if got := Sub(l, 1, -2); !slices.Equal(got, l[1:n-1]) {
		t.Errorf("8.1: Sub of many is %s", tell(got))
	}
	if got, gone := Rem(slices.Repeat([]string{"a"}, n), 1-n, "a"); !slices.Equal(got, of("a")) || gone != n-1 {
		t.Errorf("8.1: Rem of many is %s, %d", tell(got), gone)
	}
}

func TestLongElements(t *testing.T) {
	for _, n := range []int{1, 40, 41, 299, 300, 301, 1000, 1 << 20} {
		l := []string{times(n), times(n) + "a", times(n), times(n-1) + "a", times(n) + "b"}
		for _, v := range []string{times(n - 1), times(n), times(n + 1), times(n) + "a", times(n) + "b", times(n-1) + "a"} {
			for _, most := range []int{0, 1, -1, 2, -2} {
				checkRem(t, l, most, v)
			}
			checkPush(t, l, true, v, v+"c")
			checkPush(t, l, false, v, v+"c")
			if got, ok := Set(l, -2, v); !slices.Equal(got, []string{l[0], l[1], l[2], v, l[4]}) || !ok {
				t.Errorf("8.1: Set to %s is %s, %v", short(v), tell(got), ok)
			}
		}
		for i := range 5 {
			checkAt(t, l, i)
			checkSub(t, l, i, i)
		}
	}
}

// Elements are compared byte by byte, whatever the bytes are.
func TestElementsOfEachByte(t *testing.T) {
	for _, around := range [][2]string{{"", ""}, {"m", ""}, {"", "m"}, {"\xff", "\x00"}, {"\xc3", ""}} {
		var l []string
		for c := range 256 {
			l = append(l, around[0]+string([]byte{byte(c)})+around[1])
		}
		for place, s := range l {
			for _, n := range []int{0, 1, -1, 2, -2} {
				if got, gone := Rem(l, n, s); !slices.Equal(got, slices.Concat(l[:place], l[place+1:])) || gone != 1 {
					t.Errorf("8.1: Rem of %q is %s, %d", s, tell(got), gone)
				}
			}
			if got, ok := At(l, place); got != s || !ok {
				t.Errorf("8.1: At of %q is %q, %v", s, got, ok)
			}
		}
	}
}

// What is pushed to the front stands there in the reverse order (8.2); l follows
// as it was.
func checkReverse(t *testing.T, l, v []string) {
	t.Helper()
	got := Push(l, true, v...)
	if len(got) != len(v)+len(l) {
		t.Errorf("8.2: with %s at the front of %s there are %d elements", tell(v), tell(l), len(got))
		return
	}
	for i, s := range v {
		if got[len(v)-1-i] != s {
			t.Errorf("8.2: element %d of %s isn't in the reverse order: %s", i, tell(v), tell(got))
		}
	}
	for i, s := range l {
		if got[len(v)+i] != s {
			t.Errorf("8.2: behind those pushed to the front of %s stands %s", tell(l), tell(got))
		}
	}
	if back := Push(nil, true, Push(nil, true, v...)...); !slices.Equal(back, v) {
		t.Errorf("8.2: the reverse of the reverse of %s is %s", tell(v), tell(back))
	}
}

func TestPushedToTheFront(t *testing.T) {
	for l := range lists(3) {
		for v := range lists(5) {
			checkReverse(t, l, v)
		}
	}
	for _, n := range []int{0, 1, 2, 3, 40, 41, 300} {
		for _, more := range []int{0, 1, 2, 3, 40, 41, 300} {
			checkReverse(t, counted(n), counted(more))
		}
	}
}

// One Push of many is as many Pushes of one, at either end.
func TestPushOneByOne(t *testing.T) {
	for l := range lists(3) {
		for v := range lists(4) {
			for _, front := range []bool{true, false} {
				got := l
				for _, s := range v {
					got = Push(got, front, s)
				}
				if want := Push(l, front, v...); !slices.Equal(got, want) {
					t.Errorf("8.1: Push of %q to %q, front %v, is %q, one by one %q", v, l, front, want, got)
				}
			}
		}
	}
}

func TestTheSameCallTwice(t *testing.T) {
	for l := range lists(5) {
		for _, i := range indices(len(l)) {
			once, ok := Set(l, i, "new")
			if twice, again := Set(once, i, "new"); ok && (!slices.Equal(twice, once) || !again) {
				t.Errorf("8.1: Set of %d twice in %q is %q, %v", i, l, twice, again)
			}
			if got, is := At(once, i); ok && (got != "new" || !is) {
				t.Errorf("8.1: after Set of %d in %q, At is %q, %v", i, l, got, is)
			}
			if old, is := At(l, i); is {
				if got, _ := Set(once, i, old); !slices.Equal(got, l) {
					t.Errorf("8.1: Set of %d to what stood there in %q is %q", i, l, got)
				}
			}
			for _, v := range []string{"", "a", "b"} {
				first, n := Rem(l, i, v)
				second, more := Rem(first, i, v)
				if both, gone := Rem(l, 2*i, v); i > -1<<31 && i < 1<<31 && (!slices.Equal(second, both) || n+more != gone) {
					t.Errorf("8.1: Rem of %d %q twice in %q is %q, %d, at once %q, %d", i, v, l, second, n+more, both, gone)
				}
			}
		}
		if all, n := Rem(l, 0, "a"); slices.Contains(all, "a") || n != len(l)-len(all) {
			t.Errorf("8.1: Rem of all in %q is %q, %d", l, all, n)
		}
	}
}

// A walk of pushes, sets and removals without order, beside elements with their
// places.
func TestAWalk(t *testing.T) {
	var l, want []string
	n := uint64(7)
	for step := range 20000 {
		n = n*6364136223846793005 + 1442695040888963407
		v := times(int(n >> 40 % 5))
		at := int(n>>33%40) - 20
		switch n >> 50 % 5 {
		case 0:
			l, want = Push(l, true, v), slices.Insert(want, 0, v)
		case 1:
			l, want = Push(l, false, v), append(want, v)
		case 2:
			got, ok := Set(l, at, v)
			has := false
			for place := range want {
				if names(at, place, len(want)) {
					l, want[place], has = got, v, true
				}
			}
			if ok != has {
				t.Fatalf("8.1: after %d steps Set of %d in %s is %v", step, at, tell(want), ok)
			}
		case 3:
			got, gone := Rem(l, at%3, v)
			checkRem(t, l, at%3, v)
			if len(got) != len(l)-gone {
				t.Fatalf("8.1: after %d steps %d are left of %d without %d", step, len(got), len(l), gone)
			}
			l, want = got, slices.Clone(got)
		case 4:
			checkSub(t, l, at, int(n>>20%40)-20)
		}
		if !slices.Equal(l, want) {
			t.Fatalf("8.1: after %d steps the list is %s, want %s", step, tell(l), tell(want))
		}
		if len(l) > 30 {
			l, want = Sub(l, 5, -6), want[5:len(want)-5]
		}
	}
}

// samples are lists for what is to hold of all calls.
func samples() [][]string {
	return [][]string{nil, {}, {""}, of("a"), of("a b"), of("a b a c a"), {"", "a", ""}, slices.Repeat(of("a"), 8), {"", "", ""}, counted(3), counted(8), counted(40), counted(41), {times(301), "a"}}
}

// calls are those that answer a list, with what they are given beside it. Some of
// them answer an equal list.
func calls() map[string]func(l []string) []string {
	return map[string]func(l []string) []string{
		"Push of none to the front": func(l []string) []string { return Push(l, true) },
		"Push of none to the end":   func(l []string) []string { return Push(l, false) },
		"Push to the front":         func(l []string) []string { return Push(l, true, "x", "y") },
		"Push to the end":           func(l []string) []string { return Push(l, false, "x", "y") },
		"Push of itself, front":     func(l []string) []string { return Push(l, true, l...) },
		"Push of itself, end":       func(l []string) []string { return Push(l, false, l...) },
		"Push onto none, front":     func(l []string) []string { return Push(nil, true, l...) },
		"Push onto none, end":       func(l []string) []string { return Push(nil, false, l...) },
		"Sub of all":                func(l []string) []string { return Sub(l, 0, -1) },
		"Sub of the first":          func(l []string) []string { return Sub(l, 0, 0) },
		"Sub of the last":           func(l []string) []string { return Sub(l, -1, -1) },
		"Sub without the ends":      func(l []string) []string { return Sub(l, 1, -2) },
		"Sub of none":               func(l []string) []string { return Sub(l, 2, 1) },
		"Set of the first":          func(l []string) []string { set, _ := Set(l, 0, "new"); return set },
		"Set of the last":           func(l []string) []string { set, _ := Set(l, -1, "new"); return set },
		"Set of none":               func(l []string) []string { set, _ := Set(l, len(l), "new"); return set },
		"Rem of none":               func(l []string) []string { rest, _ := Rem(l, 0, "none"); return rest },
		"Rem of none from the end":  func(l []string) []string { rest, _ := Rem(l, -1, "none"); return rest },
		"Rem of the first":          func(l []string) []string { rest, _ := Rem(l, 1, "a"); return rest },
		"Rem of the last":           func(l []string) []string { rest, _ := Rem(l, -1, "a"); return rest },
		"Rem of all":                func(l []string) []string { rest, _ := Rem(l, 0, ""); return rest },
	}
}

// roomy is an equal list with spare capacity behind it, and all of its memory.
func roomy(l []string) (same, all []string) {
	all = append(slices.Clone(l), "spare", "spare", "spare")
	return all[:len(l)], all
}

// spoil writes into all that can be written into, the spare capacity too.
func spoil(l []string) {
	l = l[:cap(l)]
	for i := range l {
		l[i] = "spoiled"
	}
}

func TestListsAreNewMemory(t *testing.T) {
	for _, sample := range samples() {
		for what, call := range calls() {
			l, all := roomy(sample)
			before := slices.Clone(all)
			want := call(slices.Clone(sample))
			first, second := call(l), call(l)
			ofFirst := call(first)
			wantOfFirst := slices.Clone(ofFirst)
			if !slices.Equal(all, before) {
				t.Errorf("R3: %s writes into %s", what, tell(sample))
			}
			spoil(first)
			if more := append(first, "more"); len(more) != len(want)+1 {
				t.Errorf("R3: what %s answers can't be added to", what)
			}
			if !slices.Equal(all, before) {
				t.Errorf("R3: writing into what %s answers changes %s", what, tell(sample))
			}
			if !slices.Equal(second, want) || !slices.Equal(ofFirst, wantOfFirst) || !slices.Equal(call(l), want) {
				t.Errorf("R3: writing into what %s in %s answers changes other answers", what, tell(sample))
			}
			spoil(all)
			if !slices.Equal(second, want) {
				t.Errorf("R3: writing into %s changes what %s answered", tell(sample), what)
			}
		}
	}
}

// What is pushed is memory of its own, too, also where nothing else is there.
func TestPushedElementsStayAsTheyAre(t *testing.T) {
	for _, l := range samples() {
		for _, sample := range samples() {
			for _, front := range []bool{true, false} {
				v, all := roomy(sample)
				before := slices.Clone(all)
				want := Push(l, front, slices.Clone(sample)...)
				first, second := Push(l, front, v...), Push(l, front, v...)
				spoil(first)
				if !slices.Equal(all, before) {
					t.Errorf("R3: writing into an answer of Push, front %v, changes %s", front, tell(sample))
				}
				spoil(all)
				if !slices.Equal(second, want) {
					t.Errorf("R3: writing into %s changes what Push, front %v, answered", tell(sample), front)
				}
			}
		}
	}
}

// lent is a string of bytes that the test may write into once the call is over,
// as nothing of it is to be kept.
func lent(s string, lentAll *[][]byte) string {
	b := append(make([]byte, 0, len(s)+1), s...)
	*lentAll = append(*lentAll, b)
	return unsafe.String(unsafe.SliceData(b), len(b))
}

func lentList(l []string, all *[][]byte) []string {
	var same []string
	for _, s := range l {
		same = append(same, lent(s, all))
	}
	return same
}

func spoilBytes(all [][]byte) {
	for _, b := range all {
		for i := range b {
			b[i] = '?'
		}
	}
}

// The bytes of strings are memory, too.
func TestStringsAreNewMemory(t *testing.T) {
	for _, sample := range samples() {
		for what, call := range calls() {
			want := call(sample)
			var all [][]byte
			l := lentList(sample, &all)
			got := call(l)
			if !slices.Equal(l, sample) {
				t.Errorf("R3: %s writes into the strings of %s", what, tell(sample))
			}
			spoilBytes(all)
			if !slices.Equal(got, want) {
				t.Errorf("R3: %s in %s answers memory of the list", what, tell(sample))
			}
		}
		for i := -len(sample); i < len(sample); i++ {
			want, _ := At(sample, i)
			var all [][]byte
			got, ok := At(lentList(sample, &all), i)
			set, _ := Set(sample, i, lent("new", &all))
			spoilBytes(all)
			if got != want || !ok {
				t.Errorf("R3: At of %d in %s answers memory of the list", i, tell(sample))
			}
			if s, _ := At(set, i); s != "new" {
				t.Errorf("R3: Set of %d in %s keeps the string that it was given", i, tell(sample))
			}
		}
		for _, front := range []bool{true, false} {
			var all [][]byte
			got, want := Push(of("a b"), front, lentList(sample, &all)...), Push(of("a b"), front, sample...)
			spoilBytes(all)
			if !slices.Equal(got, want) {
				t.Errorf("R3: Push of %s, front %v, keeps the strings that it was given", tell(sample), front)
			}
		}
	}
}

func TestArgumentsStayAsTheyAre(t *testing.T) {
	for _, sample := range samples() {
		l, all := roomy(sample)
		before := slices.Clone(all)
		for _, i := range indices(len(l)) {
			for _, v := range []string{"", "a", "0", times(301)} {
				at, is := At(l, i)
				set, ok := Set(l, i, v)
				rest, gone := Rem(l, i, v)
				sub, front, end := Sub(l, i, -i), Push(l, true, v, at), Push(l, false, v, at)
				for range 2 {
					againAt, againIs := At(l, i)
					againSet, againOk := Set(l, i, v)
					againRest, againGone := Rem(l, i, v)
					if againAt != at || againIs != is || !slices.Equal(againSet, set) || againOk != ok || !slices.Equal(againRest, rest) || againGone != gone || !slices.Equal(Sub(l, i, -i), sub) || !slices.Equal(Push(l, true, v, at), front) || !slices.Equal(Push(l, false, v, at), end) {
						t.Errorf("R1: the answers to %d, %s in %s differ", i, short(v), tell(sample))
					}
				}
			}
		}
		if !slices.Equal(all, before) {
			t.Errorf("R3: a call changes %s", tell(sample))
		}
	}
}

// passed are the first elements that an iterator comes by, at most so many, each
// held against its index.
func passed(t *testing.T, l []string, all iter.Seq2[int, string], most int) []string {
	t.Helper()
	var some []string
	if most == 0 {
		return some
	}
	for i, s := range all {
		if l[i] != s {
			t.Errorf("index %d comes with %q instead of %q", i, s, l[i])
		}
		some = append(some, s)
		if len(some) == most {
			break
		}
	}
	return some
}

// An iterator may be left at any element, and gone through again.
func TestIteratorsAreLeft(t *testing.T) {
	check := func(what string, l []string, all iter.Seq2[int, string], want []string) {
		for most := range len(want) + 2 {
			for range 2 {
				if got := passed(t, l, all, most); !slices.Equal(got, want[:min(most, len(want))]) {
					t.Errorf("the first %d elements %s are %q, want of %q", most, what, got, want)
				}
			}
		}
	}
	for _, l := range [][]string{nil, of("a"), of("a b"), of("a b c d")} {
		reverse := slices.Clone(l)
		slices.Reverse(reverse)
		check("from the front", l, walk(l, false), l)
		check("from the end", l, walk(l, true), reverse)
		check("without none", l, without(l, make([]bool, len(l))), l)
		for i := range l {
			gone := make([]bool, len(l))
			gone[i] = true
			check("without "+l[i], l, without(l, gone), slices.Concat(l[:i], l[i+1:]))
		}
	}
	check("without two", of("a b c d"), without(of("a b c d"), []bool{true, false, true, false}), of("b d"))
}
