package spans

import (
	"math"
	"math/rand/v2"
	"regexp"
	"slices"
	"strconv"
	"strings"
	"testing"

	"caravan/api"
)

// set is the slots themselves, one by one: what a list denotes by the chapter's words.
type set [api.Slots]bool

func denoted(l []api.Span) *set {
	var s set
	for _, span := range l {
		for n := max(span.From, 0); n < len(s) && n <= span.To; n++ {
			s[n] = true
		}
	}
	return &s
}

// list is the valid list of a set.
func (s *set) list() []api.Span {
	var l []api.Span
	for n, in := range s {
		switch {
		case in && n > 0 && s[n-1]:
			l[len(l)-1].To = n
		case in:
			l = append(l, api.Span{From: n, To: n})
		}
	}
	return l
}

func (s *set) count() int {
	n := 0
	for _, in := range s {
		if in {
			n++
		}
	}
	return n
}

// with is the set of the slots that pick takes, told whether s and other have each.
func (s *set) with(other *set, pick func(a, b bool) bool) *set {
	var out set
	for n := range out {
		out[n] = pick(s[n], other[n])
	}
	return &out
}

func union(a, b bool) bool { return a || b }
func minus(a, b bool) bool { return a && !b }
func both(a, b bool) bool  { return a && b }

func of(n ...int) []api.Span {
	var l []api.Span
	for i := 0; i+1 < len(n); i += 2 {
		l = append(l, api.Span{From: n[i], To: n[i+1]})
	}
	return l
}

// written is the text of the spans as they stand, joined or not.
func written(l []api.Span) string {
	var parts []string
	for _, s := range l {
		parts = append(parts, "("+strconv.Itoa(s.From)+" "+strconv.Itoa(s.To)+")")
	}
	return strings.Join(parts, " ")
}

// numbers are those at which something changes: beyond the slots on both sides, the first ones, the last ones.
func numbers() []int {
	return []int{math.MinInt, -1, 0, 1, 2, 3, 4, 5, api.Slots - 2, api.Slots - 1, api.Slots, math.MaxInt}
}

// singles are all spans from one of the numbers to another one, also those of which From is greater.
func singles() []api.Span {
	var all []api.Span
	for _, from := range numbers() {
		for _, to := range numbers() {
			all = append(all, api.Span{From: from, To: to})
		}
	}
	return all
}

// lists are some of any kind: none of them has to be valid.
func lists(seed uint64, n int) [][]api.Span {
	r := rand.New(rand.NewPCG(seed, 2))
	all := [][]api.Span{nil, {}, of(0, 0), of(api.Slots-1, api.Slots-1), of(0, api.Slots-1), of(math.MinInt, math.MaxInt), of(5, 4)}
	for len(all) < n {
		var l []api.Span
		wide := []int{12, 100, api.Slots}[r.IntN(3)]
		for range r.IntN(12) {
			from := r.IntN(wide+wide/4) - wide/8
			l = append(l, api.Span{From: from, To: from + r.IntN(wide/4) - 2})
		}
		if r.IntN(3) == 0 && len(l) > 0 {
			l[r.IntN(len(l))].To = numbers()[r.IntN(len(numbers()))]
		}
		all = append(all, l)
	}
	return all
}

func TestMay(t *testing.T) {
	for _, c := range []struct {
		name string
		l    []api.Span
		want bool
	}{
		{"nil", nil, true},
		{"no spans", []api.Span{}, true},
		{"slot 0", of(0, 0), true},
		{"the last slot", of(16383, 16383), true},
		{"all slots", of(0, 16383), true},
		{"one slot between", of(0, 5, 7, 7), true},
		{"single slots", of(0, 0, 2, 2, 4, 4), true},
		{"both ends", of(0, 0, 16383, 16383), true},
		{"below 0", of(-1, 5), false},
		{"wholly below 0", of(-5, -1), false},
		{"beyond the last slot", of(0, 16384), false},
		{"wholly beyond the last slot", of(16384, 16384), false},
		{"everything", of(math.MinInt, math.MaxInt), false},
		{"from greater than to", of(3, 2), false},
		{"from greater than to behind a span", of(0, 1, 9, 8), false},
		{"from far greater than to", of(math.MaxInt, math.MinInt), false},
		{"spans that touch", of(0, 5, 6, 7), false},
		{"spans that overlap", of(0, 5, 5, 7), false},
		{"a span within another", of(0, 9, 2, 3), false},
		{"a span twice", of(4, 4, 4, 4), false},
		{"spans that fall", of(7, 7, 0, 5), false},
		{"the third touches", of(0, 1, 3, 4, 5, 6), false},
		{"the third falls", of(0, 1, 9, 9, 4, 5), false},
		{"the first is beyond", of(-1, 0, 2, 2), false},
		{"the greatest number ahead", of(0, math.MaxInt, 2, 2), false},
		{"the last is beyond", of(0, 0, 2, 16384), false},
	} {
		if ok := May(c.l); ok != c.want {
			t.Errorf("2.1: May of %s, %s, is %v", c.name, written(c.l), ok)
		}
	}
}

func TestNormOfKnownLists(t *testing.T) {
	for _, c := range []struct {
		name string
		l    []api.Span
		want []api.Span
	}{
		{"nil", nil, nil},
		{"no spans", []api.Span{}, nil},
		{"a valid list", of(0, 5, 7, 7), of(0, 5, 7, 7)},
		{"spans that touch", of(0, 5, 6, 7), of(0, 7)},
		{"spans that touch and fall", of(6, 7, 0, 5), of(0, 7)},
		{"spans that overlap", of(0, 5, 3, 7), of(0, 7)},
		{"spans that overlap and fall", of(3, 7, 0, 5), of(0, 7)},
		{"one slot between", of(7, 7, 0, 5), of(0, 5, 7, 7)},
		{"a span within another", of(0, 9, 2, 3), of(0, 9)},
		{"a span within another, then one that touches the outer", of(0, 9, 2, 3, 10, 11), of(0, 11)},
		{"a span within another, then one beside it", of(0, 9, 2, 3, 4, 5), of(0, 9)},
		{"a span twice", of(4, 4, 4, 4), of(4, 4)},
		{"one begin and two ends", of(4, 5, 4, 9, 4, 4), of(4, 9)},
		{"a bridge", of(1, 2, 8, 9, 2, 8), of(1, 9)},
		{"from greater than to", of(3, 2), nil},
		{"from greater than to between others", of(0, 1, 9, 2, 5, 6), of(0, 1, 5, 6)},
		{"below 0", of(-9, 3), of(0, 3)},
		{"wholly below 0", of(-9, -1), nil},
		{"beyond the last slot", of(16383, 16384), of(16383, 16383)},
		{"wholly beyond the last slot", of(16384, 99999), nil},
		{"touching from without", of(-9, -1, 0, 0, 16383, 16383, 16384, 16390), of(0, 0, 16383, 16383)},
		{"everything", of(math.MinInt, math.MaxInt), of(0, 16383)},
		{"everything the wrong way", of(math.MaxInt, math.MinInt), nil},
		{"the greatest number alone", of(math.MaxInt, math.MaxInt, math.MinInt, math.MinInt), nil},
	} {
		got := Norm(c.l)
		if !slices.Equal(got, c.want) {
			t.Errorf("2.1: Norm of %s, %s, is %s, want %s", c.name, written(c.l), written(got), written(c.want))
		}
	}
}

// checkOne holds all that is said of one list against the slots themselves.
func checkOne(t *testing.T, l []api.Span) {
	t.Helper()
	s := denoted(l)
	want := s.list()
	before := slices.Clone(l)
	got := Norm(l)
	if !slices.Equal(got, want) {
		t.Fatalf("2.1: Norm of %s is %s, want %s", written(l), written(got), written(want))
	}
	if !May(got) {
		t.Fatalf("2.1: Norm of %s, %s, isn't valid", written(l), written(got))
	}
	if ok := May(l); ok != slices.Equal(l, want) {
		t.Fatalf("2.1: May of %s is %v", written(l), ok)
	}
	if n := Count(l); n != s.count() {
		t.Fatalf("2.1: Count of %s is %d, want %d", written(l), n, s.count())
	}
	if !slices.Equal(l, before) {
		t.Fatalf("R3: %s has become %s", written(before), written(l))
	}
}

func TestOneListIsThatOfTheWords(t *testing.T) {
	all := singles()
	for _, a := range all {
		checkOne(t, []api.Span{a})
		for _, b := range all {
			checkOne(t, []api.Span{a, b})
		}
	}
	for _, l := range lists(1, 3000) {
		checkOne(t, l)
	}
}

func TestHas(t *testing.T) {
	l := of(-9, 5, 7, 7, 16000, 20000, 12, 11)
	for _, c := range []struct {
		n    int
		want bool
	}{
		{math.MinInt, false}, {-9, false}, {-1, false}, {0, true}, {5, true}, {6, false}, {7, true}, {8, false},
		{11, false}, {12, false}, {15999, false}, {16000, true}, {16383, true}, {16384, false}, {20000, false}, {math.MaxInt, false},
	} {
		if ok := Has(l, c.n); ok != c.want {
			t.Errorf("2.1: Has of %s and %d is %v", written(l), c.n, ok)
		}
		if Has(nil, c.n) {
			t.Errorf("2.1: Has of no spans and %d", c.n)
		}
		if ok := Has(of(math.MinInt, math.MaxInt), c.n); ok != (c.n >= 0 && c.n < 16384) {
			t.Errorf("2.1: Has of everything and %d is %v", c.n, ok)
		}
	}
	if Has(of(7, 7), 8) || !Has(of(7, 7), 7) {
		t.Error("2.1: Has of 7 to 7")
	}
}

func TestHasIsThatOfTheWords(t *testing.T) {
	for _, l := range lists(2, 200) {
		for n, in := range denoted(l) {
			if Has(l, n) != in {
				t.Fatalf("2.1: Has of %s and %d is %v", written(l), n, !in)
			}
		}
		for _, n := range numbers() {
			if Has(l, n) && (n < 0 || n >= api.Slots) {
				t.Fatalf("2.1: Has of %s and %d, no slot", written(l), n)
			}
		}
	}
}

func TestCount(t *testing.T) {
	for _, c := range []struct {
		l    []api.Span
		want int
	}{
		{nil, 0}, {of(0, 5, 7, 7), 7}, {of(0, 5, 6, 7), 8}, {of(0, 5, 3, 7), 8}, {of(4, 4, 4, 4), 1}, {of(3, 2), 0},
		{of(0, 16383), 16384}, {of(math.MinInt, math.MaxInt), 16384}, {of(-5, -1, 16384, 99999), 0}, {of(-5, 0, 16383, 99999), 2},
	} {
		if n := Count(c.l); n != c.want {
			t.Errorf("2.1: Count of %s is %d, want %d", written(c.l), n, c.want)
		}
	}
}

func TestTwoKnownLists(t *testing.T) {
	for _, c := range []struct {
		name               string
		a, b               []api.Span
		union, minus, both []api.Span
	}{
		{"nothing", nil, nil, nil, nil, nil},
		{"nothing second", of(0, 9), nil, of(0, 9), of(0, 9), nil},
		{"nothing first", nil, of(0, 9), of(0, 9), nil, of()},
		{"a part of it", of(0, 9), of(3, 5), of(0, 9), of(0, 2, 6, 9), of(3, 5)},
		{"more than it", of(3, 5), of(0, 9), of(0, 9), nil, of(3, 5)},
		{"its begin", of(3, 9), of(3, 5), of(3, 9), of(6, 9), of(3, 5)},
		{"its end", of(3, 9), of(7, 9), of(3, 9), of(3, 6), of(7, 9)},
		{"the same", of(5, 5), of(5, 5), of(5, 5), nil, of(5, 5)},
		{"touching", of(0, 4), of(5, 9), of(0, 9), of(0, 4), nil},
		{"touching ahead", of(5, 9), of(0, 4), of(0, 9), of(5, 9), nil},
		{"one slot between", of(0, 4), of(6, 9), of(0, 4, 6, 9), of(0, 4), nil},
		{"overlapping", of(0, 5), of(4, 9), of(0, 9), of(0, 3), of(4, 5)},
		{"a bridge", of(0, 4, 8, 9), of(4, 8), of(0, 9), of(0, 3, 9, 9), of(4, 4, 8, 8)},
		{"in turn", of(0, 0, 2, 2, 4, 4), of(1, 1, 3, 3), of(0, 4), of(0, 0, 2, 2, 4, 4), nil},
		{"the ends of all", of(0, 16383), of(0, 0, 16383, 16383), of(0, 16383), of(1, 16382), of(0, 0, 16383, 16383)},
		{"both of no order", of(9, 9, 1, 3), of(2, 9, 0, 0), of(0, 9), of(1, 1), of(2, 3, 9, 9)},
		{"beyond the slots", of(-3, 2), of(1, 99999), of(0, 16383), of(0, 0), of(1, 2)},
		{"beyond the slots alone", of(-3, -1), of(16384, 99999), nil, nil, nil},
		{"from greater than to", of(5, 4), of(2, 1), nil, nil, nil},
		{"everything", of(math.MinInt, math.MaxInt), of(math.MaxInt, math.MinInt, 7, 7), of(0, 16383), of(0, 6, 8, 16383), of(7, 7)},
		{"parts that join", of(1, 2, 3, 4), of(2, 2, 3, 3), of(1, 4), of(1, 1, 4, 4), of(2, 3)},
	} {
		if got := Union(c.a, c.b); !slices.Equal(got, c.union) {
			t.Errorf("2.1: Union of %s is %s, want %s", c.name, written(got), written(c.union))
		}
		if got := Minus(c.a, c.b); !slices.Equal(got, c.minus) {
			t.Errorf("2.1: Minus of %s is %s, want %s", c.name, written(got), written(c.minus))
		}
		if got := Both(c.a, c.b); !slices.Equal(got, c.both) {
			t.Errorf("2.1: Both of %s is %s, want %s", c.name, written(got), written(c.both))
		}
	}
}

// checkTwo holds all that is said of two lists against the slots themselves.
func checkTwo(t *testing.T, a, b []api.Span) {
	t.Helper()
	beforeA, beforeB := slices.Clone(a), slices.Clone(b)
	inA, inB := denoted(a), denoted(b)
	for _, c := range []struct {
		name string
		got  []api.Span
		pick func(a, b bool) bool
	}{
		{"Union", Union(a, b), union},
		{"Minus", Minus(a, b), minus},
		{"Both", Both(a, b), both},
	} {
		want := inA.with(inB, c.pick).list()
		if !slices.Equal(c.got, want) || !May(c.got) {
			t.Fatalf("2.1: %s of %s and %s is %s, want %s", c.name, written(a), written(b), written(c.got), written(want))
		}
	}
	if !slices.Equal(a, beforeA) || !slices.Equal(b, beforeB) {
		t.Fatalf("R3: %s and %s have become %s and %s", written(beforeA), written(beforeB), written(a), written(b))
	}
}

func TestTwoListsAreThoseOfTheWords(t *testing.T) {
	all := singles()
	for i, a := range all {
		for j, b := range all {
			if (i+j)%5 == 0 {
				checkTwo(t, []api.Span{a}, []api.Span{b})
			}
		}
	}
	as, bs := lists(3, 1200), lists(4, 1200)
	slices.Reverse(bs)
	for i := range as {
		checkTwo(t, as[i], bs[i])
		checkTwo(t, as[i], as[i])
	}
}

// mask is the list of the slots whose bits are set, a span each.
func mask(bits, first int) []api.Span {
	var l []api.Span
	for i := 0; bits>>i > 0; i++ {
		if bits>>i&1 == 1 {
			l = append(l, api.Span{From: first + i, To: first + i})
		}
	}
	return l
}

func TestTwoListsOfAFewSlots(t *testing.T) {
	const wide = 6
	for _, first := range []int{0, 63, api.Slots - wide} {
		for a := range 1 << wide {
			for b := range 1 << wide {
				x, y := mask(a, first), mask(b, first)
				u, m, o := Union(x, y), Minus(x, y), Both(x, y)
				if !slices.Equal(u, Norm(mask(a|b, first))) || !slices.Equal(m, Norm(mask(a&^b, first))) || !slices.Equal(o, Norm(mask(a&b, first))) {
					t.Fatalf("2.1: of %s and %s: %s; %s; %s", written(x), written(y), written(u), written(m), written(o))
				}
			}
		}
	}
}

func TestTextOfKnownLists(t *testing.T) {
	for _, c := range []struct {
		l    []api.Span
		want string
	}{
		{nil, ""}, {[]api.Span{}, ""}, {of(3, 2), ""}, {of(-5, -1, 16384, 99999), ""},
		{of(0, 0), "0"}, {of(16383, 16383), "16383"}, {of(0, 1), "0-1"}, {of(0, 16383), "0-16383"}, {of(math.MinInt, math.MaxInt), "0-16383"},
		{of(0, 5, 7, 7), "0-5,7"}, {of(7, 7, 0, 5), "0-5,7"}, {of(0, 5, 6, 7), "0-7"}, {of(4, 4, 4, 4), "4"}, {of(-9, 0, 16383, 16384), "0,16383"},
		{of(1, 2, 4, 5, 9, 9, 11, 100), "1-2,4-5,9,11-100"},
	} {
		if s := Text(c.l); s != c.want {
			t.Errorf("2.2: Text of %s is %q, want %q", written(c.l), s, c.want)
		}
	}
}

func TestTextIsThatOfTheWords(t *testing.T) {
	for _, l := range lists(5, 3000) {
		var parts []string
		for _, s := range denoted(l).list() {
			part := strconv.Itoa(s.From)
			if s.To != s.From {
				part += "-" + strconv.Itoa(s.To)
			}
			parts = append(parts, part)
		}
		if s, want := Text(l), strings.Join(parts, ","); s != want {
			t.Fatalf("2.2: Text of %s is %q, want %q", written(l), s, want)
		}
	}
}

func TestReadOfTexts(t *testing.T) {
	for _, c := range []struct {
		s    string
		want []api.Span
	}{
		{"", nil}, {"0", of(0, 0)}, {"9", of(9, 9)}, {"16383", of(16383, 16383)}, {"0-16383", of(0, 16383)}, {"0-1", of(0, 1)}, {"16382-16383", of(16382, 16383)},
		{"0-5,7", of(0, 5, 7, 7)}, {"0,2,4", of(0, 0, 2, 2, 4, 4)}, {"1-2,4-5,9", of(1, 2, 4, 5, 9, 9)}, {"0,16383", of(0, 0, 16383, 16383)}, {"9-10,99-100", of(9, 10, 99, 100)},
	} {
		if l, ok := Read(c.s); !ok || !slices.Equal(l, c.want) {
			t.Errorf("2.2: Read of %q is %s, %v, want %s", c.s, written(l), ok, written(c.want))
		}
	}
}

func TestReadOfOtherTexts(t *testing.T) {
	for _, s := range []string{
		// A nought ahead, or a number that is no slot.
		"00", "01", "007", "0-01", "01-2", "00-1", "1,02", "0,016383", "16384", "0-16384", "16384-16385", "99999", "100000", "1,16384",
		"99999999999999999999", "0-99999999999999999999", "18446744073709551616", "18446744073709551617", "9223372036854775808", strings.Repeat("9", 100000), strings.Repeat("0", 100000), "4294967296", "65536",
		// Spans that don't rise, or that touch.
		"5-5", "0-0", "3-1", "16383-0", "0-1,2", "0,1", "0-1,2-3", "5,3", "5,5", "0-5,5", "0-5,3-9", "0-9,2-3", "9,0-5", "0,2,3", "0,2,1", "0,2,2", "16382,16383",
		// A comma where none may be.
		",", ",,", "0,", ",0", "0,,2", "0-5,,7", "0-5,7,", ",0-5", "0,-5",
		// A minus where none may be.
		"-", "--", "-0", "-1", "1-", "-1-2", "1--2", "1-2-", "1-2-3", "0-5,-7", "0-5-,7", "0-,5", "0,-", "--1",
		// Other bytes.
		" ", "a", " 1", "1 ", "1, 3", "1 ,3", "1 - 2", "+1", "1-+2", "1.0", "1e3", "0x1", "1_0", "0-5;7", "1\n", "\x00", "1\x00", "\xff", "０", "١", "1–2", "/", ":", "1/", "1:",
	} {
		if l, ok := Read(s); ok || len(l) != 0 {
			t.Errorf("2.2: Read of %.40q is %s, %v", s, written(l), ok)
		}
	}
}

// listOf reads a text by a pattern, and makes sure by the text of what it read.
func listOf(pattern *regexp.Regexp, s string) ([]api.Span, bool) {
	if s == "" {
		return nil, true
	}
	var l []api.Span
	for _, part := range strings.Split(s, ",") {
		m := pattern.FindStringSubmatch(part)
		if m == nil {
			return nil, false
		}
		from, _ := strconv.Atoi(m[1])
		to := from
		if m[3] != "" {
			to, _ = strconv.Atoi(m[3])
		}
		l = append(l, api.Span{From: from, To: to})
	}
	if !May(l) || Text(l) != s {
		return nil, false
	}
	return l, true
}

// texts gives all texts over some bytes up to a length.
func texts(letters string, most int) []string {
	all := []string{""}
	begin := 0
	for range most {
		end := len(all)
		for _, s := range all[begin:end] {
			for _, c := range letters {
				all = append(all, s+string(c))
			}
		}
		begin = end
	}
	return all
}

func TestReadIsThatOfTheWords(t *testing.T) {
	pattern := regexp.MustCompile(`^([0-9]{1,6})(-([0-9]{1,6}))?$`)
	for _, s := range slices.Concat(texts("0123-,", 7), texts("1683-,", 7), texts("09+ -", 5)) {
		want, may := listOf(pattern, s)
		if l, ok := Read(s); ok != may || !slices.Equal(l, want) {
			t.Fatalf("2.2: Read of %q is %s, %v, want %s, %v", s, written(l), ok, written(want), may)
		}
	}
}

func TestReadOfText(t *testing.T) {
	for _, l := range lists(6, 3000) {
		s := Text(l)
		got, ok := Read(s)
		if !ok || !slices.Equal(got, Norm(l)) || Text(got) != s {
			t.Fatalf("2.2: Read of %q is %s, %v", s, written(got), ok)
		}
	}
	for n := range api.Slots {
		if l, ok := Read(strconv.Itoa(n)); !ok || !slices.Equal(l, of(n, n)) {
			t.Fatalf("2.2: Read of %d is %s, %v", n, written(l), ok)
		}
	}
}

func TestTheOrderOfTheArguments(t *testing.T) {
	as, bs := lists(7, 3000), lists(8, 3000)
	slices.Reverse(bs)
	for i, a := range as {
		b := bs[i]
		if x, y := Union(a, b), Union(b, a); !slices.Equal(x, y) {
			t.Fatalf("2.3: Union of %s and %s is %s, the other way %s", written(a), written(b), written(x), written(y))
		}
		if x, y := Both(a, b), Both(b, a); !slices.Equal(x, y) {
			t.Fatalf("2.3: Both of %s and %s is %s, the other way %s", written(a), written(b), written(x), written(y))
		}
	}
}

func TestMinusAndBothTogether(t *testing.T) {
	as, bs := lists(9, 3000), lists(10, 3000)
	slices.Reverse(bs)
	for i, a := range as {
		b := bs[i]
		m, o := Minus(a, b), Both(a, b)
		if !slices.Equal(Norm(slices.Concat(m, o)), Norm(a)) || !slices.Equal(Union(o, m), Norm(a)) {
			t.Fatalf("2.3: of %s and %s, Minus is %s and Both %s", written(a), written(b), written(m), written(o))
		}
		if Count(m)+Count(o) != Count(a) || len(Both(m, o)) != 0 {
			t.Fatalf("2.3: of %s and %s, Minus is %s and Both %s, which share slots", written(a), written(b), written(m), written(o))
		}
	}
}

func TestLongLists(t *testing.T) {
	var even, odd, down []api.Span
	for n := 0; n < api.Slots; n += 2 {
		even = append(even, api.Span{From: n, To: n})
		odd = append(odd, api.Span{From: n + 1, To: n + 1})
	}
	if !May(even) || !May(odd) || Count(even) != api.Slots/2 || !slices.Equal(Norm(odd), odd) {
		t.Error("2.1: every other slot")
	}
	if u := Union(even, odd); !slices.Equal(u, of(0, 16383)) {
		t.Errorf("2.1: Union of every other slot and the others has %d spans", len(u))
	}
	if !slices.Equal(Minus(even, odd), even) || len(Both(even, odd)) != 0 || !slices.Equal(Minus(of(0, 16383), even), odd) {
		t.Error("2.1: every other slot without the others")
	}
	if l, ok := Read(Text(odd)); !ok || !slices.Equal(l, odd) {
		t.Error("2.2: Read of the text of every other slot")
	}
	for n := 200000; n > -200000; n-- {
		down = append(down, api.Span{From: n, To: n + n%7})
	}
	checkOne(t, down)
	checkTwo(t, down, odd)
	if _, ok := Read(strings.Repeat("0,", 1<<20)); ok {
		t.Error("2.2: Read of a slot again and again")
	}
}

// spoil writes over a list and into its spare capacity.
func spoil(l []api.Span) {
	l = l[:cap(l)]
	for i := range l {
		l[i] = api.Span{From: -7, To: -7}
	}
}

func TestAnswersAreNewMemory(t *testing.T) {
	a, b := make([]api.Span, 0, 9), make([]api.Span, 0, 9)
	a, b = append(a, of(0, 5, 9, 9)...), append(b, of(4, 7, 11, 12)...)
	for name, call := range map[string]func() []api.Span{
		"Norm":             func() []api.Span { return Norm(a) },
		"Union":            func() []api.Span { return Union(a, b) },
		"Union of nothing": func() []api.Span { return Union(a, nil) },
		"Minus":            func() []api.Span { return Minus(a, b) },
		"Minus of nothing": func() []api.Span { return Minus(a, nil) },
		"Both":             func() []api.Span { return Both(a, b) },
		"Both of the same": func() []api.Span { return Both(a, a) },
		"Read":             func() []api.Span { l, _ := Read("0-5,9"); return l },
	} {
		first, second := call(), call()
		want := slices.Clone(second)
		spoil(first)
		if !slices.Equal(second, want) || !slices.Equal(call(), want) {
			t.Errorf("R3: an answer of %s shares memory with another one", name)
		}
		if !slices.Equal(a, of(0, 5, 9, 9)) || !slices.Equal(b, of(4, 7, 11, 12)) || a[:9][2] != (api.Span{}) || b[:9][2] != (api.Span{}) {
			t.Fatalf("R3: %s shares memory with its arguments: %s and %s", name, written(a[:9]), written(b[:9]))
		}
	}
}

func TestIteratorsAreLeft(t *testing.T) {
	for range runs(of(0, 1, 3, 4, 6, 7)) {
		break
	}
	met := 0
	for run := range runs(of(6, 7, 0, 1, 3, 4)) {
		met++
		if run.From == 3 {
			break
		}
	}
	for piece := range pieces(of(0, 1), of(1, 2)) {
		met++
		if piece.From == 1 {
			break
		}
	}
	if met != 4 {
		t.Errorf("2.1: %d steps ahead of the one that was to be the last", met)
	}
}
