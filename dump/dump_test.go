package dump

import (
	"math"
	"slices"
	"strconv"
	"strings"
	"testing"
	"unsafe"

	"caravan/api"
)

func txt(s string) api.Item { return api.Item{Kind: api.KText, S: s} }

func hash(f ...api.Field) api.Item { return api.Item{Kind: api.KHash, F: f} }

func list(l ...string) api.Item { return api.Item{Kind: api.KList, L: l} }

func set(l ...string) api.Item { return api.Item{Kind: api.KSet, L: l} }

// fields are made of their Names and Vals in turn.
func fields(l ...string) []api.Field {
	var f []api.Field
	for pair := range slices.Chunk(l, 2) {
		f = append(f, api.Field{Name: pair[0], Val: pair[1]})
	}
	return f
}

// ending is the item with that end of life.
func ending(i api.Item, exp int) api.Item {
	i.Exp = exp
	return i
}

func times(n int) string { return strings.Repeat("x", n) }

// rising are so many texts, each greater than the one before it.
func rising(n int) []string {
	var l []string
	for i := range n {
		l = append(l, "m"+strconv.Itoa(10000+i))
	}
	return l
}

// long are so many texts of MaxVal bytes, each greater than the one before it.
func long(n int) []string {
	l := rising(n)
	for i, s := range l {
		l[i] = s + times(300-len(s))
	}
	return l
}

// named are fields with those Names.
func named(names []string) []api.Field {
	var f []api.Field
	for i, name := range names {
		f = append(f, api.Field{Name: name, Val: strconv.Itoa(i)})
	}
	return f
}

// bytesInOrder is all 256 bytes, each as a text.
func bytesInOrder() []string {
	var l []string
	for c := range 256 {
		l = append(l, string([]byte{byte(c)}))
	}
	return l
}

// with is the list with that string at an index.
func with(l []string, at int, s string) []string {
	l = slices.Clone(l)
	l[at] = s
	return l
}

// short is a string as a test tells it.
func short(s string) string {
	if len(s) > 60 {
		return strconv.Quote(s[:60]) + ".. of " + strconv.Itoa(len(s))
	}
	return strconv.Quote(s)
}

// tell is an item as a test tells it.
func tell(i api.Item) string {
	s := "kind " + strconv.Itoa(i.Kind) + ", exp " + strconv.Itoa(i.Exp) + ", S " + short(i.S)
	for _, f := range i.F[:min(len(i.F), 4)] {
		s += ", field " + short(f.Name) + "=" + short(f.Val)
	}
	for _, e := range i.L[:min(len(i.L), 4)] {
		s += ", element " + short(e)
	}
	return s + " (" + strconv.Itoa(len(i.F)) + " fields, " + strconv.Itoa(len(i.L)) + " elements)"
}

// equal is whether two items are, nil and empty being the same.
func equal(a, b api.Item) bool {
	return a.Kind == b.Kind && a.S == b.S && a.Exp == b.Exp && slices.Equal(a.F, b.F) && slices.Equal(a.L, b.L)
}

// nothing is whether the item is the zero item.
func nothing(i api.Item) bool {
	return i.Kind == 0 && i.S == "" && len(i.F) == 0 && len(i.L) == 0 && i.Exp == 0
}

// crc is 1.1 by the register, a bit at a time.
func crc(s string) uint16 {
	var register uint16
	for i := range len(s) {
		for bit := 7; bit >= 0; bit-- {
			in := uint16(s[i]>>bit&1) ^ register>>15
			register = register<<1 ^ in*0x1021
		}
	}
	return register
}

// sealed is the string with its check behind it.
func sealed(s string) string {
	n := crc(s)
	return s + string([]byte{byte(n >> 8), byte(n)})
}

// encoded is the words as 3.2 has them.
func encoded(words ...string) string {
	var b strings.Builder
	b.WriteString("*" + strconv.Itoa(len(words)) + "\r\n")
	for _, w := range words {
		b.WriteString("$" + strconv.Itoa(len(w)) + "\r\n" + w + "\r\n")
	}
	return b.String()
}

// wordsOf is the words of a valid item by 10.1.
func wordsOf(i api.Item) []string {
	l := []string{strconv.Itoa(i.Kind), strconv.Itoa(i.Exp)}
	switch i.Kind {
	case api.KText:
		return append(l, i.S)
	case api.KHash:
		for _, f := range i.F {
			l = append(l, f.Name, f.Val)
		}
		return l
	}
	return append(l, i.L...)
}

// decimal is whether a word is a number from least to most as it is written in
// decimal, and which.
func decimal(word string, least, most int) (int, bool) {
	n, err := strconv.Atoi(word)
	if err != nil || n < least || n > most || strconv.Itoa(n) != word {
		return 0, false
	}
	return n, true
}

func ascend(l []string) bool {
	for i := 1; i < len(l); i++ {
		if l[i-1] >= l[i] {
			return false
		}
	}
	return true
}

// itemOf is the valid item that has those words, by 5.1 and 10.1.
func itemOf(words []string) (api.Item, bool) {
	if len(words) < 3 {
		return api.Item{}, false
	}
	kind, isKind := decimal(words[0], 1, 4)
	exp, isExp := decimal(words[1], 0, 1<<53)
	rest := slices.Clone(words[2:])
	tooLong := slices.ContainsFunc(rest, func(s string) bool { return len(s) > 300 })
	if !isKind || !isExp || tooLong {
		return api.Item{}, false
	}
	i := api.Item{Kind: kind, Exp: exp}
	switch kind {
	case 1:
		i.S = rest[0]
		return i, len(rest) == 1
	case 2:
		var names []string
		for n := 0; n < len(rest); n += 2 {
			names = append(names, rest[n])
		}
		if len(rest)%2 != 0 || len(rest) > 80 || !ascend(names) {
			return api.Item{}, false
		}
		i.F = fields(rest...)
		return i, true
	}
	i.L = rest
	return i, len(rest) <= 40 && (kind == 3 || ascend(rest))
}

// checkPut holds Put of a valid item, and Get of that, against the words.
func checkPut(t *testing.T, i api.Item) {
	t.Helper()
	want := sealed(encoded(wordsOf(i)...))
	s := Put(i)
	if s != want {
		t.Errorf("10.1: Put is %s, want %s: %s", short(s), short(want), tell(i))
	}
	if got, ok := Get(want); !ok || !equal(got, i) {
		t.Errorf("10.2: Get of a Put is %v, %s, want %s", ok, tell(got), tell(i))
	}
}

func checkNoPut(t *testing.T, i api.Item, why string) {
	t.Helper()
	if s := Put(i); s != "" {
		t.Errorf("10.1: Put is %s, want none: %s: %s", short(s), why, tell(i))
	}
	// Its words, as far as its Kind has them, may be those of another item.
	checkWords(t, wordsOf(i)...)
}

// checkNone holds that there is no item whose Put that string is.
func checkNone(t *testing.T, s string, why string) {
	t.Helper()
	if i, ok := Get(s); ok || !nothing(i) {
		t.Errorf("10.1: Get is %v, %s: %s: %s", ok, tell(i), why, short(s))
	}
}

// checkWords holds Get of words with a right check against what 5.1 says of them.
func checkWords(t *testing.T, words ...string) {
	t.Helper()
	s := sealed(encoded(words...))
	want, has := itemOf(words)
	if !has {
		checkNone(t, s, "words of no item")
		return
	}
	if i, ok := Get(s); !ok || !equal(i, want) {
		t.Errorf("10.1: Get is %v, %s, want %s", ok, tell(i), tell(want))
	}
	if got := Put(want); got != s {
		t.Errorf("10.1: Put is %s, want %s", short(got), short(s))
	}
}

// written are items with their Puts, written out.
func written() map[string]api.Item {
	return map[string]api.Item{
		"*3\r\n$1\r\n1\r\n$1\r\n0\r\n$0\r\n\r\n\xc8\x87":                                                             txt(""),
		"*3\r\n$1\r\n1\r\n$1\r\n0\r\n$3\r\nabc\r\n\x9e\xe7":                                                          txt("abc"),
		"*3\r\n$1\r\n1\r\n$1\r\n5\r\n$3\r\nx y\r\n;6":                                                                ending(txt("x y"), 5),
		"*3\r\n$1\r\n1\r\n$16\r\n9007199254740992\r\n$4\r\n\r\n\x00\xff\r\n\x1ck":                                    ending(txt("\r\n\x00\xff"), 1<<53),
		"*4\r\n$1\r\n2\r\n$1\r\n0\r\n$1\r\na\r\n$1\r\n1\r\n\x04\x1c":                                                 hash(fields("a", "1")...),
		"*8\r\n$1\r\n2\r\n$1\r\n7\r\n$0\r\n\r\n$0\r\n\r\n$1\r\na\r\n$0\r\n\r\n$1\r\nb\r\n$1\r\n2\r\n\x18\x04":        ending(hash(fields("", "", "a", "", "b", "2")...), 7),
		"*5\r\n$1\r\n3\r\n$1\r\n0\r\n$1\r\nb\r\n$1\r\na\r\n$1\r\nb\r\n\xc3i":                                         list("b", "a", "b"),
		"*3\r\n$1\r\n3\r\n$2\r\n12\r\n$0\r\n\r\nt\x81":                                                               ending(list(""), 12),
		"*4\r\n$1\r\n4\r\n$1\r\n0\r\n$1\r\na\r\n$1\r\nb\r\n\xb1\x88":                                                 set("a", "b"),
		"*4\r\n$1\r\n4\r\n$1\r\n1\r\n$0\r\n\r\n$1\r\n\xff\r\n\x1b\x1e":                                               ending(set("", "\xff"), 1),
		"*42\r\n$1\r\n3\r\n$1\r\n0\r\n" + strings.Repeat("$300\r\n"+times(300)+"\r\n", 40) + sealOf(manyOfLongest()): manyOfLongest(),
	}
}

// manyOfLongest is a list of MaxElems elements of MaxVal bytes.
func manyOfLongest() api.Item { return list(slices.Repeat([]string{times(300)}, 40)...) }

// sealOf is the check of an item's words.
func sealOf(i api.Item) string {
	s := encoded(wordsOf(i)...)
	return sealed(s)[len(s):]
}

func TestWrittenOut(t *testing.T) {
	for s, i := range written() {
		if got := Put(i); got != s {
			t.Errorf("10.1: Put is %s, want %s", short(got), short(s))
		}
		if got, ok := Get(s); !ok || !equal(got, i) {
			t.Errorf("10.1: Get of %s is %v, %s", short(s), ok, tell(got))
		}
	}
	if crc("123456789") != 0x31c3 {
		t.Error("the tests' own check isn't that of 1.1")
	}
}

// valids are valid items of each Kind.
func valids() []api.Item {
	all := strings.Join(bytesInOrder(), "")
	l := []api.Item{
		txt(""), txt("a"), txt("0"), txt("1"), txt("-1"), txt("a b\r\n\x00\xff"), txt("\r\n"), txt("\r"), txt("\n"), txt(all), txt(times(299)), txt(times(300)), txt(strings.Repeat("\xff", 300)), txt(strings.Repeat("é", 150)), txt(times(9)), txt(times(10)), txt(times(99)), txt(times(100)),
		txt("*3\r\n$1\r\n1\r\n$1\r\n0\r\n$0\r\n\r\n\xc8\x87"), txt("$1\r\n1\r\n"),
		hash(fields("a", "1")...), hash(fields("", "")...), hash(fields("", "", "a", "")...), hash(fields("a", "1", "b", "1", "c", "0")...), hash(fields("a", "z", "b", "y")...), hash(fields("A", "", "a", "", "a\x00", "", "aa", "")...), hash(fields("\r\n", "\r\n")...), hash(fields("\x7f", "", "\x80", "", "\xff", all)...), hash(fields(all, all)...), hash(fields(times(300), times(300))...), hash(fields("10", "9", "9", "10")...),
		list("a"), list(""), list("", ""), list("b", "a", "b", "b"), list(all, all), list("", "\r\n", "$-1", "*0"), list(times(300), times(300)), list(slices.Repeat([]string{"a"}, 40)...), list(make([]string, 40)...), manyOfLongest(),
		set("a"), set(""), set("", "a"), set("a", "b", "c"), set("10", "9"), set(all), set(times(299), times(300)), set("\x00", "\x7f", "\x80", "\xff"), set(long(40)...),
	}
	for _, n := range []int{1, 2, 3, 7, 8, 9, 10, 39, 40} {
		l = append(l, hash(named(rising(n))...), list(rising(n)...), set(rising(n)...))
	}
	var longest []api.Field
	for _, name := range long(40) {
		longest = append(longest, api.Field{Name: name, Val: times(300)})
	}
	return append(l, hash(longest...))
}

func TestValidItems(t *testing.T) {
	for _, i := range valids() {
		for _, exp := range []int{0, 1, 9, 10, 99, 100, 1 << 31, 1 << 32, 1<<53 - 1, 1 << 53} {
			checkPut(t, ending(i, exp))
		}
	}
}

// All 256 bytes, at each place where an item has a string.
func TestEachByte(t *testing.T) {
	for _, s := range bytesInOrder() {
		for _, one := range []string{s, "a" + s, s + "a", s + s} {
			for _, i := range []api.Item{txt(one), list(one), list("", one, ""), set(one), hash(fields(one, "")...), hash(fields("", one)...)} {
				checkPut(t, i)
			}
		}
	}
	all := bytesInOrder()
	for from := 0; from+40 <= 256; from += 24 {
		checkPut(t, set(all[from:from+40]...))
		checkPut(t, list(all[from:from+40]...))
		checkPut(t, hash(named(all[from:from+40])...))
	}
}

func TestEachLength(t *testing.T) {
	for n := range 301 {
		s := times(n)
		for _, i := range []api.Item{txt(s), list(s, s), set(s), hash(fields(s, s)...)} {
			checkPut(t, i)
		}
	}
}

// withS, withF and withL are an item with one part set.
func withS(i api.Item, s string) api.Item {
	i.S = s
	return i
}

func withF(i api.Item, f []api.Field) api.Item {
	i.F = f
	return i
}

func withL(i api.Item, l []string) api.Item {
	i.L = l
	return i
}

func withKind(i api.Item, kind int) api.Item {
	i.Kind = kind
	return i
}

// farKinds are Kinds that there are not.
func farKinds() []int {
	return []int{0, -1, -2, -3, -4, 5, 6, 9, 10, 1 << 8, 1<<8 + 1, 1<<16 + 2, 1<<32 + 1, 1<<32 + 3, math.MinInt, math.MinInt + 1, math.MaxInt}
}

// farExps are ends of life that no item may have.
func farExps() []int {
	return []int{-1, -2, -1 << 53, math.MinInt32, math.MinInt, 1<<53 + 1, 1<<53 + 2, 1 << 54, 1 << 62, math.MaxInt}
}

func TestZeroItem(t *testing.T) {
	if s := Put(api.Item{}); s != "" {
		t.Errorf("10.1: Put of the zero item is %q", s)
	}
	checkNone(t, "", "the empty string is no item's Put, not even that of the zero item")
	checkWords(t, "0", "0")
	checkWords(t, "0", "0", "")
}

func TestOtherKinds(t *testing.T) {
	for _, kind := range farKinds() {
		checkNoPut(t, api.Item{Kind: kind}, "a Kind that there is not")
		for _, i := range valids() {
			checkNoPut(t, withKind(i, kind), "a Kind that there is not")
		}
	}
}

func TestOtherExps(t *testing.T) {
	for _, i := range valids() {
		for _, exp := range farExps() {
			checkNoPut(t, ending(i, exp), "an Exp that may not be")
		}
	}
}

func TestPartsOfOtherKinds(t *testing.T) {
	for _, i := range valids() {
		for _, s := range []string{"a", "\x00", times(300)} {
			if i.Kind != api.KText {
				checkNoPut(t, withS(i, s), "an S beside a KText")
			}
		}
		for _, f := range [][]api.Field{{{}}, fields("a", "1"), named(rising(40))} {
			if i.Kind != api.KHash {
				checkNoPut(t, withF(i, f), "an F beside a KHash")
			}
		}
		for _, l := range [][]string{{""}, {"a"}, rising(40)} {
			if i.Kind == api.KText || i.Kind == api.KHash {
				checkNoPut(t, withL(i, l), "an L beside a KList or a KSet")
			}
		}
	}
}

// A list that is empty and not nil is none.
func TestNilAndEmpty(t *testing.T) {
	for _, i := range valids() {
		want := Put(i)
		if len(i.F) == 0 && Put(withF(i, named(rising(3))[:0])) != want || len(i.L) == 0 && Put(withL(i, rising(3)[:0])) != want {
			t.Errorf("R3: Put tells nil from empty: %s", tell(i))
		}
	}
	for _, kind := range []int{api.KHash, api.KList, api.KSet} {
		checkNoPut(t, api.Item{Kind: kind}, "no elements")
		checkNoPut(t, api.Item{Kind: kind, F: []api.Field{}, L: []string{}}, "no elements")
	}
}

func TestCounts(t *testing.T) {
	for _, n := range []int{0, 41, 42, 80, 81, 82, 256, 257, 1<<16 - 2, 1<<16 - 1, 1 << 16} {
		checkNoPut(t, hash(named(rising(n))...), "too few or too many fields")
		checkNoPut(t, list(rising(n)...), "too few or too many elements")
		checkNoPut(t, set(rising(n)...), "too few or too many elements")
	}
	for n := 1; n <= 40; n++ {
		checkPut(t, hash(named(rising(n))...))
		checkPut(t, list(rising(n)...))
		checkPut(t, list(make([]string, n)...))
		checkPut(t, set(rising(n)...))
	}
}

func TestLongStrings(t *testing.T) {
	for _, s := range []string{times(301), strings.Repeat("é", 151), strings.Repeat("\xff", 301), times(556), times(1 << 16), times(1 << 20), times(1<<20 + 1)} {
		checkNoPut(t, txt(s), "a string too long")
		for _, n := range []int{1, 2, 3, 40} {
			l := rising(n)
			for _, at := range []int{0, n / 2, n - 1} {
				name := l[at] + s
				checkNoPut(t, list(with(l, at, s)...), "an element too long")
				checkNoPut(t, set(with(l, at, name)...), "an element too long")
				checkNoPut(t, hash(named(with(l, at, name))...), "a Name too long")
				f := named(l)
				f[at].Val = s
				checkNoPut(t, hash(f...), "a Val too long")
			}
		}
	}
}

func TestOrder(t *testing.T) {
	for _, pair := range [][2]string{
		{"", "a"}, {"", "\x00"}, {"a", "aa"}, {"a", "a\x00"}, {"ab", "b"}, {"A", "a"}, {"Z", "a"}, {"10", "9"}, {"-1", "-2"}, {"z", "é"}, {"\x7f", "\x80"}, {"\x00", "\xff"}, {"\uffff", "\U00010000"}, {times(299), times(300)},
	} {
		a, b := pair[0], pair[1]
		checkPut(t, set(a, b))
		checkPut(t, hash(fields(a, "2", b, "1")...))
		checkPut(t, list(b, a))
		checkPut(t, list(a, a))
		for _, l := range [][]string{{b, a}, {a, a}, {b, b}, {a, b, b}, {a, a, b}, {a, b, a}} {
			checkNoPut(t, set(l...), "elements that don't ascend")
			checkNoPut(t, hash(named(l)...), "Names that don't ascend")
		}
	}
	for _, n := range []int{2, 3, 39, 40} {
		l := rising(n)
		for at := range n - 1 {
			for _, bad := range [][]string{with(l, at+1, l[at]), with(with(l, at+1, l[at]), at, l[at+1]), with(l, at, "~")} {
				checkNoPut(t, set(bad...), "elements that don't ascend")
				checkNoPut(t, hash(named(bad)...), "Names that don't ascend")
				checkPut(t, list(bad...))
			}
		}
	}
}

// numbers are texts of numbers, and some that are none.
func numbers() []string {
	return []string{
		"", "0", "1", "2", "3", "4", "5", "6", "9", "10", "11", "99", "00", "01", "02", "03", "04", "001", "-0", "-1", "-2", "-", "--1", "+", "+0", "+1", "+2", "+3", "+4",
		" ", " 1", "1 ", "1\x00", "\x001", "1\n", "1\r", "\t1", "1.0", "1.", ".1", "1e0", "0x1", "0b1", "0o1", "1_0", "x", "x1", "1x", "one", "KText", "string", "\xff", "١", "1", "NaN",
		"256", "257", "65537", "4294967295", "4294967296", "4294967297", "4294967298", "4294967299", "4294967300",
		"9007199254740991", "9007199254740992", "9007199254740993", "9007199254740994", "09007199254740992", "9223372036854775807", "9223372036854775808", "-9223372036854775808", "-9223372036854775809",
		"18446744073709551615", "18446744073709551616", "18446744073709551617", "18446744073709551618", "18446744073709551619", "18446744073709551620", "36893488147419103233", times(300), strings.Repeat("0", 300) + "1", strings.Repeat("9", 1000),
	}
}

// A Kind or an Exp that isn't written as Put writes it.
func TestNumbers(t *testing.T) {
	for _, kind := range numbers() {
		for _, rest := range [][]string{{}, {"a"}, {"a", "b"}} {
			checkWords(t, append([]string{kind, "0"}, rest...)...)
			checkWords(t, append([]string{kind, "9007199254740992"}, rest...)...)
		}
	}
	for _, exp := range numbers() {
		for _, kind := range []string{"0", "1", "2", "3", "4", "5"} {
			checkWords(t, kind, exp)
			checkWords(t, kind, exp, "a")
			checkWords(t, kind, exp, "a", "b")
		}
	}
}

// rows goes through all rows of so many of the words.
func rows(of []string, count int, yield func(row []string)) {
	row := make([]string, count)
	var fill func(at int)
	fill = func(at int) {
		if at == count {
			yield(row)
			return
		}
		for _, w := range of {
			row[at] = w
			fill(at + 1)
		}
	}
	fill(0)
}

func TestAllRowsOfSomeWords(t *testing.T) {
	for count := range 6 {
		rows([]string{"", "0", "1", "2", "3", "4", "5", "-1", "01", "a"}, count, func(row []string) { checkWords(t, row...) })
	}
	for _, kind := range []string{"1", "2", "3", "4"} {
		for count := range 7 {
			rows([]string{"", "a", "b", "\xff"}, count, func(row []string) { checkWords(t, append([]string{kind, "0"}, row...)...) })
		}
	}
}

// Words of each number there may be, and beyond.
func TestEachNumberOfWords(t *testing.T) {
	for _, kind := range []string{"0", "1", "2", "3", "4", "5"} {
		for n := range 130 {
			checkWords(t, append([]string{kind, "0"}, rising(n)...)...)
			checkWords(t, append([]string{kind, "0"}, make([]string, n)...)...)
		}
		for _, n := range []int{1<<16 - 3, 1<<16 - 2, 1<<16 - 1} {
			checkWords(t, append([]string{kind, "0"}, rising(n)...)...)
		}
	}
}

// others are strings with a right check that aren't resp.Words of anything, or not
// that and the check alone.
func others() []string {
	return []string{
		"", "+1\r\n", "-1\r\n", ":1\r\n", "$-1\r\n", "$1\r\n1\r\n", "$0\r\n\r\n", "*0\r\n", "*-1\r\n", "a", "\r\n", "1 0 a", "*", "*3", "*3\r\n", "*3\r\n$1\r\n1\r\n$1\r\n0\r\n",
		"*3\r\n:1\r\n:0\r\n$1\r\na\r\n", "*3\r\n$1\r\n1\r\n:0\r\n$1\r\na\r\n", "*3\r\n:1\r\n$1\r\n0\r\n$1\r\na\r\n", "*3\r\n$1\r\n1\r\n$1\r\n0\r\n:7\r\n",
		"*3\r\n+1\r\n+0\r\n+a\r\n", "*3\r\n$1\r\n1\r\n$1\r\n0\r\n+a\r\n", "*3\r\n$1\r\n1\r\n$1\r\n0\r\n-a\r\n", "*3\r\n$1\r\n1\r\n+0\r\n$1\r\na\r\n", "*3\r\n-1\r\n$1\r\n0\r\n$1\r\na\r\n",
		"*3\r\n$1\r\n1\r\n$1\r\n0\r\n$-1\r\n", "*3\r\n$1\r\n3\r\n$1\r\n0\r\n$-1\r\n", "*3\r\n$-1\r\n$-1\r\n$-1\r\n", "*3\r\n$1\r\n1\r\n$1\r\n0\r\n*0\r\n", "*3\r\n$1\r\n3\r\n$1\r\n0\r\n*1\r\n$1\r\na\r\n", "*3\r\n$1\r\n4\r\n$1\r\n0\r\n*0\r\n", "*4\r\n$1\r\n2\r\n$1\r\n0\r\n$1\r\na\r\n$-1\r\n", "*4\r\n$1\r\n2\r\n$1\r\n0\r\n$-1\r\n$1\r\na\r\n",
		"*1\r\n*3\r\n$1\r\n1\r\n$1\r\n0\r\n$1\r\na\r\n", "*1\r\n$15\r\n$1\r\n1\r\n$1\r\n0\r\n\r\n", strings.Repeat("*1\r\n", 8) + "$-1\r\n", strings.Repeat("*1\r\n", 9) + "$-1\r\n",
		"*03\r\n$1\r\n1\r\n$1\r\n0\r\n$1\r\na\r\n", "*+3\r\n$1\r\n1\r\n$1\r\n0\r\n$1\r\na\r\n", "*3\r\n$01\r\n1\r\n$1\r\n0\r\n$1\r\na\r\n", "*3\r\n$1\r\n1\r\n$1\r\n0\r\n$+1\r\na\r\n", "*3\n$1\n1\n$1\n0\n$1\na\n", "*3\r\n$1\r\n1\r\n$1\r\n0\r\n$1\r\na\n", "*3\r\n$1\r\n1\r\n$1\r\n0\r\n$1\r\na\r", "*3\r\n$1\r\n1\r\n$1\r\n0\r\n$1\r\na", "*3\r\n$1\r\n1\r\n$1\r\n0\r\n$2\r\na\r\n", "*3\r\n$1\r\n1\r\n$1\r\n0\r\n$0\r\na\r\n",
		"*2\r\n$1\r\n1\r\n$1\r\n0\r\n$1\r\na\r\n", "*4\r\n$1\r\n1\r\n$1\r\n0\r\n$1\r\na\r\n", "%3\r\n$1\r\n1\r\n$1\r\n0\r\n$1\r\na\r\n", "$1\r\n1\r\n$1\r\n0\r\n$1\r\na\r\n", "1 0 a\r\n", "*99999999999999999999\r\n", "*65536\r\n", "*2\r\n$1048576\r\n", "$1048576\r\n", "*9223372036854775807\r\n",
	}
}

func TestRightChecksOfNoWords(t *testing.T) {
	for _, s := range others() {
		checkNone(t, sealed(s), "no words")
		checkNone(t, s, "no words, and no check")
	}
	for _, i := range valids() {
		b := encoded(wordsOf(i)...)
		for _, more := range []string{"\x00", "\x00\x00", "x", "\r\n", "$1\r\na\r\n", b} {
			checkNone(t, sealed(b+more), "words and more behind them, with a check of both")
			checkNone(t, sealed(more+b), "words and more ahead of them, with a check of both")
		}
		checkNone(t, sealed(b[:len(b)-1]), "words less their last byte")
		checkNone(t, sealed(b[:len(b)-2]), "words less their last line end")
		checkNone(t, sealed(b[1:]), "words less their first byte")
		checkNone(t, sealed(""), "the check of nothing")
	}
}

func TestOtherChecks(t *testing.T) {
	for _, i := range valids() {
		b := encoded(wordsOf(i)...)
		n := crc(b)
		high, low := byte(n>>8), byte(n)
		for _, check := range [][]byte{{}, {high}, {low}, {^high, ^low}, {high, ^low}, {^high, low}, {high, low, 0}, {high, low, 0, 0}, {0, high, low}, {high, low, high, low}, []byte(strconv.Itoa(int(n))), {high + 1, low}, {high, low + 1}, {high - 1, low}, {high, low - 1}} {
			checkNone(t, b+string(check), "another check")
		}
		if high != low {
			checkNone(t, b+string([]byte{low, high}), "the check from behind")
		}
		// A check that is begun with ones is another one.
		begun := crc("\xff\xff\x00\x00"+b) ^ n
		if begun != 0 {
			checkNone(t, b+string([]byte{byte((n ^ begun) >> 8), byte(n ^ begun)}), "a check of more")
		}
	}
}

// All checks there are: one of them alone is right.
func TestAllChecks(t *testing.T) {
	for _, i := range []api.Item{txt(""), hash(fields("a", "1")...), set("a", "b")} {
		b := encoded(wordsOf(i)...)
		for n := range 1 << 16 {
			s := b + string([]byte{byte(n >> 8), byte(n)})
			got, ok := Get(s)
			if right := n == int(crc(b)); ok != right || right && !equal(got, i) || !right && !nothing(got) {
				t.Errorf("10.1: with the check %#x, Get is %v, %s", n, ok, tell(got))
			}
		}
	}
}

func TestShortStrings(t *testing.T) {
	checkNone(t, "", "no bytes")
	for a := range 256 {
		checkNone(t, string([]byte{byte(a)}), "one byte")
		for b := range 256 {
			checkNone(t, string([]byte{byte(a), byte(b)}), "two bytes")
		}
	}
	rows([]string{"*", "$", "+", "0", "1", "-", "\r", "\n", "\x00"}, 5, func(row []string) {
		s := strings.Join(row, "")
		checkNone(t, s, "few bytes")
		checkNone(t, sealed(s), "few bytes with their check")
	})
}

func TestBeginningsAndEnds(t *testing.T) {
	for _, i := range valids() {
		s := Put(i)
		step := 1 + len(s)/2000
		for n := 0; n < len(s); n += step {
			checkNone(t, s[:n], "a beginning of a Put")
			if n > 0 {
				checkNone(t, s[n:], "an end of a Put")
			}
		}
		for n := max(len(s)-30, 0); n < len(s); n++ {
			checkNone(t, s[:n], "a beginning of a Put")
		}
	}
}

func TestBytesBeforeAndBehind(t *testing.T) {
	puts := []string{Put(txt("a")), Put(hash(fields("a", "1")...)), Put(list("a"))}
	for _, i := range valids() {
		s := Put(i)
		for _, c := range bytesInOrder() {
			checkNone(t, s+c, "a Put and a byte behind it")
			checkNone(t, c+s, "a Put and a byte before it")
		}
		for _, more := range slices.Concat(puts, []string{s, "\r\n", "\x00\x00", "\x00\x00\x00", s[len(s)-2:], s[:len(s)-2]}) {
			checkNone(t, s+more, "a Put and more behind it")
			checkNone(t, more+s, "a Put and more before it")
		}
		// The zero bytes ahead leave the check as it is; behind it, they are that of all.
		if crc("\x00"+s[:len(s)-2]) != crc(s[:len(s)-2]) || crc(s) != 0 {
			t.Errorf("the check of %s isn't blind to zeros", short(s))
		}
	}
}

// few are items for tests that try much of each.
func few() []api.Item {
	return []api.Item{
		txt(""), txt("a"), ending(txt("x y\r\n"), 1<<53), txt(times(20)), hash(fields("", "")...), ending(hash(fields("a", "1", "b", "2")...), 10), list("b", "a", "b"), list(make([]string, 10)...), ending(list(rising(9)...), 99), set("a"), set("", "a", "\xff"), ending(set("1", "2", "3"), 1),
	}
}

// Each byte of a Put is changed to each other one.
func TestOneByteChanged(t *testing.T) {
	for _, i := range few() {
		s := []byte(Put(i))
		for at, was := range s {
			for c := range 256 {
				if byte(c) == was {
					continue
				}
				s[at] = byte(c)
				checkNone(t, string(s), "a Put with byte "+strconv.Itoa(at)+" changed")
			}
			s[at] = was
		}
		if got, ok := Get(string(s)); !ok || !equal(got, i) {
			t.Errorf("10.2: Get of a Put that is whole again is %v, %s", ok, tell(got))
		}
	}
}

func TestOneByteOfALongPutChanged(t *testing.T) {
	for n, i := range valids() {
		s := []byte(Put(i))
		for at := n % 7; at < len(s); at += 1 + len(s)/100 {
			was := s[at]
			for _, turn := range []byte{1, 3, 0x10, 0x20, 0x80, 0xff} {
				s[at] = was ^ turn
				checkNone(t, string(s), "a long Put with byte "+strconv.Itoa(at)+" changed")
			}
			s[at] = was
		}
	}
}

// A byte is changed and the check with it: what there is then is told by its words
// alone.
func TestOneByteChangedWithItsCheck(t *testing.T) {
	for _, i := range few() {
		b := []byte(encoded(wordsOf(i)...))
		for at, was := range b {
			for c := range 256 {
				b[at] = byte(c)
				s := sealed(string(b))
				got, ok := Get(s)
				if ok && (Put(got) != s || encoded(wordsOf(got)...) != string(b)) || !ok && !nothing(got) {
					t.Errorf("10.1: Get of %s is %v, %s", short(s), ok, tell(got))
				}
				if ok != isEncoding(string(b)) {
					t.Errorf("10.1: Get of %s is %v", short(s), ok)
				}
			}
			b[at] = was
		}
	}
}

// isEncoding is whether the bytes are the words of a valid item.
func isEncoding(s string) bool {
	head, rest, found := strings.Cut(s, "\r\n")
	if !found || !strings.HasPrefix(head, "*") {
		return false
	}
	count, isCount := decimal(head[1:], 0, 100)
	if !isCount {
		return false
	}
	var l []string
	for range count {
		head, behind, found := strings.Cut(rest, "\r\n")
		if !found || !strings.HasPrefix(head, "$") {
			return false
		}
		n, isLength := decimal(head[1:], 0, 1000)
		if !isLength || len(behind) < n+2 || behind[n:n+2] != "\r\n" {
			return false
		}
		l, rest = append(l, behind[:n]), behind[n+2:]
	}
	_, has := itemOf(l)
	return has && rest == ""
}

// Two items that differ have Puts that differ.
func TestNoTwoItemsHaveOnePut(t *testing.T) {
	seen := map[string]api.Item{}
	for _, i := range append(valids(), few()...) {
		for _, exp := range []int{0, 1, 10, 1 << 53} {
			j := ending(i, exp)
			s := Put(j)
			if other, has := seen[s]; has && !equal(other, j) {
				t.Errorf("10.2: one Put of two items: %s and %s", tell(other), tell(j))
			}
			seen[s] = j
		}
	}
}

// A walk through items of all sorts, valid and not.
func TestAWalk(t *testing.T) {
	n := uint64(11)
	next := func(below int) int {
		n = n*6364136223846793005 + 1442695040888963407
		return int(n>>33) % below
	}
	word := func() string {
		var b []byte
		for range next(6) {
			b = append(b, byte(next(256)))
		}
		return string(b)
	}
	valid := 0
	for range 20000 {
		l := []string{strconv.Itoa(next(6)), strconv.Itoa(next(3) * next(1<<30))}
		for range next(8) {
			l = append(l, word())
		}
		if next(2) == 0 && l[0] == "4" {
			slices.Sort(l[2:])
		}
		if _, has := itemOf(l); has {
			valid++
		}
		checkWords(t, l...)
	}
	if valid < 1000 {
		t.Errorf("of the items on the walk %d are valid", valid)
	}
}

// copied is an equal item made anew, whose lists have spare capacity.
func copied(i api.Item) api.Item {
	c := api.Item{Kind: i.Kind, S: strings.Clone(i.S), Exp: i.Exp}
	c.F = append(make([]api.Field, 0, len(i.F)+3), i.F...)
	c.L = append(make([]string, 0, len(i.L)+3), i.L...)
	spare := c.F[len(i.F):cap(c.F)]
	for n := range spare {
		spare[n].Name = "spare"
	}
	rest := c.L[len(i.L):cap(c.L)]
	for n := range rest {
		rest[n] = "spare"
	}
	return c
}

func invalids() []api.Item {
	return []api.Item{{}, {Kind: 5}, {Kind: -1, Exp: -1}, txt(times(301)), hash(), list(), set(), set("b", "a"), hash(fields("b", "1", "a", "2")...), ending(txt("a"), -1), ending(txt("a"), 1<<53+1), withL(txt("a"), []string{"a"}), withF(list("a"), fields("a", "1")), withS(set("a"), "a"), list(make([]string, 41)...)}
}

func TestArgumentsStayAsTheyAre(t *testing.T) {
	for _, i := range append(valids(), invalids()...) {
		j := copied(i)
		f, l := j.F[:cap(j.F)], j.L[:cap(j.L)]
		wasF, wasL := slices.Clone(f), slices.Clone(l)
		first := Put(j)
		for range 3 {
			if s := Put(j); s != first {
				t.Errorf("R1: Put twice is %s and %s", short(first), short(s))
			}
		}
		if !equal(j, i) || !slices.Equal(f, wasF) || !slices.Equal(l, wasL) {
			t.Errorf("R3: Put changes its item: %s", tell(i))
		}
	}
}

func TestTheSameGetTwice(t *testing.T) {
	for _, i := range valids() {
		s := Put(i)
		for range 3 {
			if got, ok := Get(s); !ok || !equal(got, i) {
				t.Errorf("R1: Get again is %v, %s, want %s", ok, tell(got), tell(i))
			}
			checkNone(t, s+"x", "between two Gets")
		}
		got, _ := Get(s)
		if again := Put(got); again != s {
			t.Errorf("10.1: Put of what Get answers is %s, want %s", short(again), short(s))
		}
	}
}

// spoil writes into all of an item that can be written into, the spare capacity
// too.
func spoil(i *api.Item) {
	f := append(i.F, api.Field{Name: "more", Val: "more"})
	for n := range f[:cap(f)] {
		f[:cap(f)][n] = api.Field{Name: "spoiled", Val: "spoiled"}
	}
	for n := range i.F[:cap(i.F)] {
		i.F[:cap(i.F)][n] = api.Field{Name: "spoiled", Val: "spoiled"}
	}
	l := append(i.L, "more")
	for n := range l[:cap(l)] {
		l[:cap(l)][n] = "spoiled"
	}
	for n := range i.L[:cap(i.L)] {
		i.L[:cap(i.L)][n] = "spoiled"
	}
	i.Kind, i.S, i.Exp = -7, "spoiled", -7
}

func TestWritingIntoWhatGetAnswers(t *testing.T) {
	for _, i := range valids() {
		s := Put(i)
		first, _ := Get(s)
		second, _ := Get(s)
		spoil(&first)
		third, ok := Get(s)
		if !equal(second, i) || !equal(third, i) || !ok {
			t.Errorf("R3: writing into an answer of Get changes another one: %s", tell(i))
		}
		if Put(i) != s {
			t.Errorf("R3: writing into an answer of Get changes the string: %s", tell(i))
		}
	}
}

// lent is a string of bytes that the test may write into once the call is over, as
// nothing of it is to be kept.
func lent(s string, all *[][]byte) string {
	b := append(make([]byte, 0, len(s)+1), s...)
	*all = append(*all, b)
	return unsafe.String(unsafe.SliceData(b), len(b))
}

func spoilBytes(all [][]byte) {
	for _, b := range all {
		for n := range b {
			b[n] = '?'
		}
	}
}

// The bytes of strings are memory, too.
func TestStringsAreNewMemory(t *testing.T) {
	for _, i := range valids() {
		var all [][]byte
		j := api.Item{Kind: i.Kind, S: lent(i.S, &all), Exp: i.Exp}
		for _, f := range i.F {
			j.F = append(j.F, api.Field{Name: lent(f.Name, &all), Val: lent(f.Val, &all)})
		}
		for _, s := range i.L {
			j.L = append(j.L, lent(s, &all))
		}
		want := Put(i)
		s := Put(j)
		spoilBytes(all)
		if s != want {
			t.Errorf("R3: Put answers memory of its item: %s", tell(i))
		}
		var bytes [][]byte
		read := lent(want, &bytes)
		got, ok := Get(read)
		if read != want {
			t.Errorf("R3: Get writes into its string: %s", tell(i))
		}
		spoilBytes(bytes)
		if !ok || !equal(got, i) {
			t.Errorf("R3: Get answers memory of its string: %s", tell(i))
		}
	}
}

// Together with false there is nothing.
func TestFalseIsTheZeroItem(t *testing.T) {
	for _, i := range valids() {
		s := Put(i)
		for _, bad := range []string{s[:len(s)-1], s + "x", s[:len(s)-2] + "\x00\x00", sealed(s[:len(s)-2] + "x"), sealed(encoded(append(wordsOf(i), times(301))...)), sealed(encoded(with(wordsOf(i), 1, "-1")...)), sealed(encoded(with(wordsOf(i), 0, "5")...)), sealed(encoded(with(wordsOf(i), 0, "0")...))} {
			if got, ok := Get(bad); !ok && !nothing(got) {
				t.Errorf("R4: together with false Get answers %s", tell(got))
			}
		}
	}
}

// Strings and items far beyond what may be.
func TestGreatArguments(t *testing.T) {
	great := times(1 << 22)
	for _, i := range []api.Item{txt(great), list(great), set(great), hash(fields(great, great)...), list(make([]string, 1<<20)...), hash(make([]api.Field, 1<<20)...), {Kind: 9, S: great, F: make([]api.Field, 1<<18), L: make([]string, 1<<18), Exp: math.MinInt}} {
		if s := Put(i); s != "" {
			t.Errorf("10.1: Put of a great item is %s", short(s))
		}
	}
	wide := strings.Repeat("$-1\r\n", 1<<16)
	for _, s := range []string{great, strings.Repeat("*", 1<<20), strings.Repeat("*1\r\n", 1<<18), strings.Repeat("\x00", 1<<20), strings.Repeat("\r\n", 1<<19), "*65536\r\n" + wide, strings.Repeat("*65536\r\n", 8) + wide, "*3\r\n*65536\r\n" + wide + "*65536\r\n" + wide + "*65536\r\n" + wide, strings.Repeat(Put(txt("a")), 1<<15)} {
		checkNone(t, s, "a great string")
		checkNone(t, sealed(s), "a great string with its check")
	}
}

// first are the first words of an item, at most so many.
func first(i api.Item, most int) []string {
	var l []string
	for w := range words(i) {
		l = append(l, w)
		if len(l) >= most {
			break
		}
	}
	return l
}

// The iterator may be left at any word, and gone through again.
func TestWordsAreLeft(t *testing.T) {
	for _, i := range few() {
		all, want := words(i), wordsOf(i)
		for range 2 {
			if got := slices.Collect(all); !slices.Equal(got, want) {
				t.Errorf("the words of %s are %q", tell(i), got)
			}
		}
		for most := 1; most <= len(want); most++ {
			if got := first(i, most); !slices.Equal(got, want[:most]) {
				t.Errorf("the first %d words of %s are %q", most, tell(i), got)
			}
		}
	}
}
