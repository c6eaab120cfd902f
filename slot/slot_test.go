package slot

import (
	"bytes"
	"regexp"
	"slices"
	"strconv"
	"strings"
	"testing"

	"caravan/api"
)

// plainCrc divides bit by bit as the words of 1.1 say, without the shortcuts of the package.
func plainCrc(b []byte) int {
	var register uint16
	for _, c := range b {
		for bit := 7; bit >= 0; bit-- {
			out := register>>15 ^ uint16(c>>bit&1)
			register <<= 1
			if out == 1 {
				register ^= 0x1021
			}
		}
	}
	return int(register)
}

// counted gives n bytes that begin at first and go on by step.
func counted(n, first, step int) []byte {
	b := make([]byte, n)
	for i := range b {
		b[i] = byte(first + i*step)
	}
	return b
}

func TestCrcOfKnownBytes(t *testing.T) {
	for _, c := range []struct {
		name string
		b    []byte
		want int
	}{
		{"nil", nil, 0},
		{"empty", []byte{}, 0},
		{"a zero byte", []byte{0}, 0},
		{"zero bytes", make([]byte, 100), 0},
		{"the lowest bit", []byte{1}, 0x1021},
		{"the highest bit", []byte{0x80}, 0x9188},
		{"all bits", []byte{0xff}, 0x1ef0},
		{"all bits twice", []byte{0xff, 0xff}, 0x1d0f},
		{"a zero ahead", []byte{0, 1}, 0x1021},
		{"a zero behind", []byte{1, 0}, 0x3331},
		{"A", []byte("A"), 0x58e5},
		{"digits", []byte("123456789"), 0x31c3},
		{"digits backwards", []byte("987654321"), 0x9cad},
		{"all bytes", counted(256, 0, 1), 0x7e55},
		{"all bytes backwards", counted(256, 255, -1), 0x6492},
		{"a long text", bytes.Repeat([]byte("x"), 300), 0x6bd0},
	} {
		if n := Crc(c.b); n != c.want {
			t.Errorf("1.1: Crc of %s is %#x, want %#x", c.name, n, c.want)
		}
	}
}

func TestCrcIsThatOfTheWords(t *testing.T) {
	for i := range 1 << 16 {
		b := []byte{byte(i >> 8), byte(i)}
		if n, want := Crc(b), plainCrc(b); n != want {
			t.Fatalf("1.1: Crc of % x is %#x, want %#x", b, n, want)
		}
	}
	for n := range 300 {
		b := counted(n, n*7, n*n+3)
		if got, want := Crc(b), plainCrc(b); got != want {
			t.Fatalf("1.1: Crc of % x is %#x, want %#x", b, got, want)
		}
	}
	long := counted(1<<20, 1, 37)
	if got, want := Crc(long), plainCrc(long); got != want {
		t.Errorf("1.1: Crc of a million bytes is %#x, want %#x", got, want)
	}
}

func TestCrcLeavesItsBytes(t *testing.T) {
	b := []byte("123456789")
	for range 3 {
		if n := Crc(b[:9:9]); n != 0x31c3 {
			t.Errorf("1.1: Crc called again is %#x", n)
		}
	}
	if string(b) != "123456789" {
		t.Errorf("1.1: Crc wrote into its argument: %q", b)
	}
}

func TestTagOfKnownKeys(t *testing.T) {
	for _, c := range []struct{ name, key, want string }{
		{"the empty key", "", ""},
		{"no braces", "foo", "foo"},
		{"only a tag", "{a}", "a"},
		{"a tag ahead", "{a}b", "a"},
		{"a tag behind", "foo{hash_tag}", "hash_tag"},
		{"a tag within", "a{b}c", "b"},
		{"nothing within", "{}", "{}"},
		{"nothing within, then more", "{}a", "{}a"},
		{"nothing within, then a tag", "{}{a}", "{}{a}"},
		{"nothing within, then an end", "a{}b}", "a{}b}"},
		{"no end", "a{b", "a{b"},
		{"no end behind", "a{", "a{"},
		{"only a beginning", "{", "{"},
		{"only an end", "}", "}"},
		{"an end alone", "a}b", "a}b"},
		{"an end ahead, no end behind", "}{", "}{"},
		{"an end ahead, no end behind, with bytes", "a}b{c", "a}b{c"},
		{"an end ahead of a tag", "a}b{c}", "c"},
		{"an end ahead of nothing", "}{}", "}{}"},
		{"two beginnings", "{{a}}", "{a"},
		{"beginnings within", "{{{}", "{{"},
		{"two ends", "{a}}", "a"},
		{"two tags", "{a}{b}", "a"},
		{"two tags behind", "x{a}{b}y", "a"},
		{"a space", "{ }a", " "},
		{"a zero byte", "{\x00}a", "\x00"},
		{"no text", "\xff{\xfe\x80}\xc3", "\xfe\x80"},
		{"long runes", "ä{ö€}ü", "ö€"},
		{"a key that is too long", strings.Repeat("a", api.MaxKey) + "{b}", "b"},
		{"a tag that is too long", "{" + strings.Repeat("a", 1000) + "}b", strings.Repeat("a", 1000)},
	} {
		if s := Tag(c.key); s != c.want {
			t.Errorf("1.2: Tag of %s, %q, is %q, want %q", c.name, c.key, s, c.want)
		}
	}
}

// keysOf gives all texts over some letters up to a length, the empty one with them.
func keysOf(letters string, most int) []string {
	all := []string{""}
	begin := 0
	for range most {
		end := len(all)
		for _, s := range all[begin:end] {
			for _, c := range letters {
				all = append(all, s+string(c))
			}
		}
		begin = end
	}
	return all
}

func TestTagIsThatOfTheWords(t *testing.T) {
	pattern := regexp.MustCompile(`^[^{]*\{([^}]+)\}`)
	for _, key := range keysOf("a{}b", 7) {
		want := key
		if m := pattern.FindStringSubmatch(key); m != nil {
			want = m[1]
		}
		if s := Tag(key); s != want {
			t.Fatalf("1.2: Tag of %q is %q, want %q", key, s, want)
		}
	}
}

func TestOfKnownKeys(t *testing.T) {
	for _, c := range []struct {
		key  string
		want int
	}{
		{"", 0}, {"\x00", 0}, {"\x00\x00", 0},
		{"foo", 12182}, {"bar", 5061}, {"hello", 866},
		{"a", 15495}, {"b", 3300}, {"c", 7365}, {"d", 11298},
		{"user1000", 3443}, {"{user1000}.following", 3443}, {"{user1000}.followers", 3443},
		{"foo{hash_tag}", 2515}, {"bar{hash_tag}", 2515}, {"hash_tag", 2515},
		{"{a}", 15495}, {"x{a}{b}", 15495}, {"}{a}", 15495},
		{"{}", 15257}, {"{}a", 10875}, {"a{}{b}", 15033},
		{"{a", 10276}, {"x{", 3596}, {"{user1000", 8723}, {"a}", 5921}, {"}{", 12793},
		{"\xff\xfe", 3374}, {"{\xff}x", 7920}, {"käse", 7438}, {" ", 9314},
		{strings.Repeat("k", 1000), 15858},
	} {
		if n := Of(c.key); n != c.want {
			t.Errorf("1.2: Of(%.20q) is %d, want %d", c.key, n, c.want)
		}
	}
}

func TestOfIsTheCrcOfTheTag(t *testing.T) {
	for _, key := range keysOf("abcdefgh{}", 5) {
		n := Of(key)
		if n < 0 || n >= api.Slots {
			t.Fatalf("1.2: Of(%q) is %d, no slot", key, n)
		}
		if want := plainCrc([]byte(Tag(key))) % 16384; n != want {
			t.Fatalf("1.2: Of(%q) is %d, want %d", key, n, want)
		}
	}
}

func TestOfReachesAllSlots(t *testing.T) {
	met := make([]bool, api.Slots)
	for i := range 1 << 16 {
		key := string([]byte{byte(i >> 8), byte(i)})
		n := Of(key)
		if n < 0 || n >= api.Slots {
			t.Fatalf("1.2: Of(%q) is %d, no slot", key, n)
		}
		met[n] = true
	}
	for n, ok := range met {
		if !ok {
			t.Fatalf("1.2: no key has slot %d", n)
		}
	}
}

// sameSlot finds another key than the given one with its slot, by trying.
func sameSlot(t *testing.T, key string) string {
	t.Helper()
	for _, other := range keysOf("bcdefghi", 5) {
		if Of(other) == Of(key) && other != key {
			return other
		}
	}
	t.Fatalf("no other key has the slot of %q", key)
	return ""
}

func TestOne(t *testing.T) {
	met := sameSlot(t, "a")
	for _, c := range []struct {
		name string
		keys []string
		want int
		ok   bool
	}{
		{"nil", nil, 0, false},
		{"no keys", []string{}, 0, false},
		{"a key", []string{"a"}, 15495, true},
		{"the empty key", []string{""}, 0, true},
		{"the empty key twice", []string{"", ""}, 0, true},
		{"keys of slot 0", []string{"", "\x00", "{\x00}a"}, 0, true},
		{"a key twice", []string{"a", "a"}, 15495, true},
		{"keys of a tag", []string{"a", "{a}1", "2{a}"}, 15495, true},
		{"keys of two tags and one slot", []string{"a", met, "x{" + met + "}"}, 15495, true},
		{"two slots", []string{"a", "b"}, 0, false},
		{"another slot first", []string{"b", "a", "a"}, 0, false},
		{"another slot within", []string{"a", "b", "a"}, 0, false},
		{"another slot last", []string{"a", "a", "b"}, 0, false},
		{"slot 0 and another", []string{"", "a"}, 0, false},
		{"another and slot 0", []string{"a", ""}, 0, false},
		{"no tag within", []string{"{}a", "{}b"}, 0, false},
		{"a tag without an end", []string{"{a", "a"}, 0, false},
	} {
		if n, ok := One(c.keys...); n != c.want || ok != c.ok {
			t.Errorf("1.2: One of %s, %q, is %d %v, want %d %v", c.name, c.keys, n, ok, c.want, c.ok)
		}
	}
}

func TestOneIsTheSlotOfEach(t *testing.T) {
	keys := keysOf("a{}b", 3)
	for _, a := range keys {
		for _, b := range keys {
			n, ok := One(a, b)
			if same := Of(a) == Of(b); ok != same {
				t.Fatalf("1.2: One(%q, %q) is %d %v", a, b, n, ok)
			}
			if ok && n != Of(a) || !ok && n != 0 {
				t.Fatalf("1.2: One(%q, %q) is %d %v", a, b, n, ok)
			}
		}
	}
}

func TestOneOfManyKeys(t *testing.T) {
	keys := make([]string, 10000)
	for i := range keys {
		keys[i] = strconv.Itoa(i) + "{a}"
	}
	before := slices.Clone(keys)
	if n, ok := One(keys...); n != 15495 || !ok {
		t.Errorf("1.2: One of many keys is %d %v", n, ok)
	}
	if !slices.Equal(keys, before) {
		t.Error("1.2: One wrote into its argument")
	}
	keys[len(keys)-1] = "b"
	if n, ok := One(keys...); n != 0 || ok {
		t.Errorf("1.2: One of many keys and another is %d %v", n, ok)
	}
}

func TestKeysOfATagShareASlot(t *testing.T) {
	slots := make(map[string]int)
	first := make(map[string]string)
	for _, key := range keysOf("a{}b", 7) {
		tag, n := Tag(key), Of(key)
		if other, met := first[tag]; met && slots[tag] != n {
			t.Fatalf("1.3: %q and %q have the tag %q and the slots %d and %d", other, key, tag, slots[tag], n)
		}
		slots[tag], first[tag] = n, key
	}
	for _, tag := range []string{"a", "{", "{{a", "user1000", "\x00", "\xff\xfe", " ", "käse"} {
		for _, around := range [][2]string{{"", ""}, {"x", ""}, {"", "y"}, {"}", "}"}, {"", "{b}"}, {"\xff", "\x00"}} {
			key := around[0] + "{" + tag + "}" + around[1]
			if Tag(key) != tag || Of(key) != Of("{"+tag+"}") {
				t.Errorf("1.3: %q has the tag %q and slot %d", key, Tag(key), Of(key))
			}
		}
	}
}

// flip turns the bits that a pattern of so many bits has; its first one meets that of number at, from the front.
func flip(b []byte, at, width, pattern int) []byte {
	out := slices.Clone(b)
	for i := range width {
		if pattern>>(width-1-i)&1 == 1 {
			out[(at+i)/8] ^= 0x80 >> ((at + i) % 8)
		}
	}
	return out
}

func TestCrcTellsBytesThatDifferWithin16Bits(t *testing.T) {
	for _, b := range [][]byte{make([]byte, 5), []byte("hello"), {0xff, 0xff, 0xff, 0xff, 0xff}} {
		want := Crc(b)
		for at := range len(b)*8 - 15 {
			for pattern := 1; pattern < 1<<16; pattern++ {
				if other := flip(b, at, 16, pattern); Crc(other) == want {
					t.Fatalf("1.3: % x and % x have the Crc %#x", b, other, want)
				}
			}
		}
	}
}

func TestCrcTellsShortBytes(t *testing.T) {
	met := make([]bool, 1<<16)
	for i := range 1 << 16 {
		n := Crc([]byte{byte(i >> 8), byte(i)})
		if n < 0 || n >= 1<<16 || met[n] {
			t.Fatalf("1.3: two pairs of bytes have the Crc %#x", n)
		}
		met[n] = true
	}
	for i := range 256 {
		for j := range i {
			if Crc([]byte{byte(i)}) == Crc([]byte{byte(j)}) {
				t.Fatalf("1.3: the bytes %#x and %#x have one Crc", i, j)
			}
		}
	}
}

func TestCrcTellsWithinLongBytes(t *testing.T) {
	b := counted(1000, 3, 29)
	want := Crc(b)
	for _, at := range []int{0, 1, 7, 8, 4000, 7983, 7984} {
		for _, pattern := range []int{1, 2, 3, 0x1021, 0x8000, 0x8001, 0x8408, 0xffff} {
			if other := flip(b, at, 16, pattern); Crc(other) == want {
				t.Errorf("1.3: bits %#x at %d don't change the Crc", pattern, at)
			}
		}
	}
}

func TestSeventeenBitsMayShareACrc(t *testing.T) {
	b := []byte("hello")
	for at := range len(b)*8 - 16 {
		if other := flip(b, at, 17, 0x11021); Crc(other) != Crc(b) {
			t.Errorf("1.1: the polynomial itself at %d changes the Crc", at)
		}
	}
}
