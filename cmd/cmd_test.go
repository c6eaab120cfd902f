package cmd

import (
	"math/rand/v2"
	"slices"
	"strconv"
	"strings"
	"testing"

	"caravan/api"
)

// listed is the list of the chapter, as it stands there.
const listed = "PING 1 1 0 0 0; GET 2 2 1 1 1; SET 3 3 1 1 1 W; SETNX 3 3 1 1 1 W; SETEX 4 4 1 1 1 W; GETSET 3 3 1 1 1 W; APPEND 3 3 1 1 1 W; STRLEN 2 2 1 1 1; GETRANGE 4 4 1 1 1; SETRANGE 4 4 1 1 1 W; INCR 2 2 1 1 1 W; DECR 2 2 1 1 1 W; INCRBY 3 3 1 1 1 W; DECRBY 3 3 1 1 1 W; MGET 2 0 1 -1 1; MSET 3 0 1 -1 2 W; MSETNX 3 0 1 -1 2 W; DEL 2 0 1 -1 1 W; EXISTS 2 0 1 -1 1; TYPE 2 2 1 1 1; EXPIRE 3 3 1 1 1 W; TTL 2 2 1 1 1; PERSIST 2 2 1 1 1 W; RENAME 3 3 1 2 1 W; HSET 4 0 1 1 1 W; HGET 3 3 1 1 1; HDEL 3 0 1 1 1 W; HLEN 2 2 1 1 1; HEXISTS 3 3 1 1 1; HKEYS 2 2 1 1 1; HVALS 2 2 1 1 1; HGETALL 2 2 1 1 1; HINCRBY 4 4 1 1 1 W; HMGET 3 0 1 1 1; LPUSH 3 0 1 1 1 W; RPUSH 3 0 1 1 1 W; LPOP 2 2 1 1 1 W; RPOP 2 2 1 1 1 W; LLEN 2 2 1 1 1; LRANGE 4 4 1 1 1; LINDEX 3 3 1 1 1; LSET 4 4 1 1 1 W; LTRIM 4 4 1 1 1 W; LREM 4 4 1 1 1 W; SADD 3 0 1 1 1 W; SREM 3 0 1 1 1 W; SCARD 2 2 1 1 1; SISMEMBER 3 3 1 1 1; SMEMBERS 2 2 1 1 1; SPOP 2 2 1 1 1 W; SMOVE 4 4 1 2 1 W; SINTER 2 0 1 -1 1; SUNION 2 0 1 -1 1; SDIFF 2 0 1 -1 1"

// specs reads the list of the chapter.
func specs(t *testing.T) []api.Spec {
	t.Helper()
	var l []api.Spec
	for row := range strings.SplitSeq(listed, "; ") {
		words := strings.Split(row, " ")
		var n [5]int
		for i := range n {
			var err error
			if n[i], err = strconv.Atoi(words[1+i]); err != nil {
				t.Fatal(err)
			}
		}
		write := len(words) == 7 && words[6] == "W"
		if len(words) != 6 && !write {
			t.Fatalf("no row: %q", row)
		}
		l = append(l, api.Spec{Name: words[0], Least: n[0], Most: n[1], First: n[2], Last: n[3], Step: n[4], Write: write})
	}
	return l
}

// capitals is a text with A to Z for a to z, and all other bytes as they are.
func capitals(s string) string {
	b := []byte(s)
	for i := range b {
		if at := strings.IndexByte("abcdefghijklmnopqrstuvwxyz", b[i]); at >= 0 {
			b[i] = "ABCDEFGHIJKLMNOPQRSTUVWXYZ"[at]
		}
	}
	return string(b)
}

// checkFind holds Find against the list.
func checkFind(t *testing.T, list []api.Spec, name string) {
	t.Helper()
	var want api.Spec
	at := slices.IndexFunc(list, func(s api.Spec) bool { return s.Name == capitals(name) })
	if at >= 0 {
		want = list[at]
	}
	if s, ok := Find(name); s != want || ok != (at >= 0) {
		t.Errorf("4.1: Find(%.60q) is %v %v, want %v %v", name, s, ok, want, at >= 0)
	}
}

func TestFindOfEachName(t *testing.T) {
	list := specs(t)
	for _, want := range list {
		if s, ok := Find(want.Name); s != want || !ok {
			t.Errorf("4.1: Find(%q) is %v %v, want %v", want.Name, s, ok, want)
		}
	}
}

func TestFindInAllLetters(t *testing.T) {
	for _, want := range specs(t) {
		for small := range 1 << len(want.Name) {
			name := []byte(want.Name)
			for i := range name {
				if small>>i&1 == 1 {
					name[i] += 'a' - 'A'
				}
			}
			if s, ok := Find(string(name)); s != want || !ok {
				t.Fatalf("4.1: Find(%q) is %v %v, want %v", name, s, ok, want)
			}
		}
	}
}

func TestFindOfNamesThatDifferByAByte(t *testing.T) {
	list := specs(t)
	for _, spec := range list {
		for _, name := range []string{spec.Name, strings.ToLower(spec.Name)} {
			for i := range len(name) {
				checkFind(t, list, name[:i]+name[i+1:])
				checkFind(t, list, name[:i])
				checkFind(t, list, name[i:])
			}
			for c := range 256 {
				letter := string([]byte{byte(c)})
				for i := range len(name) {
					checkFind(t, list, name[:i]+letter+name[i+1:])
					checkFind(t, list, name[:i]+letter+name[i:])
				}
				checkFind(t, list, name+letter)
			}
		}
	}
}

func TestFindOfNoNames(t *testing.T) {
	for _, name := range []string{
		"", " ", "\x00", "G", "GE", "GETT", "get t", " GET", "GET ", "GET\x00", "\tGET", "GET\r\n", "GET a", "GETGET", "TEG", "*", "?", "0", "-1",
		// Bytes that a single bit tells from those of a name.
		"7%4", "\x07\x05\x14", "\xc7\xc5\xd4", "\xe7\xe5\xf4", "'%4",
		// Letters whose capitals, or whose like in other letters, are those of a name.
		"\u017fet", "\u017fADD", "p\u0131ng", "P\u0130NG", "H\u212aEYS", "h\u212aeys", "g\xe9t", "\uff27\uff25\uff34", "\u0421ET", "ß",
		"\xff\xfe", "\xc3", strings.Repeat("GET", 1000), strings.Repeat("a", 1<<20),
	} {
		if s, ok := Find(name); ok || s != (api.Spec{}) {
			t.Errorf("4.1: Find(%.60q) is %v %v, want none", name, s, ok)
		}
		for _, words := range [][]string{{name}, {name, "a"}, {name, "a", "b"}, {name, "a", "b", "c"}} {
			checkNoCall(t, words)
		}
	}
}

func TestNames(t *testing.T) {
	var want []string
	for _, s := range specs(t) {
		want = append(want, s.Name)
	}
	slices.Sort(want)
	l := Names()
	if !slices.Equal(l, want) {
		t.Errorf("4.1: Names is %q, want %q", l, want)
	}
	if len(l) != 54 || l[0] != "APPEND" || l[53] != "TYPE" {
		t.Errorf("4.1: Names has %d names: %q", len(l), l)
	}
	for i := range len(l) - 1 {
		if l[i] >= l[i+1] {
			t.Errorf("4.1: in Names %q is ahead of %q", l[i], l[i+1])
		}
	}
	clear(l)
	_ = append(l[:0], "NIX")
	if !slices.Equal(Names(), want) {
		t.Error("R3: writing into Names changes what it answers")
	}
}

// call is words of a command: so many, the name among them, each of its own.
func call(name string, count int) []string {
	words := []string{name}
	for i := 1; i < count; i++ {
		words = append(words, "w"+strconv.Itoa(i))
	}
	return words
}

// checkNoCall makes sure that the words are no call, and that nothing is told beside that.
func checkNoCall(t *testing.T, words []string) {
	t.Helper()
	if s, ok := Check(words); ok || s != (api.Spec{}) {
		t.Errorf("4.1: Check of %d words, %.60q, is %v %v, want none", len(words), words, s, ok)
	}
	if l := Keys(words); len(l) != 0 {
		t.Errorf("4.1: Keys of %d words, %.60q, is %.60q, want none", len(words), words, l)
	}
}

// checkCall makes sure that the words are a call of that command, with those keys.
func checkCall(t *testing.T, words []string, want api.Spec, keys []string) {
	t.Helper()
	if s, ok := Check(words); !ok || s != want {
		t.Errorf("4.1: Check of %d words, %.60q, is %v %v, want %v", len(words), words, s, ok, want)
	}
	if l := Keys(words); !slices.Equal(l, keys) {
		t.Errorf("4.1: Keys of %d words, %.60q, is %.60q, want %.60q", len(words), words, l, keys)
	}
}

// keyPlaces is where in so many words of a command its keys stand.
func keyPlaces(name string, count int) []int {
	var l []int
	switch name {
	case "PING":
	case "RENAME", "SMOVE":
		l = []int{1, 2}
	case "MGET", "DEL", "EXISTS", "SINTER", "SUNION", "SDIFF":
		for i := 1; i < count; i++ {
			l = append(l, i)
		}
	case "MSET", "MSETNX":
		for i := 1; i < count; i += 2 {
			l = append(l, i)
		}
	default:
		l = []int{1}
	}
	return l
}

// mayBe is whether so many words may be a call of the command.
func mayBe(s api.Spec, count int) bool {
	switch {
	case count < s.Least, count > 100, s.Most != 0 && count > s.Most:
		return false
	case s.Name == "MSET", s.Name == "MSETNX":
		return count%2 != 0
	case s.Name == "HSET":
		return count%2 != 1
	}
	return true
}

func TestCallsOfEachLength(t *testing.T) {
	for _, s := range specs(t) {
		for count := 1; count <= 205; count++ {
			for _, name := range []string{s.Name, strings.ToLower(s.Name)} {
				words := call(name, count)
				if !mayBe(s, count) {
					checkNoCall(t, words)
					continue
				}
				var keys []string
				for _, i := range keyPlaces(s.Name, count) {
					keys = append(keys, words[i])
				}
				checkCall(t, words, s, keys)
			}
		}
	}
}

func TestBoundsOfLength(t *testing.T) {
	for _, c := range []struct {
		name  string
		count int
		ok    bool
	}{
		{"PING", 1, true}, {"PING", 2, false},
		{"GET", 1, false}, {"GET", 2, true}, {"GET", 3, false},
		{"SETEX", 3, false}, {"SETEX", 4, true}, {"SETEX", 5, false},
		{"DEL", 1, false}, {"DEL", 2, true}, {"DEL", 3, true}, {"DEL", 99, true}, {"DEL", 100, true}, {"DEL", 101, false}, {"DEL", 1000, false}, {"DEL", 1 << 20, false},
		{"SADD", 2, false}, {"SADD", 3, true}, {"SADD", 100, true}, {"SADD", 101, false},
		{"MSET", 1, false}, {"MSET", 2, false}, {"MSET", 3, true}, {"MSET", 4, false}, {"MSET", 5, true}, {"MSET", 98, false}, {"MSET", 99, true}, {"MSET", 100, false}, {"MSET", 101, false},
		{"MSETNX", 1, false}, {"MSETNX", 2, false}, {"MSETNX", 3, true}, {"MSETNX", 4, false}, {"MSETNX", 99, true}, {"MSETNX", 100, false}, {"MSETNX", 101, false},
		{"HSET", 2, false}, {"HSET", 3, false}, {"HSET", 4, true}, {"HSET", 5, false}, {"HSET", 6, true}, {"HSET", 99, false}, {"HSET", 100, true}, {"HSET", 101, false}, {"HSET", 102, false},
		{"HMGET", 2, false}, {"HMGET", 3, true}, {"HMGET", 4, true}, {"HMGET", 5, true},
		{"MGET", 2, true}, {"MGET", 3, true}, {"MGET", 4, true},
	} {
		if _, ok := Check(call(c.name, c.count)); ok != c.ok {
			t.Errorf("4.1: Check of %s with %d words is %v", c.name, c.count, ok)
		}
	}
}

func TestNoWords(t *testing.T) {
	checkNoCall(t, nil)
	checkNoCall(t, []string{})
	// What lies in the spare capacity is not among the words.
	checkNoCall(t, []string{"PING"}[:0])
	checkNoCall(t, []string{"GET", "a"}[:1])
	for count := range 102 {
		checkNoCall(t, make([]string, count))
		checkNoCall(t, call("NIX", count))
		checkNoCall(t, append([]string{""}, call("GET", count)...))
	}
}

func TestKeysOfKnownCalls(t *testing.T) {
	for _, c := range []struct{ words, keys []string }{
		{[]string{"PING"}, nil},
		{[]string{"GET", "a"}, []string{"a"}},
		{[]string{"gEt", "a"}, []string{"a"}},
		{[]string{"GET", ""}, []string{""}},
		{[]string{"GET", "GET"}, []string{"GET"}},
		{[]string{"GET", "a b\r\n\x00\xff"}, []string{"a b\r\n\x00\xff"}},
		{[]string{"SET", "a", "b"}, []string{"a"}},
		{[]string{"MSET", "a", "1", "b", "2"}, []string{"a", "b"}},
		{[]string{"MSET", "a", "1", "a", "2"}, []string{"a", "a"}},
		{[]string{"MSETNX", "b", "1", "a", "2", "", ""}, []string{"b", "a", ""}},
		{[]string{"MGET", "c", "a", "c", "b"}, []string{"c", "a", "c", "b"}},
		{[]string{"DEL", "", ""}, []string{"", ""}},
		{[]string{"RENAME", "a", "b"}, []string{"a", "b"}},
		{[]string{"RENAME", "a", "a"}, []string{"a", "a"}},
		{[]string{"SMOVE", "a", "b", "m"}, []string{"a", "b"}},
		{[]string{"HSET", "k", "f", "v", "g", "w"}, []string{"k"}},
		{[]string{"HMGET", "k", "f", "g"}, []string{"k"}},
		{[]string{"LPUSH", "k", "a", "b", "c"}, []string{"k"}},
		{[]string{"SDIFF", "b", "a"}, []string{"b", "a"}},
	} {
		s, ok := Find(c.words[0])
		if !ok {
			t.Errorf("4.1: there is no %s", c.words[0])
		}
		checkCall(t, c.words, s, c.keys)
	}
	for _, words := range [][]string{
		{"MSET", "a", "1", "b"}, {"MSET", "a"}, {"MSETNX", "a", "1", "b"}, {"HSET", "k", "f"}, {"HSET", "k", "f", "v", "g"}, {"HSET", "k"},
		{"PING", "a"}, {"PING", ""}, {"GET"}, {"GET", "a", "b"}, {"a", "GET"}, {"", "GET", "a"}, {"GET a"}, {"RENAME", "a"}, {"SMOVE", "a", "b"}, {"SMOVE", "a", "b", "m", "n"},
	} {
		checkNoCall(t, words)
	}
}

// replaced is words of which the one at an index is another one.
func replaced(words []string, at int, word string) []string {
	l := slices.Clone(words)
	l[at] = word
	return l
}

func TestLongKeys(t *testing.T) {
	most := []string{strings.Repeat("k", 40), strings.Repeat("é", 20), strings.Repeat("\xff", 40), strings.Repeat("\x00", 40), "{a}" + strings.Repeat("k", 37)}
	more := []string{strings.Repeat("k", 41), strings.Repeat("é", 20) + "k", strings.Repeat("é", 21), strings.Repeat("\xff", 41), strings.Repeat("\x00", 41), "{a}" + strings.Repeat("k", 38), strings.Repeat("k", 1<<16)}
	for _, s := range specs(t) {
		for _, count := range []int{s.Least, s.Least + 1, s.Least + 2, s.Most, 99, 100} {
			if !mayBe(s, count) {
				continue
			}
			places := keyPlaces(s.Name, count)
			words := call(s.Name, count)
			for at := 1; at < count; at++ {
				for _, word := range most {
					checkKeysAt(t, replaced(words, at, word), s, places)
				}
				for _, word := range more {
					if slices.Contains(places, at) {
						checkNoCall(t, replaced(words, at, word))
					} else {
						checkKeysAt(t, replaced(words, at, word), s, places)
					}
				}
			}
		}
	}
}

// checkKeysAt makes sure that the words are a call whose keys stand at those places.
func checkKeysAt(t *testing.T, words []string, s api.Spec, places []int) {
	t.Helper()
	var keys []string
	for _, i := range places {
		keys = append(keys, words[i])
	}
	checkCall(t, words, s, keys)
}

func TestLongWordsThatAreNoKeys(t *testing.T) {
	long := strings.Repeat("v", 1<<20)
	for _, words := range [][]string{
		{"SET", "a", long}, {"SETEX", "a", long, long}, {"MSET", "a", long, "b", long}, {"MSETNX", "a", long}, {"HSET", "a", long, long}, {"SMOVE", "a", "b", long}, {"LPUSH", "a", long, long}, {"HMGET", "a", long},
	} {
		if _, ok := Check(words); !ok {
			t.Errorf("4.1: Check of %.60q is false", words)
		}
	}
	for _, words := range [][]string{
		{"GET", long}, {"MSET", "a", "1", long, "2"}, {"RENAME", "a", long}, {"RENAME", long, "a"}, {"SMOVE", "a", long, "m"}, {"DEL", "a", "b", long}, {"HSET", long, "f", "v"},
	} {
		checkNoCall(t, words)
	}
}

func TestKeysAreNewMemory(t *testing.T) {
	for _, s := range specs(t) {
		for count := s.Least; count < s.Least+6; count++ {
			words := call(s.Name, count)
			before := slices.Clone(words)
			first, second := Keys(words), Keys(words)
			want := slices.Clone(second)
			for i := range first {
				first[i] = "x"
			}
			for i := range first[:cap(first)] {
				first[:cap(first)][i] = "y"
			}
			_ = append(first, "z", "z")
			if !slices.Equal(words, before) || !slices.Equal(second, want) || !slices.Equal(Keys(words), want) {
				t.Errorf("R3: writing into Keys of %q changes more", before)
			}
			for i := range words {
				words[i] = "x"
			}
			if !slices.Equal(second, want) {
				t.Errorf("R3: writing into %q changes its Keys", before)
			}
		}
	}
}

func TestCheckLeavesItsWords(t *testing.T) {
	for _, words := range [][]string{{"mset", "a", "1", "b", "2"}, {"get", "A"}, {"nix", "a"}, {"mset", "a", "1", "b"}, {}} {
		before := slices.Clone(words)
		first, ok := Check(words)
		again, okAgain := Check(words)
		if first != again || ok != okAgain {
			t.Errorf("R1: Check of %q is %v %v, then %v %v", before, first, ok, again, okAgain)
		}
		Keys(words)
		if !slices.Equal(words, before) {
			t.Errorf("R3: %q became %q", before, words)
		}
	}
}

// anyWords makes words at random: most begin with a name, some words are keys too long.
func anyWords(r *rand.Rand, names []string) []string {
	words := make([]string, r.IntN(12))
	if r.IntN(20) == 0 {
		words = make([]string, 95+r.IntN(10))
	}
	for i := range words {
		words[i] = strings.Repeat("k", r.IntN(6))
		if r.IntN(30) == 0 {
			words[i] = strings.Repeat("k", 38+r.IntN(6))
		}
	}
	if len(words) > 0 && r.IntN(10) > 0 {
		words[0] = names[r.IntN(len(names))]
	}
	return words
}

func TestWhichCommandsHaveKeys(t *testing.T) {
	r := rand.New(rand.NewPCG(4, 2))
	names := Names()
	calls := 0
	for range 100000 {
		words := anyWords(r, names)
		s, ok := Check(words)
		l := Keys(words)
		if !ok {
			if len(l) != 0 {
				t.Fatalf("4.1: Keys of %.60q is %q", words, l)
			}
			continue
		}
		calls++
		if none := s.First == 0; none != (len(l) == 0) || none != (s.Name == "PING") {
			t.Fatalf("4.2: %.60q, a call of %v, has the keys %.60q", words, s, l)
		}
	}
	if calls < 1000 {
		t.Errorf("4.2: only %d calls were tried", calls)
	}
}

func TestEachCommandHasItsKeys(t *testing.T) {
	for _, name := range Names() {
		calls := 0
		for count := 1; count <= api.MaxWords; count++ {
			for _, word := range []string{"", "k", strings.Repeat("k", api.MaxKey)} {
				words := slices.Repeat([]string{word}, count)
				words[0] = name
				if _, ok := Check(words); !ok {
					continue
				}
				calls++
				if l := Keys(words); (len(l) == 0) != (name == "PING") {
					t.Errorf("4.2: %s with %d words has %d keys", name, count, len(l))
				}
			}
		}
		if calls == 0 {
			t.Errorf("4.1: there is no call of %s", name)
		}
	}
}
