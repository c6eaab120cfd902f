package exec

import (
	"slices"
	"strconv"
	"strings"
	"testing"

	"caravan/api"
	"caravan/cmd"
	"caravan/item"
	"caravan/space"
)

func textItem(s string) api.Item { return api.Item{Kind: api.KText, S: s} }

// hashItem is made of its Names and Vals in turn.
func hashItem(l ...string) api.Item {
	i := api.Item{Kind: api.KHash}
	for pair := range slices.Chunk(l, 2) {
		i.F = append(i.F, api.Field{Name: pair[0], Val: pair[1]})
	}
	return i
}

func listItem(l ...string) api.Item { return api.Item{Kind: api.KList, L: l} }

func setItem(l ...string) api.Item { return api.Item{Kind: api.KSet, L: l} }

// ending is the item with that end of life.
func ending(i api.Item, exp int) api.Item {
	i.Exp = exp
	return i
}

func times(n int) string { return strings.Repeat("x", n) }

// rising are so many texts, each greater than the one before it.
func rising(n int) []string {
	var l []string
	for i := range n {
		l = append(l, "m"+strconv.Itoa(101+i))
	}
	return l
}

// named is a hash with those Names.
func named(names []string) api.Item {
	var l []string
	for i, name := range names {
		l = append(l, name, strconv.Itoa(i))
	}
	return hashItem(l...)
}

// sample is the space of most tests, at time 100. What begins with dead is dead by
// then; what begins with full has as much as it may have.
func sample() []api.Pair {
	db := []api.Pair{
		{Key: "", Item: ending(textItem("empty key"), 101)},
		{Key: "dead", Item: ending(textItem("d"), 100)}, {Key: "dead hash", Item: ending(hashItem("a", "1"), 99)}, {Key: "dead list", Item: ending(listItem("x", "y"), 1)}, {Key: "dead set", Item: ending(setItem("a", "b"), 100)},
		{Key: "e", Item: textItem("")},
		{Key: "full hash", Item: ending(named(rising(40)), 500)}, {Key: "full list", Item: ending(listItem(rising(40)...), 500)}, {Key: "full set", Item: ending(setItem(rising(40)...), 500)}, {Key: "full text", Item: ending(textItem(times(300)), 500)},
		{Key: "h", Item: hashItem("a", "1", "b", "x")}, {Key: "h1", Item: ending(hashItem("a", "5"), 500)}, {Key: "h2", Item: hashItem("", "", "a", "9223372036854775807", "b", "-9223372036854775808", "c", "01", "d", times(300))},
		{Key: times(40), Item: textItem("long key")},
		{Key: "l", Item: listItem("x", "y", "x", "z")}, {Key: "l1", Item: ending(listItem("x"), 500)}, {Key: "l2", Item: listItem("", "", "a", times(300))},
		{Key: "max", Item: textItem("9223372036854775807")}, {Key: "min", Item: textItem("-9223372036854775808")}, {Key: "n", Item: ending(textItem("10"), 500)},
		{Key: "s", Item: setItem("a", "b", "c")}, {Key: "s1", Item: ending(setItem("a"), 500)}, {Key: "s2", Item: ending(setItem("b", "d"), 101)}, {Key: "s3", Item: setItem("", "a", times(300))},
		{Key: "t", Item: textItem("abc")},
	}
	slices.SortFunc(db, func(p, q api.Pair) int { return strings.Compare(p.Key, q.Key) })
	return db
}

// tellReply is a reply as a test tells it.
func tellReply(r api.Reply) string {
	switch r.Kind {
	case api.RSimple:
		return "+" + r.S
	case api.RError:
		return "-" + r.S
	case api.RInt:
		return strconv.Itoa(r.N)
	case api.RBulk:
		return short(r.S)
	case api.RNil:
		return "nil"
	case api.RArray:
		var l []string
		for _, x := range r.L {
			l = append(l, tellReply(x))
		}
		return "[" + strings.Join(l, " ") + "]"
	}
	return "kind " + strconv.Itoa(r.Kind)
}

// tellItem is an item as a test tells it.
func tellItem(i api.Item) string {
	s := ""
	switch i.Kind {
	case api.KText:
		s = short(i.S)
	case api.KHash:
		for _, f := range i.F {
			s += " " + f.Name + ":" + f.Val
		}
		s = "{" + strings.TrimPrefix(s, " ") + "}"
	case api.KList:
		s = "[" + strings.Join(i.L, " ") + "]"
	case api.KSet:
		s = "<" + strings.Join(i.L, " ") + ">"
	default:
		s = "kind " + strconv.Itoa(i.Kind)
	}
	if i.Exp != 0 {
		s += "@" + strconv.Itoa(i.Exp)
	}
	return s
}

// tellEffects is effects as a test tells them.
func tellEffects(l []api.Effect) string {
	var all []string
	for _, e := range l {
		s := e.Key + "=" + tellItem(e.Item)
		if e.Gone {
			s = "-" + e.Key
		}
		all = append(all, s)
	}
	return strings.Join(all, ", ")
}

func tellWords(words []string) string {
	var l []string
	for _, s := range words[:min(len(words), 8)] {
		l = append(l, short(s))
	}
	return strings.Join(l, " ") + " of " + strconv.Itoa(len(words))
}

// equalItems is whether two items are equal, nil and empty being the same.
func equalItems(a, b api.Item) bool {
	return a.Kind == b.Kind && a.S == b.S && a.Exp == b.Exp && slices.Equal(a.F, b.F) && slices.Equal(a.L, b.L)
}

func equalEffects(a, b []api.Effect) bool {
	return slices.EqualFunc(a, b, func(e, f api.Effect) bool {
		return e.Key == f.Key && e.Gone == f.Gone && equalItems(e.Item, f.Item)
	})
}

func equalReplies(a, b api.Reply) bool {
	return a.Kind == b.Kind && a.S == b.S && a.N == b.N && slices.EqualFunc(a.L, b.L, equalReplies)
}

func equalSpaces(a, b []api.Pair) bool {
	return slices.EqualFunc(a, b, func(p, q api.Pair) bool { return p.Key == q.Key && equalItems(p.Item, q.Item) })
}

// inLetters are the words with the name in capital, small and mixed letters.
func inLetters(words []string) [][]string {
	if len(words) == 0 {
		return [][]string{words}
	}
	upper, lower := strings.ToUpper(words[0]), strings.ToLower(words[0])
	mixed, mixedToo := "", ""
	for i := range min(len(upper), len(lower)) {
		pair := []string{upper[i : i+1], lower[i : i+1]}
		mixed, mixedToo = mixed+pair[i%2], mixedToo+pair[1-i%2]
	}
	var all [][]string
	for _, name := range []string{upper, lower, mixed, mixedToo} {
		all = append(all, append([]string{name}, words[1:]...))
	}
	return all
}

// checkCall holds one call against the judge, and against 12.2 and 12.3.
func checkCall(t *testing.T, db []api.Pair, words []string, now int) {
	t.Helper()
	r, l := Exec(db, words, now)
	wantR, wantL := judged(db, words, now)
	if !equalReplies(r, wantR) || !equalEffects(l, wantL) {
		t.Errorf("12.1: %s at %d: %s %s, want %s %s", tellWords(words), now, tellReply(r), tellEffects(l), tellReply(wantR), tellEffects(wantL))
	}
	if r.Kind == api.RError && len(l) != 0 {
		t.Errorf("12.3: %s at %d: %s %s", tellWords(words), now, tellReply(r), tellEffects(l))
	}
	spec, _ := cmd.Check(words)
	for _, e := range l {
		was, had := space.Raw(db, e.Key)
		if !spec.Write && (!had || item.Alive(was, now) || !e.Gone) {
			t.Errorf("12.2: %s at %d: %s", tellWords(words), now, tellEffects(l))
		}
		if e.Gone && !equalItems(e.Item, api.Item{}) {
			t.Errorf("R4: %s at %d: an item beside Gone: %s", tellWords(words), now, tellItem(e.Item))
		}
		if !e.Gone && !item.May(e.Item) {
			t.Errorf("12.1: %s at %d: not valid: %s", tellWords(words), now, tellEffects(l))
		}
	}
}

// wanted is a call of the sample at 100, its words parted by single blanks, with
// what it is to answer.
type wanted struct{ words, reply, effects string }

// filled is a text in which X and a number of three digits stands for so many x, and
// _ for a blank within a word.
func filled(s string) string {
	for _, n := range []int{301, 300, 299, 298, 297, 296, 295} {
		s = strings.ReplaceAll(s, "X"+strconv.Itoa(n), times(n))
	}
	return strings.ReplaceAll(s, "_", " ")
}

func words(s string) []string {
	var l []string
	for _, word := range strings.Split(s, " ") {
		l = append(l, filled(word))
	}
	return l
}

func checkAll(t *testing.T, all []wanted) {
	t.Helper()
	db := sample()
	if !space.May(db) {
		t.Fatal("the tests' own space isn't valid")
	}
	for _, c := range all {
		for _, l := range inLetters(words(c.words)) {
			r, effects := Exec(db, l, 100)
			if tellReply(r) != c.reply || tellEffects(effects) != c.effects {
				t.Errorf("12.1: %s: %s %s, want %s %s", tellWords(l), tellReply(r), tellEffects(effects), c.reply, c.effects)
			}
			checkCall(t, db, l, 100)
		}
	}
	if !equalSpaces(db, sample()) {
		t.Error("R3: the space is changed")
	}
}

func TestNoCalls(t *testing.T) {
	db := sample()
	l := [][]string{nil, {}, {""}, {"", ""}, {" "}, {"NIX"}, {"GETT", "t"}, {"GE", "t"}, {" GET", "t"}, {"GET ", "t"}, {"GET\x00", "t"}, {"g\xe9t", "t"}, {"t"}, {"t", "GET"}, {"WRONGTYPE"}, {"GET", times(41)}, {"SET", times(41), "v"}, {"MGET", "t", times(41)}, {"MSET", "t", "1", times(41), "1"}, {"RENAME", "t", times(41)}, {"RENAME", times(41), "t"}, {"SMOVE", "s", times(41), "a"}, {"SINTER", "s", times(41)}, {"DEL", times(41), "dead"},
		// Of words that are no call nothing else is told: no other Kind, no dead key.
		{"GET", "l", "l"}, {"GET", "dead", "dead"}, {"MGET"}, {"LLEN", "t", "t"}, {"TYPE", "dead", "t"}}
	for _, name := range cmd.Names() {
		spec, _ := cmd.Find(name)
		for n := range 106 {
			row := append([]string{name}, slices.Repeat([]string{"dead"}, n)...)
			if _, ok := cmd.Check(row); !ok {
				l = append(l, row)
			}
		}
		// One word too few, and one too many.
		l = append(l, slices.Repeat([]string{name}, spec.Least-1))
		if spec.Most > 0 {
			l = append(l, slices.Repeat([]string{name}, spec.Most+1))
		}
	}
	for _, s := range []string{"MSET t", "MSET t 1 x", "MSET t 1 dead 2 n", "MSETNX x", "MSETNX x 1 y", "HSET h", "HSET h a", "HSET h a 1 b", "hset dead a 1 b"} {
		l = append(l, strings.Split(s, " "))
	}
	// The capital of ſ is an S, but it is none of the letters a to z.
	if r, effects := Exec(db, []string{"ſet", "t", "v"}, 100); !equalReplies(r, fault) || len(effects) != 0 {
		t.Errorf("12.1: a letter that is no s: %s %s", tellReply(r), tellEffects(effects))
	}
	for _, row := range l {
		for _, row := range inLetters(row) {
			if r, effects := Exec(db, row, 100); !equalReplies(r, fault) || len(effects) != 0 {
				t.Errorf("12.1: %s: %s %s", tellWords(row), tellReply(r), tellEffects(effects))
			}
		}
	}
}

func TestChapterExample(t *testing.T) {
	for _, db := range [][]api.Pair{nil, {}, sample()} {
		if r, l := Exec(db, []string{"GET", "missing"}, 100); !equalReplies(r, api.Reply{Kind: api.RNil}) || len(l) != 0 {
			t.Errorf("12.1: GET of a missing key: %s %s", tellReply(r), tellEffects(l))
		}
	}
}

func TestSetting(t *testing.T) {
	checkAll(t, []wanted{
		{"PING", "+PONG", ""}, {"PING x", "-ERR", ""},
		{"SET x v", "+OK", `x="v"`}, {"SET x ", "+OK", `x=""`}, {"SET t v", "+OK", `t="v"`}, {"SET t abc", "+OK", ""}, {"SET n 10", "+OK", `n="10"`}, {"SET n 11", "+OK", `n="11"`}, {"SET h v", "+OK", `h="v"`}, {"SET l1 v", "+OK", `l1="v"`}, {"SET s2 v", "+OK", `s2="v"`}, {"SET dead d", "+OK", `dead="d"`}, {"SET dead_list d", "+OK", `dead list="d"`}, {"SET e ", "+OK", ""}, {"SET  v", "+OK", `="v"`}, {"SET x X300", "+OK", "x=" + short(times(300))}, {"SET x X301", "-ERR", ""}, {"SET t X301", "-ERR", ""}, {"SET dead X301", "-ERR", ""},
		{"SETNX x v", "1", `x="v"`}, {"SETNX x ", "1", `x=""`}, {"SETNX t v", "0", ""}, {"SETNX t abc", "0", ""}, {"SETNX l v", "0", ""}, {"SETNX n 10", "0", ""}, {"SETNX e ", "0", ""}, {"SETNX dead v", "1", `dead="v"`}, {"SETNX dead_set v", "1", `dead set="v"`}, {"SETNX x X300", "1", "x=" + short(times(300))}, {"SETNX x X301", "-ERR", ""}, {"SETNX t X301", "0", ""}, {"SETNX l X301", "0", ""}, {"SETNX dead X301", "-ERR", ""},
		{"SETEX x 1 v", "+OK", `x="v"@101`}, {"SETEX x 2 ", "+OK", `x=""@102`}, {"SETEX t 5 v", "+OK", `t="v"@105`}, {"SETEX t 5 abc", "+OK", `t="abc"@105`}, {"SETEX n 400 10", "+OK", ""}, {"SETEX n 401 10", "+OK", `n="10"@501`}, {"SETEX l 5 v", "+OK", `l="v"@105`}, {"SETEX dead 1 d", "+OK", `dead="d"@101`}, {"SETEX x 1099511627775 v", "+OK", `x="v"@1099511627875`}, {"SETEX x 1099511627776 v", "+OK", `x="v"@1099511627876`}, {"SETEX x 1099511627777 v", "-ERR", ""}, {"SETEX x 0 v", "-ERR", ""}, {"SETEX x -1 v", "-ERR", ""}, {"SETEX t -1099511627776 v", "-ERR", ""}, {"SETEX x 9223372036854775807 v", "-ERR", ""}, {"SETEX x -9223372036854775808 v", "-ERR", ""}, {"SETEX x 9223372036854775808 v", "-ERR", ""}, {"SETEX x y v", "-ERR", ""}, {"SETEX x 01 v", "-ERR", ""}, {"SETEX x  v", "-ERR", ""}, {"SETEX x v 1", "-ERR", ""}, {"SETEX x 5 X301", "-ERR", ""}, {"SETEX x 5 X300", "+OK", "x=" + short(times(300)) + "@105"}, {"SETEX dead y v", "-ERR", ""}, {"SETEX dead 0 v", "-ERR", ""},
		{"GETSET t v", `"abc"`, `t="v"`}, {"GETSET t abc", `"abc"`, ""}, {"GETSET n 10", `"10"`, `n="10"`}, {"GETSET n 11", `"10"`, `n="11"`}, {"GETSET x v", "nil", `x="v"`}, {"GETSET x ", "nil", `x=""`}, {"GETSET e v", `""`, `e="v"`}, {"GETSET dead v", "nil", `dead="v"`}, {"GETSET dead d", "nil", `dead="d"`}, {"GETSET dead_hash v", "nil", `dead hash="v"`}, {"GETSET h v", "-WRONGTYPE", ""}, {"GETSET l v", "-WRONGTYPE", ""}, {"GETSET s v", "-WRONGTYPE", ""}, {"GETSET l X301", "-WRONGTYPE", ""}, {"GETSET t X301", "-ERR", ""}, {"GETSET dead X301", "-ERR", ""}, {"GETSET t X300", `"abc"`, "t=" + short(times(300))},
	})
}

func TestManyTexts(t *testing.T) {
	long := times(40)
	checkAll(t, []wanted{
		{"MGET t", `["abc"]`, ""}, {"MGET x", "[nil]", ""}, {"MGET e", `[""]`, ""}, {"MGET ", `["empty key"]`, ""}, {"MGET t x h l s dead n t " + long, `["abc" nil nil nil nil nil "10" "abc" "long key"]`, "-dead"}, {"MGET dead_set dead dead_set t dead_hash dead_list", `[nil nil nil "abc" nil nil]`, "-dead set, -dead, -dead hash, -dead list"},
		{"MSET x 1", "+OK", `x="1"`}, {"MSET t 1 x 2", "+OK", `t="1", x="2"`}, {"MSET x 1 t 2", "+OK", `x="1", t="2"`}, {"MSET t 1 x 2 t 3", "+OK", `t="3", x="2"`}, {"MSET t 1 t abc", "+OK", ""}, {"MSET t abc n 10 e ", "+OK", `n="10"`}, {"MSET l 1 dead d s 2", "+OK", `l="1", dead="d", s="2"`}, {"MSET  1  2", "+OK", `="2"`}, {"MSET t X300 x X300", "+OK", "t=" + short(times(300)) + ", x=" + short(times(300))}, {"MSET t 1 x X301", "-ERR", ""}, {"MSET t X301 x 1", "-ERR", ""}, {"MSET t 1 t X301", "-ERR", ""}, {"MSET dead 1 t X301", "-ERR", ""},
		// One after the other, and the first one would give t what isn't valid.
		{"MSET t X301 t 1", "-ERR", ""}, {"MSETNX x X301 x 1", "-ERR", ""},
		{"MSETNX x 1 y 2", "1", `x="1", y="2"`}, {"MSETNX x 1 x 2", "1", `x="2"`}, {"MSETNX x 1 t 2", "0", ""}, {"MSETNX t 1 x 2", "0", ""}, {"MSETNX x 1 l 2", "0", ""}, {"MSETNX h 1", "0", ""}, {"MSETNX t abc", "0", ""}, {"MSETNX x 1 dead 2", "1", `x="1", dead="2"`}, {"MSETNX dead_hash 1 y 2", "1", `dead hash="1", y="2"`}, {"MSETNX dead 1 t 2", "0", "-dead"}, {"MSETNX x X301", "-ERR", ""}, {"MSETNX x X301 t 1", "0", ""}, {"MSETNX t X301", "0", ""}, {"MSETNX x X300", "1", "x=" + short(times(300))}, {"MSETNX dead X301", "-ERR", ""},
	})
}

func TestKeysOfAnyKind(t *testing.T) {
	long := times(40)
	checkAll(t, []wanted{
		{"DEL t", "1", "-t"}, {"DEL x", "0", ""}, {"DEL ", "1", "-"}, {"DEL " + long, "1", "-" + long}, {"DEL t x t l dead", "2", "-t, -l, -dead"}, {"DEL h l s n", "4", "-h, -l, -s, -n"}, {"DEL s n h l", "4", "-s, -n, -h, -l"}, {"DEL dead dead_list", "0", "-dead, -dead list"}, {"DEL t t t", "1", "-t"},
		{"EXISTS t", "1", ""}, {"EXISTS x", "0", ""}, {"EXISTS ", "1", ""}, {"EXISTS t t x dead t", "3", "-dead"}, {"EXISTS h l s e n", "5", ""}, {"EXISTS dead dead", "0", "-dead"},
		{"TYPE t", "+string", ""}, {"TYPE h", "+hash", ""}, {"TYPE l", "+list", ""}, {"TYPE s", "+set", ""}, {"TYPE x", "+none", ""}, {"TYPE dead_hash", "+none", "-dead hash"}, {"TYPE n", "+string", ""}, {"TYPE s2", "+set", ""},
		{"EXPIRE t 7", "1", `t="abc"@107`}, {"EXPIRE t 1", "1", `t="abc"@101`}, {"EXPIRE t 0", "1", "-t"}, {"EXPIRE l -5", "1", "-l"}, {"EXPIRE l 5", "1", "l=[x y x z]@105"}, {"EXPIRE h 5", "1", "h={a:1 b:x}@105"}, {"EXPIRE s 5", "1", "s=<a b c>@105"}, {"EXPIRE n 400", "1", ""}, {"EXPIRE n 399", "1", `n="10"@499`}, {"EXPIRE n 401", "1", `n="10"@501`}, {"EXPIRE x 5", "0", ""}, {"EXPIRE x 0", "0", ""}, {"EXPIRE x -5", "0", ""}, {"EXPIRE dead 5", "0", "-dead"}, {"EXPIRE dead -5", "0", "-dead"}, {"EXPIRE t 1099511627776", "1", `t="abc"@1099511627876`}, {"EXPIRE t 1099511627777", "-ERR", ""}, {"EXPIRE t -1099511627776", "1", "-t"}, {"EXPIRE t -1099511627777", "-ERR", ""}, {"EXPIRE x 1099511627777", "-ERR", ""}, {"EXPIRE x -1099511627777", "-ERR", ""}, {"EXPIRE dead 1099511627777", "-ERR", ""}, {"EXPIRE x 1099511627776", "0", ""}, {"EXPIRE x -1099511627776", "0", ""}, {"EXPIRE t 9223372036854775807", "-ERR", ""}, {"EXPIRE t -9223372036854775808", "-ERR", ""}, {"EXPIRE t 9223372036854775808", "-ERR", ""}, {"EXPIRE t y", "-ERR", ""}, {"EXPIRE x y", "-ERR", ""}, {"EXPIRE t 05", "-ERR", ""}, {"EXPIRE dead y", "-ERR", ""}, {"EXPIRE t ", "-ERR", ""},
		{"TTL n", "400", ""}, {"TTL s2", "1", ""}, {"TTL ", "1", ""}, {"TTL t", "-1", ""}, {"TTL h", "-1", ""}, {"TTL x", "-2", ""}, {"TTL dead", "-2", "-dead"}, {"TTL dead_set", "-2", "-dead set"}, {"TTL l1", "400", ""},
		{"PERSIST n", "1", `n="10"`}, {"PERSIST s2", "1", "s2=<b d>"}, {"PERSIST h1", "1", "h1={a:5}"}, {"PERSIST l1", "1", "l1=[x]"}, {"PERSIST t", "0", ""}, {"PERSIST x", "0", ""}, {"PERSIST dead", "0", "-dead"},
		{"RENAME t x", "+OK", `-t, x="abc"`}, {"RENAME n l", "+OK", `-n, l="10"@500`}, {"RENAME l n", "+OK", "-l, n=[x y x z]"}, {"RENAME h1 h", "+OK", "-h1, h={a:5}@500"}, {"RENAME s2 s", "+OK", "-s2, s=<b d>@101"}, {"RENAME x t", "-ERR", ""}, {"RENAME x dead", "-ERR", ""}, {"RENAME dead t", "-ERR", ""}, {"RENAME dead x", "-ERR", ""}, {"RENAME dead dead", "-ERR", ""}, {"RENAME x x", "-ERR", ""}, {"RENAME t t", "+OK", ""}, {"RENAME n n", "+OK", ""}, {"RENAME l l", "+OK", ""}, {"RENAME t dead", "+OK", `-t, dead="abc"`}, {"RENAME n dead_list", "+OK", `-n, dead list="10"@500`}, {"RENAME t ", "+OK", `-t, ="abc"`}, {"RENAME  t", "+OK", `-, t="empty key"@101`}, {"RENAME t " + long, "+OK", "-t, " + long + `="abc"`}, {"RENAME " + long + " t", "+OK", "-" + long + `, t="long key"`},
	})
}

func TestTexts(t *testing.T) {
	checkAll(t, []wanted{
		{"GET t", `"abc"`, ""}, {"GET e", `""`, ""}, {"GET ", `"empty key"`, ""}, {"GET x", "nil", ""}, {"GET n", `"10"`, ""}, {"GET dead", "nil", "-dead"}, {"GET dead_set", "nil", "-dead set"}, {"GET h", "-WRONGTYPE", ""}, {"GET l", "-WRONGTYPE", ""}, {"GET s", "-WRONGTYPE", ""},
		{"APPEND t de", "5", `t="abcde"`}, {"APPEND t ", "3", ""}, {"APPEND n 5", "3", `n="105"@500`}, {"APPEND x v", "1", `x="v"`}, {"APPEND x ", "0", `x=""`}, {"APPEND e ", "0", ""}, {"APPEND dead v", "1", `dead="v"`}, {"APPEND dead ", "0", `dead=""`}, {"APPEND t X297", "300", "t=" + short("abc"+times(297))}, {"APPEND t X298", "-ERR", ""}, {"APPEND x X300", "300", "x=" + short(times(300))}, {"APPEND x X301", "-ERR", ""}, {"APPEND full_text ", "300", ""}, {"APPEND full_text x", "-ERR", ""}, {"APPEND dead X300", "300", "dead=" + short(times(300))}, {"APPEND l v", "-WRONGTYPE", ""}, {"APPEND l X301", "-WRONGTYPE", ""},
		{"STRLEN t", "3", ""}, {"STRLEN e", "0", ""}, {"STRLEN x", "0", ""}, {"STRLEN full_text", "300", ""}, {"STRLEN dead", "0", "-dead"}, {"STRLEN s", "-WRONGTYPE", ""},
		{"GETRANGE t 0 -1", `"abc"`, ""}, {"GETRANGE t -2 -1", `"bc"`, ""}, {"GETRANGE t 1 1", `"b"`, ""}, {"GETRANGE t -9 0", `"a"`, ""}, {"GETRANGE t 2 9", `"c"`, ""}, {"GETRANGE t 3 9", `""`, ""}, {"GETRANGE t 2 1", `""`, ""}, {"GETRANGE t 0 -9", `""`, ""}, {"GETRANGE t -9223372036854775808 9223372036854775807", `"abc"`, ""}, {"GETRANGE t 9223372036854775807 -9223372036854775808", `""`, ""}, {"GETRANGE t 0 9223372036854775808", "-ERR", ""}, {"GETRANGE t -9223372036854775809 1", "-ERR", ""}, {"GETRANGE x 0 -1", `""`, ""}, {"GETRANGE e 0 -1", `""`, ""}, {"GETRANGE dead 0 -1", `""`, "-dead"}, {"GETRANGE t y 0", "-ERR", ""}, {"GETRANGE t 0 y", "-ERR", ""}, {"GETRANGE t 00 1", "-ERR", ""}, {"GETRANGE t 0 +1", "-ERR", ""}, {"GETRANGE t -0 1", "-ERR", ""}, {"GETRANGE x 0 y", "-ERR", ""}, {"GETRANGE dead 0 y", "-ERR", ""}, {"GETRANGE l 0 y", "-WRONGTYPE", ""}, {"GETRANGE l y 0", "-WRONGTYPE", ""}, {"GETRANGE l 0 1", "-WRONGTYPE", ""},
		{"SETRANGE t 1 ZZ", "3", `t="aZZ"`}, {"SETRANGE t 1 Z", "3", `t="aZc"`}, {"SETRANGE t 3 Z", "4", `t="abcZ"`}, {"SETRANGE t 5 Z", "6", `t="abc\x00\x00Z"`}, {"SETRANGE t 0 abc", "3", ""}, {"SETRANGE t 1 bc", "3", ""}, {"SETRANGE x 2 a", "3", `x="\x00\x00a"`}, {"SETRANGE x 0 a", "1", `x="a"`}, {"SETRANGE n 0 9", "2", `n="90"@500`}, {"SETRANGE dead 1 a", "2", `dead="\x00a"`}, {"SETRANGE t 299 a", "300", "t=" + short("abc"+strings.Repeat("\x00", 296)+"a")}, {"SETRANGE t 300 a", "-ERR", ""}, {"SETRANGE t 299 ab", "-ERR", ""}, {"SETRANGE t 0 X300", "300", "t=" + short(times(300))}, {"SETRANGE t 0 X301", "-ERR", ""}, {"SETRANGE t 1 X300", "-ERR", ""}, {"SETRANGE t -1 a", "-ERR", ""}, {"SETRANGE t 9223372036854775807 a", "-ERR", ""}, {"SETRANGE t -9223372036854775808 a", "-ERR", ""}, {"SETRANGE t y a", "-ERR", ""}, {"SETRANGE x y a", "-ERR", ""}, {"SETRANGE dead y a", "-ERR", ""}, {"SETRANGE dead 300 a", "-ERR", ""}, {"SETRANGE full_text 0 x", "300", ""}, {"SETRANGE full_text 0 y", "300", "full text=" + short("y"+times(299)) + "@500"}, {"SETRANGE l 0 a", "-WRONGTYPE", ""}, {"SETRANGE l y a", "-WRONGTYPE", ""}, {"SETRANGE l -1 a", "-WRONGTYPE", ""},
		{"SETRANGE t 0 ", "3", ""}, {"SETRANGE t 9 ", "3", ""}, {"SETRANGE t 300 ", "3", ""}, {"SETRANGE t 301 ", "-ERR", ""}, {"SETRANGE t -1 ", "-ERR", ""}, {"SETRANGE x 0 ", "0", ""}, {"SETRANGE x 5 ", "0", ""}, {"SETRANGE x 300 ", "0", ""}, {"SETRANGE x 301 ", "-ERR", ""}, {"SETRANGE x -1 ", "-ERR", ""}, {"SETRANGE e 0 ", "0", ""}, {"SETRANGE e 7 ", "0", ""}, {"SETRANGE dead 0 ", "0", "-dead"}, {"SETRANGE dead 300 ", "0", "-dead"}, {"SETRANGE dead 301 ", "-ERR", ""}, {"SETRANGE full_text 300 ", "300", ""}, {"SETRANGE x y ", "-ERR", ""},
	})
}

func TestNumbersInTexts(t *testing.T) {
	checkAll(t, []wanted{
		{"INCR n", "11", `n="11"@500`}, {"INCR x", "1", `x="1"`}, {"INCR dead", "1", `dead="1"`}, {"INCR dead_list", "1", `dead list="1"`}, {"INCR min", "-9223372036854775807", `min="-9223372036854775807"`}, {"INCR max", "-ERR", ""}, {"INCR t", "-ERR", ""}, {"INCR e", "-ERR", ""}, {"INCR ", "-ERR", ""}, {"INCR full_text", "-ERR", ""}, {"INCR h", "-WRONGTYPE", ""}, {"INCR l", "-WRONGTYPE", ""}, {"INCR s", "-WRONGTYPE", ""},
		{"DECR n", "9", `n="9"@500`}, {"DECR x", "-1", `x="-1"`}, {"DECR dead", "-1", `dead="-1"`}, {"DECR max", "9223372036854775806", `max="9223372036854775806"`}, {"DECR min", "-ERR", ""}, {"DECR t", "-ERR", ""}, {"DECR e", "-ERR", ""}, {"DECR h", "-WRONGTYPE", ""},
		{"INCRBY n 0", "10", ""}, {"INCRBY n 5", "15", `n="15"@500`}, {"INCRBY n -15", "-5", `n="-5"@500`}, {"INCRBY n -10", "0", `n="0"@500`}, {"INCRBY x 0", "0", `x="0"`}, {"INCRBY x 9223372036854775807", "9223372036854775807", `x="9223372036854775807"`}, {"INCRBY x -9223372036854775808", "-9223372036854775808", `x="-9223372036854775808"`}, {"INCRBY n 9223372036854775797", "9223372036854775807", `n="9223372036854775807"@500`}, {"INCRBY n 9223372036854775798", "-ERR", ""}, {"INCRBY n -9223372036854775808", "-9223372036854775798", `n="-9223372036854775798"@500`}, {"INCRBY max -9223372036854775808", "-1", `max="-1"`}, {"INCRBY min 9223372036854775807", "-1", `min="-1"`}, {"INCRBY min -1", "-ERR", ""}, {"INCRBY max 1", "-ERR", ""}, {"INCRBY max 0", "9223372036854775807", ""}, {"INCRBY n 9223372036854775808", "-ERR", ""}, {"INCRBY n -9223372036854775809", "-ERR", ""}, {"INCRBY n y", "-ERR", ""}, {"INCRBY x y", "-ERR", ""}, {"INCRBY x 1.0", "-ERR", ""}, {"INCRBY x ", "-ERR", ""}, {"INCRBY t 1", "-ERR", ""}, {"INCRBY t 0", "-ERR", ""}, {"INCRBY e 0", "-ERR", ""}, {"INCRBY dead 0", "0", `dead="0"`}, {"INCRBY dead y", "-ERR", ""}, {"INCRBY l y", "-WRONGTYPE", ""}, {"INCRBY l 1", "-WRONGTYPE", ""},
		{"DECRBY n 0", "10", ""}, {"DECRBY n 3", "7", `n="7"@500`}, {"DECRBY n -3", "13", `n="13"@500`}, {"DECRBY x 5", "-5", `x="-5"`}, {"DECRBY x 0", "0", `x="0"`}, {"DECRBY x 9223372036854775807", "-9223372036854775807", `x="-9223372036854775807"`}, {"DECRBY x -9223372036854775807", "9223372036854775807", `x="9223372036854775807"`}, {"DECRBY x -9223372036854775808", "-ERR", ""}, {"DECRBY min -9223372036854775808", "-ERR", ""}, {"DECRBY t -9223372036854775808", "-ERR", ""}, {"DECRBY l -9223372036854775808", "-WRONGTYPE", ""}, {"DECRBY dead -9223372036854775808", "-ERR", ""}, {"DECRBY min 1", "-ERR", ""}, {"DECRBY min -9223372036854775807", "-1", `min="-1"`}, {"DECRBY max -1", "-ERR", ""}, {"DECRBY max 9223372036854775807", "0", `max="0"`}, {"DECRBY n -9223372036854775798", "-ERR", ""}, {"DECRBY n -9223372036854775797", "9223372036854775807", `n="9223372036854775807"@500`}, {"DECRBY n y", "-ERR", ""}, {"DECRBY t 1", "-ERR", ""}, {"DECRBY dead 4", "-4", `dead="-4"`}, {"DECRBY s y", "-WRONGTYPE", ""},
	})
}

func TestHashes(t *testing.T) {
	long := times(300)
	checkAll(t, []wanted{
		{"HSET h c 3", "1", "h={a:1 b:x c:3}"}, {"HSET h c 3 a 9 c 4", "1", "h={a:9 b:x c:4}"}, {"HSET h a 1", "0", ""}, {"HSET h a 2 a 1", "0", ""}, {"HSET h b x a 1", "0", ""}, {"HSET h  z", "1", "h={:z a:1 b:x}"}, {"HSET h a ", "0", "h={a: b:x}"}, {"HSET x f v", "1", "x={f:v}"}, {"HSET x g 1 f 2 g 3", "2", "x={f:2 g:3}"}, {"HSET x  ", "1", "x={:}"}, {"HSET h1 b 1", "1", "h1={a:5 b:1}@500"}, {"HSET dead_hash b 2", "1", "dead hash={b:2}"}, {"HSET dead_hash a 1", "1", "dead hash={a:1}"}, {"HSET dead b 2", "1", "dead={b:2}"}, {"HSET h c X300", "1", "h={a:1 b:x c:" + long + "}"}, {"HSET h c X301", "-ERR", ""}, {"HSET h X300 c", "1", "h={a:1 b:x " + long + ":c}"}, {"HSET h X301 c", "-ERR", ""}, {"HSET h c 1 d X301", "-ERR", ""}, {"HSET h X301 1 d 1", "-ERR", ""}, {"HSET h a X301", "-ERR", ""}, {"HSET full_hash a 1", "-ERR", ""}, {"HSET full_hash m101 0", "0", ""}, {"HSET full_hash m101 0 a 1", "-ERR", ""}, {"HSET dead_hash a X301", "-ERR", ""}, {"HSET t f v", "-WRONGTYPE", ""}, {"HSET l f v", "-WRONGTYPE", ""}, {"HSET s f v", "-WRONGTYPE", ""}, {"HSET t f X301", "-WRONGTYPE", ""},
		// The key gets one item, the last one, which is valid.
		{"HSET x a X301 a 1", "1", "x={a:1}"}, {"HSET h a X301 c 1 a 1", "1", "h={a:1 b:x c:1}"},
		{"HGET h a", `"1"`, ""}, {"HGET h z", "nil", ""}, {"HGET h A", "nil", ""}, {"HGET h ", "nil", ""}, {"HGET h2 ", `""`, ""}, {"HGET x a", "nil", ""}, {"HGET h X301", "nil", ""}, {"HGET dead_hash a", "nil", "-dead hash"}, {"HGET dead a", "nil", "-dead"}, {"HGET t a", "-WRONGTYPE", ""},
		{"HDEL h a", "1", "h={b:x}"}, {"HDEL h a z a", "1", "h={b:x}"}, {"HDEL h z", "0", ""}, {"HDEL h a b", "2", "-h"}, {"HDEL h b a a", "2", "-h"}, {"HDEL h1 a", "1", "-h1"}, {"HDEL h2 a", "1", "h2={: b:-9223372036854775808 c:01 d:" + long + "}"}, {"HDEL x a", "0", ""}, {"HDEL h X301", "0", ""}, {"HDEL dead_hash a", "0", "-dead hash"}, {"HDEL s a", "-WRONGTYPE", ""},
		{"HLEN h", "2", ""}, {"HLEN h1", "1", ""}, {"HLEN full_hash", "40", ""}, {"HLEN x", "0", ""}, {"HLEN dead_hash", "0", "-dead hash"}, {"HLEN l", "-WRONGTYPE", ""},
		{"HEXISTS h a", "1", ""}, {"HEXISTS h z", "0", ""}, {"HEXISTS h2 ", "1", ""}, {"HEXISTS x a", "0", ""}, {"HEXISTS dead_hash a", "0", "-dead hash"}, {"HEXISTS t a", "-WRONGTYPE", ""},
		{"HKEYS h", `["a" "b"]`, ""}, {"HKEYS x", "[]", ""}, {"HKEYS h1", `["a"]`, ""}, {"HKEYS dead_hash", "[]", "-dead hash"}, {"HKEYS t", "-WRONGTYPE", ""}, {"HVALS h", `["1" "x"]`, ""}, {"HVALS x", "[]", ""}, {"HVALS dead_hash", "[]", "-dead hash"}, {"HVALS t", "-WRONGTYPE", ""}, {"HGETALL h", `["a" "1" "b" "x"]`, ""}, {"HGETALL h1", `["a" "5"]`, ""}, {"HGETALL x", "[]", ""}, {"HGETALL dead_hash", "[]", "-dead hash"}, {"HGETALL s", "-WRONGTYPE", ""},
		{"HMGET h b z a b", `["x" nil "1" "x"]`, ""}, {"HMGET h2  c", `["" "01"]`, ""}, {"HMGET x b a", "[nil nil]", ""}, {"HMGET dead_hash a", "[nil]", "-dead hash"}, {"HMGET l b", "-WRONGTYPE", ""},
		{"HINCRBY h a -3", "-2", "h={a:-2 b:x}"}, {"HINCRBY h a 0", "1", ""}, {"HINCRBY h c 7", "7", "h={a:1 b:x c:7}"}, {"HINCRBY h c 0", "0", "h={a:1 b:x c:0}"}, {"HINCRBY h1 a 1", "6", "h1={a:6}@500"}, {"HINCRBY x f 5", "5", "x={f:5}"}, {"HINCRBY x  -5", "-5", "x={:-5}"}, {"HINCRBY dead_hash a 5", "5", "dead hash={a:5}"}, {"HINCRBY h b 1", "-ERR", ""}, {"HINCRBY h2  1", "-ERR", ""}, {"HINCRBY h2 c 1", "-ERR", ""}, {"HINCRBY h2 a 1", "-ERR", ""}, {"HINCRBY h2 b -1", "-ERR", ""}, {"HINCRBY h2 a -9223372036854775808", "-1", "h2={: a:-1 b:-9223372036854775808 c:01 d:" + long + "}"}, {"HINCRBY x f -9223372036854775808", "-9223372036854775808", "x={f:-9223372036854775808}"}, {"HINCRBY x f 9223372036854775807", "9223372036854775807", "x={f:9223372036854775807}"}, {"HINCRBY x f 9223372036854775808", "-ERR", ""}, {"HINCRBY h a 9223372036854775806", "9223372036854775807", "h={a:9223372036854775807 b:x}"}, {"HINCRBY h a 9223372036854775807", "-ERR", ""}, {"HINCRBY h a y", "-ERR", ""}, {"HINCRBY x f y", "-ERR", ""}, {"HINCRBY x 5 y", "-ERR", ""}, {"HINCRBY dead_hash a y", "-ERR", ""}, {"HINCRBY x X300 1", "1", "x={" + long + ":1}"}, {"HINCRBY x X301 1", "-ERR", ""}, {"HINCRBY full_hash a 1", "-ERR", ""}, {"HINCRBY full_hash m101 0", "0", ""}, {"HINCRBY t a y", "-WRONGTYPE", ""}, {"HINCRBY t a 1", "-WRONGTYPE", ""},
	})
}

func TestLists(t *testing.T) {
	long := times(300)
	many, tooMany := strings.Repeat(" v", 36), strings.Repeat(" v", 37)
	checkAll(t, []wanted{
		{"LPUSH l a b", "6", "l=[b a x y x z]"}, {"LPUSH x a b c", "3", "x=[c b a]"}, {"LPUSH l1 a", "2", "l1=[a x]@500"}, {"LPUSH dead_list a", "1", "dead list=[a]"}, {"LPUSH dead_list y x", "2", "dead list=[x y]"}, {"LPUSH dead a a", "2", "dead=[a a]"}, {"LPUSH x ", "1", "x=[]"}, {"LPUSH l" + many, "40", "l=[" + many[1:] + " x y x z]"}, {"LPUSH l" + tooMany, "-ERR", ""}, {"LPUSH full_list v", "-ERR", ""}, {"LPUSH x X300", "1", "x=[" + long + "]"}, {"LPUSH x X301", "-ERR", ""}, {"LPUSH x v X301 v", "-ERR", ""}, {"LPUSH t a", "-WRONGTYPE", ""}, {"LPUSH h a", "-WRONGTYPE", ""}, {"LPUSH s a", "-WRONGTYPE", ""}, {"LPUSH t" + tooMany, "-WRONGTYPE", ""},
		{"RPUSH l a b", "6", "l=[x y x z a b]"}, {"RPUSH x a b c", "3", "x=[a b c]"}, {"RPUSH l1 a", "2", "l1=[x a]@500"}, {"RPUSH dead_list a", "1", "dead list=[a]"}, {"RPUSH dead_list x y", "2", "dead list=[x y]"}, {"RPUSH l" + many, "40", "l=[x y x z" + many + "]"}, {"RPUSH l" + tooMany, "-ERR", ""}, {"RPUSH full_list v", "-ERR", ""}, {"RPUSH x X301", "-ERR", ""}, {"RPUSH s a", "-WRONGTYPE", ""},
		{"LPOP l", `"x"`, "l=[y x z]"}, {"LPOP l1", `"x"`, "-l1"}, {"LPOP l2", `""`, "l2=[ a " + long + "]"}, {"LPOP x", "nil", ""}, {"LPOP dead_list", "nil", "-dead list"}, {"LPOP s", "-WRONGTYPE", ""}, {"LPOP t", "-WRONGTYPE", ""},
		{"RPOP l", `"z"`, "l=[x y x]"}, {"RPOP l1", `"x"`, "-l1"}, {"RPOP x", "nil", ""}, {"RPOP dead_list", "nil", "-dead list"}, {"RPOP dead", "nil", "-dead"}, {"RPOP s", "-WRONGTYPE", ""},
		{"LLEN l", "4", ""}, {"LLEN full_list", "40", ""}, {"LLEN x", "0", ""}, {"LLEN dead_list", "0", "-dead list"}, {"LLEN s", "-WRONGTYPE", ""}, {"LLEN h", "-WRONGTYPE", ""},
		{"LRANGE l 0 -1", `["x" "y" "x" "z"]`, ""}, {"LRANGE l 1 -2", `["y" "x"]`, ""}, {"LRANGE l 3 3", `["z"]`, ""}, {"LRANGE l -99 0", `["x"]`, ""}, {"LRANGE l 3 99", `["z"]`, ""}, {"LRANGE l 5 9", "[]", ""}, {"LRANGE l 2 1", "[]", ""}, {"LRANGE l -9223372036854775808 9223372036854775807", `["x" "y" "x" "z"]`, ""}, {"LRANGE x 0 -1", "[]", ""}, {"LRANGE dead_list 0 -1", "[]", "-dead list"}, {"LRANGE l y 1", "-ERR", ""}, {"LRANGE l 1 y", "-ERR", ""}, {"LRANGE x 1 y", "-ERR", ""}, {"LRANGE l 0 9223372036854775808", "-ERR", ""}, {"LRANGE dead_list y y", "-ERR", ""}, {"LRANGE s y y", "-WRONGTYPE", ""}, {"LRANGE s 0 1", "-WRONGTYPE", ""},
		{"LINDEX l 0", `"x"`, ""}, {"LINDEX l 3", `"z"`, ""}, {"LINDEX l 4", "nil", ""}, {"LINDEX l -1", `"z"`, ""}, {"LINDEX l -4", `"x"`, ""}, {"LINDEX l -5", "nil", ""}, {"LINDEX l -9223372036854775808", "nil", ""}, {"LINDEX l 9223372036854775807", "nil", ""}, {"LINDEX l2 0", `""`, ""}, {"LINDEX x 0", "nil", ""}, {"LINDEX dead_list 0", "nil", "-dead list"}, {"LINDEX l y", "-ERR", ""}, {"LINDEX x y", "-ERR", ""}, {"LINDEX t y", "-WRONGTYPE", ""}, {"LINDEX s 0", "-WRONGTYPE", ""},
		{"LSET l 1 Y", "+OK", "l=[x Y x z]"}, {"LSET l -1 Y", "+OK", "l=[x y x Y]"}, {"LSET l 1 y", "+OK", ""}, {"LSET l1 0 Y", "+OK", "l1=[Y]@500"}, {"LSET l 0 ", "+OK", "l=[ y x z]"}, {"LSET l 4 Y", "-ERR", ""}, {"LSET l -5 Y", "-ERR", ""}, {"LSET l 9223372036854775807 Y", "-ERR", ""}, {"LSET x 0 Y", "-ERR", ""}, {"LSET dead_list 0 Y", "-ERR", ""}, {"LSET l y Y", "-ERR", ""}, {"LSET l 0 X300", "+OK", "l=[" + long + " y x z]"}, {"LSET l 0 X301", "-ERR", ""}, {"LSET s 0 Y", "-WRONGTYPE", ""}, {"LSET s y Y", "-WRONGTYPE", ""}, {"LSET s 9 Y", "-WRONGTYPE", ""},
		{"LTRIM l 1 2", "+OK", "l=[y x]"}, {"LTRIM l 0 -1", "+OK", ""}, {"LTRIM l -2 -1", "+OK", "l=[x z]"}, {"LTRIM l 9 9", "+OK", "-l"}, {"LTRIM l 2 1", "+OK", "-l"}, {"LTRIM l1 0 0", "+OK", ""}, {"LTRIM l1 1 1", "+OK", "-l1"}, {"LTRIM full_list 39 39", "+OK", "full list=[m140]@500"}, {"LTRIM x 0 1", "+OK", ""}, {"LTRIM dead_list 0 1", "+OK", "-dead list"}, {"LTRIM l y 1", "-ERR", ""}, {"LTRIM l 1 y", "-ERR", ""}, {"LTRIM x 1 y", "-ERR", ""}, {"LTRIM t 1 y", "-WRONGTYPE", ""},
		{"LREM l 0 x", "2", "l=[y z]"}, {"LREM l 1 x", "1", "l=[y x z]"}, {"LREM l -1 x", "1", "l=[x y z]"}, {"LREM l 2 x", "2", "l=[y z]"}, {"LREM l -9 x", "2", "l=[y z]"}, {"LREM l 9223372036854775807 x", "2", "l=[y z]"}, {"LREM l -9223372036854775808 x", "2", "l=[y z]"}, {"LREM l 1 q", "0", ""}, {"LREM l 0 X301", "0", ""}, {"LREM l1 0 x", "1", "-l1"}, {"LREM l2 1 ", "1", "l2=[ a " + long + "]"}, {"LREM x 0 x", "0", ""}, {"LREM dead_list 0 x", "0", "-dead list"}, {"LREM l y x", "-ERR", ""}, {"LREM x y x", "-ERR", ""}, {"LREM s y x", "-WRONGTYPE", ""}, {"LREM t 0 x", "-WRONGTYPE", ""},
	})
}

func TestSetsOfStrings(t *testing.T) {
	long := times(300)
	many, tooMany := strings.Join(rising(38), " "), strings.Join(rising(39), " ")
	short40 := strings.Join(rising(40)[1:], " ")
	quoted := `"` + strings.Join(rising(40), `" "`) + `"`
	checkAll(t, []wanted{
		{"SADD s d", "1", "s=<a b c d>"}, {"SADD s d a d", "1", "s=<a b c d>"}, {"SADD s b", "0", ""}, {"SADD s c b a", "0", ""}, {"SADD s ", "1", "s=< a b c>"}, {"SADD x b a b", "2", "x=<a b>"}, {"SADD x ", "1", "x=<>"}, {"SADD s2 e", "1", "s2=<b d e>@101"}, {"SADD dead_set c", "1", "dead set=<c>"}, {"SADD dead_set b a", "2", "dead set=<a b>"}, {"SADD dead a", "1", "dead=<a>"}, {"SADD x X300", "1", "x=<" + long + ">"}, {"SADD x X301", "-ERR", ""}, {"SADD s a X301", "-ERR", ""}, {"SADD s2 " + many, "38", "s2=<b d " + many + ">@101"}, {"SADD s2 " + tooMany, "-ERR", ""}, {"SADD full_set a", "-ERR", ""}, {"SADD full_set m101", "0", ""}, {"SADD t a", "-WRONGTYPE", ""}, {"SADD h a", "-WRONGTYPE", ""}, {"SADD l a", "-WRONGTYPE", ""}, {"SADD l X301", "-WRONGTYPE", ""},
		{"SREM s a", "1", "s=<b c>"}, {"SREM s a z a", "1", "s=<b c>"}, {"SREM s z", "0", ""}, {"SREM s c a b", "3", "-s"}, {"SREM s1 a", "1", "-s1"}, {"SREM s2 b", "1", "s2=<d>@101"}, {"SREM s3 ", "1", "s3=<a " + long + ">"}, {"SREM x a", "0", ""}, {"SREM s X301", "0", ""}, {"SREM dead_set a", "0", "-dead set"}, {"SREM l x", "-WRONGTYPE", ""},
		{"SCARD s", "3", ""}, {"SCARD full_set", "40", ""}, {"SCARD x", "0", ""}, {"SCARD dead_set", "0", "-dead set"}, {"SCARD l", "-WRONGTYPE", ""}, {"SCARD t", "-WRONGTYPE", ""},
		{"SISMEMBER s b", "1", ""}, {"SISMEMBER s z", "0", ""}, {"SISMEMBER s ", "0", ""}, {"SISMEMBER s3 ", "1", ""}, {"SISMEMBER x a", "0", ""}, {"SISMEMBER s X301", "0", ""}, {"SISMEMBER dead_set a", "0", "-dead set"}, {"SISMEMBER l x", "-WRONGTYPE", ""},
		{"SMEMBERS s", `["a" "b" "c"]`, ""}, {"SMEMBERS full_set", "[" + quoted + "]", ""}, {"SMEMBERS x", "[]", ""}, {"SMEMBERS dead_set", "[]", "-dead set"}, {"SMEMBERS l", "-WRONGTYPE", ""},
		{"SPOP s", `"a"`, "s=<b c>"}, {"SPOP s1", `"a"`, "-s1"}, {"SPOP s2", `"b"`, "s2=<d>@101"}, {"SPOP s3", `""`, "s3=<a " + long + ">"}, {"SPOP x", "nil", ""}, {"SPOP dead_set", "nil", "-dead set"}, {"SPOP l", "-WRONGTYPE", ""}, {"SPOP h", "-WRONGTYPE", ""},
		{"SMOVE s s2 a", "1", "s=<b c>, s2=<a b d>@101"}, {"SMOVE s2 s d", "1", "s2=<b>@101, s=<a b c d>"}, {"SMOVE s s2 z", "0", ""}, {"SMOVE s s2 d", "0", ""}, {"SMOVE s s2 b", "1", "s=<a c>"}, {"SMOVE s1 s a", "1", "-s1"}, {"SMOVE s1 x a", "1", "-s1, x=<a>"}, {"SMOVE s x a", "1", "s=<b c>, x=<a>"}, {"SMOVE x s a", "0", ""}, {"SMOVE x y a", "0", ""}, {"SMOVE x x a", "0", ""}, {"SMOVE s s a", "1", ""}, {"SMOVE s s z", "0", ""}, {"SMOVE s1 s1 a", "1", ""}, {"SMOVE full_set full_set m101", "1", ""}, {"SMOVE s dead_set a", "1", "s=<b c>, dead set=<a>"}, {"SMOVE s dead_set z", "0", "-dead set"}, {"SMOVE dead_set s a", "0", "-dead set"}, {"SMOVE dead_set dead_set a", "0", "-dead set"}, {"SMOVE dead dead_set a", "0", "-dead, -dead set"}, {"SMOVE s full_set a", "-ERR", ""}, {"SMOVE full_set s m101", "1", "full set=<" + short40 + ">@500, s=<a b c m101>"}, {"SMOVE s l a", "-WRONGTYPE", ""}, {"SMOVE s l z", "-WRONGTYPE", ""}, {"SMOVE l s a", "-WRONGTYPE", ""}, {"SMOVE x l z", "-WRONGTYPE", ""}, {"SMOVE l x z", "-WRONGTYPE", ""}, {"SMOVE l l x", "-WRONGTYPE", ""}, {"SMOVE dead_set l a", "-WRONGTYPE", ""}, {"SMOVE full_set l m101", "-WRONGTYPE", ""}, {"SMOVE s dead_list a", "1", "s=<b c>, dead list=<a>"},
		{"SINTER s", `["a" "b" "c"]`, ""}, {"SINTER x", "[]", ""}, {"SINTER s s2", `["b"]`, ""}, {"SINTER s s", `["a" "b" "c"]`, ""}, {"SINTER s s1 s3", `["a"]`, ""}, {"SINTER s s1 s2", "[]", ""}, {"SINTER s x", "[]", ""}, {"SINTER x s", "[]", ""}, {"SINTER s dead_set", "[]", "-dead set"}, {"SINTER s t", "-WRONGTYPE", ""}, {"SINTER x t", "-WRONGTYPE", ""}, {"SINTER dead_set l", "-WRONGTYPE", ""}, {"SINTER s s s s s h", "-WRONGTYPE", ""},
		{"SUNION s", `["a" "b" "c"]`, ""}, {"SUNION x", "[]", ""}, {"SUNION s x s2", `["a" "b" "c" "d"]`, ""}, {"SUNION s2 s", `["a" "b" "c" "d"]`, ""}, {"SUNION full_set s1", `["a" ` + quoted + "]", ""}, {"SUNION s1 s1 s1", `["a"]`, ""}, {"SUNION dead_set s1", `["a"]`, "-dead set"}, {"SUNION dead dead_hash", "[]", "-dead, -dead hash"}, {"SUNION s t", "-WRONGTYPE", ""}, {"SUNION h s", "-WRONGTYPE", ""},
		{"SDIFF s", `["a" "b" "c"]`, ""}, {"SDIFF x", "[]", ""}, {"SDIFF s s2", `["a" "c"]`, ""}, {"SDIFF s2 s", `["d"]`, ""}, {"SDIFF s s1 s2", `["c"]`, ""}, {"SDIFF s s", "[]", ""}, {"SDIFF s x", `["a" "b" "c"]`, ""}, {"SDIFF x s", "[]", ""}, {"SDIFF s x s", "[]", ""}, {"SDIFF s dead_set", `["a" "b" "c"]`, "-dead set"}, {"SDIFF dead_set s", "[]", "-dead set"}, {"SDIFF s t", "-WRONGTYPE", ""}, {"SDIFF l s", "-WRONGTYPE", ""}, {"SDIFF s dead_set dead_set dead t", "-WRONGTYPE", ""}, {"SDIFF s dead_set dead_set dead", `["a" "b" "c"]`, "-dead set, -dead"},
	})
}
