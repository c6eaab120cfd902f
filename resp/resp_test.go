package resp

import (
	"bytes"
	"math"
	"math/big"
	"math/rand/v2"
	"slices"
	"strconv"
	"strings"
	"testing"

	"caravan/api"
)

func simple(s string) api.Reply { return api.Reply{Kind: api.RSimple, S: s} }

func fault(s string) api.Reply { return api.Reply{Kind: api.RError, S: s} }

func num(n int) api.Reply { return api.Reply{Kind: api.RInt, N: n} }

func bulk(s string) api.Reply { return api.Reply{Kind: api.RBulk, S: s} }

func none() api.Reply { return api.Reply{Kind: api.RNil} }

func array(l ...api.Reply) api.Reply { return api.Reply{Kind: api.RArray, L: l} }

// deep is an array of so many levels: each has one element, the last has none.
func deep(levels int) api.Reply {
	return within(levels-1, array())
}

// within is a reply in so many arrays.
func within(levels int, r api.Reply) api.Reply {
	for range levels {
		r = array(r)
	}
	return r
}

// wide is an array that has a reply so many times.
func wide(n int, r api.Reply) api.Reply {
	return array(slices.Repeat([]api.Reply{r}, n)...)
}

func times(n int) string { return strings.Repeat("x", n) }

type valid struct {
	name string
	r    api.Reply
	put  string
}

// valids are valid replies with their encodings, written out by 3.2.
func valids() []valid {
	all := "\x00\x01\t\n\r\r\n\v $*+-:~\x7f\x80\xc3\xff"
	return []valid{
		{"a simple text", simple("OK"), "+OK\r\n"},
		{"the empty simple text", simple(""), "+\r\n"},
		{"a simple text like others", simple(":1*2$3-4+5"), "+:1*2$3-4+5\r\n"},
		{"a simple text of all but 13 and 10", simple("\x00\t\v\x0c\x0e é\x7f\x80\xff"), "+\x00\t\v\x0c\x0e é\x7f\x80\xff\r\n"},
		{"the longest simple text", simple(times(512)), "+" + times(512) + "\r\n"},
		{"the longest simple text of no runes", simple(strings.Repeat("\xff", 512)), "+" + strings.Repeat("\xff", 512) + "\r\n"},
		{"an error", fault("ERR no"), "-ERR no\r\n"},
		{"the empty error", fault(""), "-\r\n"},
		{"an error like nothing", fault("1"), "-1\r\n"},
		{"the longest error", fault(times(512)), "-" + times(512) + "\r\n"},
		{"0", num(0), ":0\r\n"},
		{"1", num(1), ":1\r\n"},
		{"-1", num(-1), ":-1\r\n"},
		{"10", num(10), ":10\r\n"},
		{"-10", num(-10), ":-10\r\n"},
		{"2^31", num(1 << 31), ":2147483648\r\n"},
		{"2^53+1", num(1<<53 + 1), ":9007199254740993\r\n"},
		{"the least number", num(math.MinInt), ":-9223372036854775808\r\n"},
		{"the least number but one", num(math.MinInt + 1), ":-9223372036854775807\r\n"},
		{"the greatest number", num(math.MaxInt), ":9223372036854775807\r\n"},
		{"a text", bulk("hello"), "$5\r\nhello\r\n"},
		{"the empty text", bulk(""), "$0\r\n\r\n"},
		{"a text with 13", bulk("\r"), "$1\r\n\r\r\n"},
		{"a text with 10", bulk("\n"), "$1\r\n\n\r\n"},
		{"a text with 13, 10", bulk("a\r\nb"), "$4\r\na\r\nb\r\n"},
		{"a text of 13, 10", bulk("\r\n\r\n"), "$4\r\n\r\n\r\n\r\n"},
		{"a text like a reply", bulk("$-1\r\n"), "$5\r\n$-1\r\n\r\n"},
		{"a text of any bytes", bulk(all), "$" + strconv.Itoa(len(all)) + "\r\n" + all + "\r\n"},
		{"a text longer than a line", bulk(times(513)), "$513\r\n" + times(513) + "\r\n"},
		{"the longest text", bulk(times(1 << 20)), "$1048576\r\n" + times(1<<20) + "\r\n"},
		{"the longest text but one", bulk(times(1<<20 - 1)), "$1048575\r\n" + times(1<<20-1) + "\r\n"},
		{"nothing", none(), "$-1\r\n"},
		{"an array without elements", array(), "*0\r\n"},
		{"an array that is nil", api.Reply{Kind: api.RArray}, "*0\r\n"},
		{"an array of each kind", array(simple("a"), fault("b"), num(-7), bulk("c"), none(), array()), "*6\r\n+a\r\n-b\r\n:-7\r\n$1\r\nc\r\n$-1\r\n*0\r\n"},
		{"arrays side by side", array(array(num(1)), array(), array(num(2), num(3))), "*3\r\n*1\r\n:1\r\n*0\r\n*2\r\n:2\r\n:3\r\n"},
		{"ten elements", wide(10, none()), "*10\r\n" + strings.Repeat("$-1\r\n", 10)},
		{"two levels", deep(2), "*1\r\n*0\r\n"},
		{"as deep as may be", deep(8), strings.Repeat("*1\r\n", 7) + "*0\r\n"},
		{"as deep as may be, with an element", within(8, num(5)), strings.Repeat("*1\r\n", 8) + ":5\r\n"},
		{"deep and flat again", array(deep(7), none(), deep(7), num(1)), "*4\r\n" + strings.Repeat("*1\r\n", 6) + "*0\r\n$-1\r\n" + strings.Repeat("*1\r\n", 6) + "*0\r\n:1\r\n"},
		{"as wide as may be", wide(1<<16, num(1)), "*65536\r\n" + strings.Repeat(":1\r\n", 1<<16)},
		{"as wide as may be, within", array(wide(1<<16, none()), num(1)), "*2\r\n*65536\r\n" + strings.Repeat("$-1\r\n", 1<<16) + ":1\r\n"},
		{"the longest parts within", array(simple(times(512)), bulk(times(1<<20))), "*2\r\n+" + times(512) + "\r\n$1048576\r\n" + times(1<<20) + "\r\n"},
	}
}

func TestValidReplies(t *testing.T) {
	for _, c := range valids() {
		if !May(c.r) {
			t.Errorf("3.1: %s isn't valid", c.name)
		}
		if b := Put(c.r); string(b) != c.put {
			t.Errorf("3.2: Put of %s is %.60q, want %.60q", c.name, b, c.put)
		}
	}
}

// invalids are replies that are not valid, each for one reason.
func invalids() map[string]api.Reply {
	return map[string]api.Reply{
		"no kind":                        {},
		"a kind below all":               {Kind: -1},
		"the least kind":                 {Kind: math.MinInt},
		"a kind beyond all":              {Kind: api.RArray + 1},
		"the greatest kind":              {Kind: math.MaxInt},
		"a simple text of 13":            simple("\r"),
		"a simple text with 13":          simple("a\r"),
		"a simple text of 10":            simple("\n"),
		"a simple text with 10":          simple("\na"),
		"a simple text with 13, 10":      simple("a\r\nb"),
		"a simple text too long":         simple(times(513)),
		"a simple text far too long":     simple(times(1 << 20)),
		"a simple text too long, by 10":  simple(times(512) + "\n"),
		"a simple text of 300 runes":     simple(strings.Repeat("é", 300)),
		"an error with 13":               fault("a\rb"),
		"an error with 10":               fault("ab\n"),
		"an error too long":              fault(times(513)),
		"a text too long":                bulk(times(1<<20 + 1)),
		"an array too wide":              wide(1<<16+1, num(1)),
		"an array too wide, within":      array(num(1), wide(1<<16+1, none())),
		"an array too deep":              deep(9),
		"an array too deep, with more":   within(9, num(1)),
		"an array far too deep":          deep(1000),
		"an array too deep at the end":   array(num(1), deep(7), deep(8)),
		"an array too deep at the front": array(deep(8), num(1)),
		"an element of no kind":          array(api.Reply{}),
		"the first element":              array(simple("\n"), num(1)),
		"an element within":              array(num(1), simple("\n"), num(1)),
		"the last element":               array(num(1), num(2), bulk(times(1<<20+1))),
		"an element as deep as may be":   within(8, simple("\r")),
		"an element of the widest":       array(append(wide(1<<16-1, num(1)).L, simple(times(513)))...),
	}
}

func TestInvalidReplies(t *testing.T) {
	for name, r := range invalids() {
		if May(r) {
			t.Errorf("3.1: %s is valid", name)
		}
		if b := Put(r); len(b) != 0 {
			t.Errorf("3.2: Put of %s is %.60q", name, b)
		}
	}
}

func TestFieldsWithoutMeaning(t *testing.T) {
	lists := [][]api.Reply{nil, {}, make([]api.Reply, 0, 5), {num(1)}, {none(), none()}, {{}}}
	for kind := -2; kind < 10; kind++ {
		for _, s := range []string{"", "a", "\x00", "\r", "\n"} {
			for _, n := range []int{0, 1, -1, math.MinInt, math.MaxInt} {
				for _, l := range lists {
					r := api.Reply{Kind: kind, S: s, N: n, L: l}
					text := n == 0 && len(l) == 0
					var want bool
					switch kind {
					case 1, 2:
						want = text && s != "\r" && s != "\n"
					case 3:
						want = s == "" && len(l) == 0
					case 4:
						want = text
					case 5:
						want = text && s == ""
					case 6:
						want = s == "" && n == 0 && (len(l) == 0 || l[0].Kind != 0)
					}
					for levels := range 3 {
						if r := within(levels, r); May(r) != want || (len(Put(r)) > 0) != want {
							t.Fatalf("3.1: in %d arrays, May of kind %d, S %q, N %d, L %v is %v, Put is %q", levels, kind, s, n, l, May(r), Put(r))
						}
					}
				}
			}
		}
	}
}

func TestDepth(t *testing.T) {
	for levels := 1; levels < 20; levels++ {
		for name, r := range map[string]api.Reply{
			"alone":              deep(levels),
			"with an element":    within(levels, none()),
			"behind an element":  within(levels-1, array(num(1), num(2))),
			"with a deeper last": array(none(), array(), within(levels-1, num(1))),
		} {
			if want := levels <= api.MaxNest; May(r) != want || (len(Put(r)) > 0) != want {
				t.Errorf("3.1: May of %d levels %s is %v", levels, name, May(r))
			}
		}
	}
	if r := deep(60000); May(r) || len(Put(r)) != 0 {
		t.Error("3.1: an array of very many levels is valid")
	}
}

func TestWords(t *testing.T) {
	for _, c := range []struct {
		name  string
		words []string
		want  string
	}{
		{"nil", nil, "*0\r\n"},
		{"no words", []string{}, "*0\r\n"},
		{"a word", []string{"PING"}, "*1\r\n$4\r\nPING\r\n"},
		{"an empty word", []string{""}, "*1\r\n$0\r\n\r\n"},
		{"words", []string{"SET", "", "x"}, "*3\r\n$3\r\nSET\r\n$0\r\n\r\n$1\r\nx\r\n"},
		{"a word with 13, 10", []string{"a\r\nb"}, "*1\r\n$4\r\na\r\nb\r\n"},
		{"words like replies", []string{"$-1\r\n", "*0", "\xff\x00"}, "*3\r\n$5\r\n$-1\r\n\r\n$2\r\n*0\r\n$2\r\n\xff\x00\r\n"},
		{"the longest word", []string{times(1 << 20)}, "*1\r\n$1048576\r\n" + times(1<<20) + "\r\n"},
		{"a word too long", []string{times(1<<20 + 1)}, ""},
		{"a word too long behind another", []string{"a", times(1<<20 + 1)}, ""},
		{"as many words as may be", slices.Repeat([]string{"a"}, 1<<16), "*65536\r\n" + strings.Repeat("$1\r\na\r\n", 1<<16)},
		{"too many words", slices.Repeat([]string{""}, 1<<16+1), ""},
	} {
		before := slices.Clone(c.words)
		if b := Words(c.words...); string(b) != c.want {
			t.Errorf("3.2: Words of %s is %.60q, want %.60q", c.name, b, c.want)
		}
		if !slices.Equal(c.words, before) {
			t.Errorf("R3: Words wrote into %s", c.name)
		}
	}
}

func TestGetOfPut(t *testing.T) {
	for _, c := range valids() {
		for _, ahead := range []string{"", "??", "\r\n", "*1\r\n", "+", times(1000)} {
			for _, behind := range []string{"", "\r\n", "x", "\r", "0", ":1\r\n", c.put[:1]} {
				b := []byte(ahead + c.put + behind)
				r, next, e := Get(b, len(ahead))
				if e != api.OK || next != len(ahead)+len(c.put) || !Same(r, c.r) {
					t.Fatalf("3.3: Get of %s behind %.10q ahead of %q is kind %d, %d, %d", c.name, ahead, behind, r.Kind, next, e)
				}
			}
		}
	}
}

func TestGetOfManyPuts(t *testing.T) {
	all := valids()
	var b []byte
	for _, c := range all {
		b = append(b, c.put...)
	}
	at := 0
	for _, c := range all {
		r, next, e := Get(b, at)
		if e != api.OK || next != at+len(c.put) || !Same(r, c.r) {
			t.Fatalf("3.3: Get of %s among others is kind %d, %d, %d", c.name, r.Kind, next, e)
		}
		at = next
	}
	checkError(t, b, at, api.ErrMore)
}

// checkError makes sure that Get answers that error, and nothing beside it.
func checkError(t *testing.T, b []byte, at int, want api.Errno) {
	t.Helper()
	r, next, e := Get(b, at)
	if e != want {
		t.Errorf("3.3: Get of %.60q (%d bytes) at %d is kind %d, %d, %d, want error %d", b, len(b), at, r.Kind, next, e, want)
	}
	if r.Kind != 0 || r.S != "" || r.N != 0 || len(r.L) != 0 || next != 0 {
		t.Errorf("R4: Get of %.60q (%d bytes) at %d is %v, %d beside error %d", b, len(b), at, r, next, e)
	}
}

func TestGetAtNoIndex(t *testing.T) {
	for _, s := range []string{"", "+a", "+a\r\n", "x", ":1\r\n:2\r\n"} {
		for _, at := range []int{-1, -2, -len(s) - 1, len(s) + 1, len(s) + 2, 1 << 40, math.MinInt, math.MinInt + 1, math.MaxInt} {
			checkError(t, []byte(s), at, api.ErrArg)
		}
		checkError(t, []byte(s), len(s), api.ErrMore)
	}
	checkError(t, nil, 0, api.ErrMore)
	checkError(t, nil, 1, api.ErrArg)
	checkError(t, nil, -1, api.ErrArg)
	// What lies in the spare capacity is not in b.
	checkError(t, []byte(":1\r\n")[:3], 0, api.ErrMore)
	checkError(t, []byte(":1\r\n")[:3], 4, api.ErrArg)
}

func TestBeginnings(t *testing.T) {
	for _, s := range []string{
		"",
		// Lines.
		"+", "-", "+a", "-a", "+a\r", "-\r", "-1", "-1\r", "+\x00\xff", "+" + times(512), "-" + times(512), "+" + times(512) + "\r", "+" + strings.Repeat("\xff", 512),
		// Numbers.
		":", ":-", ":0", ":0\r", ":7", ":-1", ":-1\r", ":10", ":922337203685477580", ":9223372036854775807", ":9223372036854775807\r", ":-922337203685477580", ":-9223372036854775808", ":-9223372036854775808\r", ":999999999999999999",
		// Texts.
		"$", "$-", "$-1", "$-1\r", "$0", "$0\r", "$0\r\n", "$0\r\n\r", "$1", "$10", "$104857", "$1048575", "$1048576", "$1048576\r", "$1048576\r\n", "$999999", "$3\r\n", "$3\r\nab", "$3\r\n\r\n", "$3\r\nabc", "$3\r\nabc\r", "$1\r\n\n", "$1\r\n\r\r", "$1048576\r\n" + times(1<<20), "$1048576\r\n" + times(1<<20) + "\r",
		// Arrays.
		"*", "*0", "*0\r", "*6", "*6553", "*65536", "*65535", "*65536\r", "*9999", "*1\r\n", "*2\r\n:1\r\n", "*2\r\n:1\r\n$", "*1\r\n*1\r\n$", "*2\r\n*0\r\n", "*2\r\n*1\r\n:1\r\n", "*65536\r\n" + strings.Repeat(":1\r\n", 1<<16-1), "*1\r\n*65536\r\n",
		strings.Repeat("*1\r\n", 7), strings.Repeat("*1\r\n", 7) + "*", strings.Repeat("*1\r\n", 7) + "*0\r", strings.Repeat("*1\r\n", 8), strings.Repeat("*1\r\n", 8) + ":", strings.Repeat("*1\r\n", 8) + "$-1\r", strings.Repeat("*65536\r\n", 8), "*2\r\n" + strings.Repeat("*1\r\n", 7) + "+\r\n" + strings.Repeat("*1\r\n", 7),
	} {
		checkError(t, []byte(s), 0, api.ErrMore)
		checkError(t, []byte("*9\r\n"+s), len("*9\r\n"), api.ErrMore)
	}
}

func TestNoBeginnings(t *testing.T) {
	for _, s := range []string{
		// Marks.
		"x", "0", " ", "\r", "\n", "\r\n", "\x00", "\xff", "#t\r\n", "_\r\n", " +a\r\n", "\r\n+a\r\n", ",1\r\n", ";", ")", "%0\r\n", "PING\r\n",
		// Lines.
		"+\n", "+a\n", "+a\rb", "+\r\r", "+a\r\r\n", "+a\n\r\n", "-a\n", "-a\rb", "+" + times(513), "-" + times(513), "+" + times(513) + "\r\n", "+" + times(512) + "\n", "+" + times(512) + "\rx", "+" + times(1<<20), "+" + strings.Repeat("é", 257),
		// Numbers.
		":\r", ":\r\n", ":\n", ":x", ":-\r\n", ":-x", ":--", ":--1", ":1-", ":1-1\r\n", ":-0", ":-0\r\n", ":00", ":01", ":01\r\n", ":00\r\n", ":-01", ":-00", ":+", ":+1", ":+1\r\n", ":+0", ": 1", ":1 ", ":1\n", ":1\rx", ":1\r\r", ":1.0", ":1e3", ":1_0", ":0x1", ":1,0", ":١", ":９",
		":9223372036854775808", ":9223372036854775808\r\n", ":9223372036854775810", ":92233720368547758070", ":-9223372036854775809", ":-9223372036854775809\r\n", ":-92233720368547758080", ":18446744073709551616", ":18446744073709551617\r\n", ":10000000000000000000", ":-10000000000000000000", ":" + strings.Repeat("9", 100), ":-" + strings.Repeat("1", 1<<20), ":" + strings.Repeat("0", 1<<20),
		// Texts.
		"$\r\n", "$x", "$\n", "$-\r\n", "$-x", "$-2", "$-2\r\n", "$-0", "$-0\r\n", "$-1x", "$-1\n", "$-10", "$-11", "$-01", "$--1", "$+1", "$+1\r\na\r\n", "$ 1", "$01", "$01\r\na\r\n", "$00", "$00\r\n\r\n", "$1 ", "$1\n", "$1\rx", "$1048577", "$1048577\r\n", "$1048580", "$10485760", "$2000000", "$9223372036854775808", "$18446744073709551617\r\na\r\n", "$4294967297", "$9223372036854775807\r\n", "$" + strings.Repeat("9", 1000),
		"$0\r\nx", "$0\r\n\n", "$0\r\n\rx", "$0\r\n\r\r", "$1\r\nab", "$1\r\nab\r\n", "$1\r\na\n", "$1\r\na\rx", "$1\r\na\r\r", "$3\r\nabcd", "$1048576\r\n" + times(1<<20+1), "$2\r\na\r\n\r",
		// Arrays.
		"*\r\n", "*x", "*-", "*-1", "*-1\r\n", "*-0", "*+", "*+1\r\n", "*00", "*01", "*01\r\n:1\r\n", "*1 ", "*0\n", "*0\rx", "*65537", "*65537\r\n", "*65540", "*655360", "*70000", "*9223372036854775807\r\n", "*18446744073709551616\r\n", "*4294967296\r\n",
		"*1\r\nx", "*1\r\n\r\n", "*2\r\n:1\r\nx", "*2\r\n:01", "*2\r\n:1\r\n:01\r\n", "*1\r\n*1\r\n:\r\n", "*2\r\n*0\r\n-\n", "*1\r\n+" + times(513), "*1\r\n$1048577", "*1\r\n*65537", "*1\r\n*-1\r\n", "*2\r\n$1\r\nab\r\n:1\r\n", "*65536\r\n" + strings.Repeat(":1\r\n", 1<<16-1) + "x",
		strings.Repeat("*1\r\n", 8) + "*", strings.Repeat("*1\r\n", 8) + "*0\r\n", strings.Repeat("*1\r\n", 9), strings.Repeat("*1\r\n", 8) + "x", strings.Repeat("*1\r\n", 1<<16), strings.Repeat("*", 1<<16), "*2\r\n" + strings.Repeat("*1\r\n", 6) + "*0\r\n" + strings.Repeat("*1\r\n", 7) + "*",
	} {
		checkError(t, []byte(s), 0, api.ErrForm)
		checkError(t, []byte("+a\r\n"+s), len("+a\r\n"), api.ErrForm)
	}
}

// judge says by the words of 3.3 how long the encoding is with which s begins,
// or else the error; one line after the other, by the questions what a line may
// be and whether it may go on to be one.
func judge(s string, levels int) (int, api.Errno) {
	if s == "" {
		return 0, api.ErrMore
	}
	line, rest, whole := strings.Cut(s, "\r\n")
	if !whole {
		if isLine(strings.TrimSuffix(s, "\r"), levels) || isLine(s+"0", levels) || isLine(s+"1", levels) {
			return 0, api.ErrMore
		}
		return 0, api.ErrForm
	}
	if !isLine(line, levels) {
		return 0, api.ErrForm
	}
	size := len(line) + 2
	n, _ := strconv.Atoi(line[1:])
	switch {
	case line[0] == '$' && n >= 0:
		end := ""
		if len(rest) > n {
			end = rest[n:min(len(rest), n+2)]
		}
		if !strings.HasPrefix("\r\n", end) {
			return 0, api.ErrForm
		}
		if end != "\r\n" {
			return 0, api.ErrMore
		}
		size += n + 2
	case line[0] == '*':
		for range n {
			more, e := judge(s[size:], levels-1)
			if e != api.OK {
				return 0, e
			}
			size += more
		}
	}
	return size, api.OK
}

// isLine is whether an encoding may have this as its first line, with so many levels to go.
func isLine(line string, levels int) bool {
	if line == "" {
		return false
	}
	s := line[1:]
	switch line[0] {
	case '+', '-':
		return len(s) <= 512 && !strings.Contains(s, "\r") && !strings.Contains(s, "\n")
	case ':':
		return isNumber(s, math.MinInt64, math.MaxInt64)
	case '$':
		return isNumber(s, -1, 1048576)
	case '*':
		return levels > 0 && isNumber(s, 0, 65536)
	}
	return false
}

func isNumber(s string, least, most int64) bool {
	var n big.Int
	_, ok := n.SetString(s, 10)
	return ok && n.String() == s && n.Cmp(big.NewInt(least)) >= 0 && n.Cmp(big.NewInt(most)) <= 0
}

// checkJudged holds Get against the judge, and what it found against its encoding.
func checkJudged(t *testing.T, b []byte) {
	t.Helper()
	size, want := judge(string(b), api.MaxNest)
	if want != api.OK {
		checkError(t, b, 0, want)
		return
	}
	r, next, e := Get(b, 0)
	if e != api.OK || next != size || !May(r) || string(Put(r)) != string(b[:size]) {
		t.Errorf("3.3: Get of %.60q (%d bytes) is %v, %d, %d, want %d bytes", b, len(b), r, next, e, size)
	}
}

// checkTexts judges all texts over some bytes up to a length.
func checkTexts(t *testing.T, letters string, ahead string, most int) {
	t.Helper()
	checkJudged(t, []byte(ahead))
	if t.Failed() || len(ahead) >= most {
		return
	}
	for i := range len(letters) {
		checkTexts(t, letters, ahead+letters[i:i+1], most)
	}
}

func TestGetOfAllShortBytes(t *testing.T) {
	checkTexts(t, "+-:$*012x\r\n", "", 5)
	checkTexts(t, "*:1\r\n", "", 8)
	checkTexts(t, "$-01\r\n", "$", 8)
	checkTexts(t, ":$12\r\n", "*2\r\n", 11)
}

// changed are bytes with one of them turned, left out, put in, or doubled, or cut short.
func changed(r *rand.Rand, b []byte) []byte {
	const odd = "\r\n+-:$*0123456789x \x00\xff"
	at := r.IntN(len(b))
	c := odd[r.IntN(len(odd))]
	switch r.IntN(5) {
	case 0:
		return slices.Concat(b[:at], []byte{c}, b[at+1:])
	case 1:
		return slices.Concat(b[:at], b[at+1:])
	case 2:
		return slices.Concat(b[:at], []byte{c}, b[at:])
	case 3:
		return slices.Concat(b[:at], b[at:at+1], b[at:])
	}
	return slices.Clone(b[:at])
}

// some is a valid reply of no order, at most so deep.
func some(r *rand.Rand, levels int) api.Reply {
	texts := []string{"", "a", "OK", "ERR no such key", "\x00\xff", "12", "-1", "*1"}
	kinds := 6
	if levels == 0 {
		kinds = 5
	}
	switch 1 + r.IntN(kinds) {
	case api.RSimple:
		return simple(texts[r.IntN(len(texts))])
	case api.RError:
		return fault(texts[r.IntN(len(texts))])
	case api.RInt:
		return num(int(r.Uint64()) >> r.IntN(64))
	case api.RBulk:
		return bulk(texts[r.IntN(len(texts))] + strings.Repeat("\r\n", r.IntN(3)))
	case api.RNil:
		return none()
	}
	l := array()
	for range r.IntN(5) {
		l.L = append(l.L, some(r, levels-1))
	}
	return l
}

func TestGetOfSomeReplies(t *testing.T) {
	r := rand.New(rand.NewPCG(3, 3))
	for range 20000 {
		reply := some(r, 1+r.IntN(api.MaxNest))
		b := Put(reply)
		if !May(reply) || len(b) == 0 {
			t.Fatalf("3.1: %v isn't valid", reply)
		}
		if got, next, e := Get(b, 0); e != api.OK || next != len(b) || !Same(got, reply) {
			t.Fatalf("3.4: Get of the Put of %v is %v, %d, %d", reply, got, next, e)
		}
		for range 10 {
			if checkJudged(t, changed(r, b)); t.Failed() {
				return
			}
		}
	}
}

func TestGetOfEachByteTurned(t *testing.T) {
	for _, c := range valids() {
		if len(c.put) > 100 {
			continue
		}
		for at := range len(c.put) {
			for n := range 256 {
				b := []byte(c.put)
				b[at] = byte(n)
				checkJudged(t, b)
			}
		}
	}
}

func TestEveryPrefixOfAPut(t *testing.T) {
	for _, c := range valids() {
		step := 1
		if len(c.r.L) > 100 || len(c.r.L) > 0 && len(c.put) > 1000 {
			// Each of these takes long.
			step = len(c.put)/101 | 1
		}
		b := Put(c.r)
		for n := 0; n < len(b); n += step {
			checkError(t, b[:n], 0, api.ErrMore)
		}
		checkError(t, b[:len(b)-1], 0, api.ErrMore)
		checkError(t, append([]byte("??"), b[:len(b)-1]...), 2, api.ErrMore)
		if r, next, e := Get(b, 0); !Same(r, c.r) || next != len(b) || e != api.OK {
			t.Errorf("3.4: Get of the whole Put of %s is kind %d, %d, %d", c.name, r.Kind, next, e)
		}
		if t.Failed() {
			t.Fatalf("3.4: prefixes of %s", c.name)
		}
	}
}

func TestEveryPrefixOfWords(t *testing.T) {
	b := Words("SET", "key", "a\r\nb", "", "*1\r\n$-1\r\n")
	for n := range b {
		checkError(t, b[:n], 0, api.ErrMore)
	}
	if r, next, e := Get(b, 0); !Same(r, array(bulk("SET"), bulk("key"), bulk("a\r\nb"), bulk(""), bulk("*1\r\n$-1\r\n"))) || next != len(b) || e != api.OK {
		t.Errorf("3.4: Get of Words is %v, %d, %d", r, next, e)
	}
}

func TestSame(t *testing.T) {
	// All of these differ from each other.
	all := []api.Reply{
		{}, simple(""), fault(""), num(0), bulk(""), none(), array(), {Kind: 7}, {Kind: -1}, {Kind: math.MaxInt},
		simple("a"), simple("b"), simple("ab"), simple("A"), simple("a\x00"), simple("\r\n"), fault("a"), bulk("a"), bulk("\xff"), bulk("\xfe"), {S: "a"}, {Kind: api.RNil, S: "a"}, {Kind: 9, S: "a"},
		num(1), num(-1), num(math.MinInt), num(math.MaxInt), num(1 << 32), {N: 1}, {Kind: api.RNil, N: 1}, {Kind: api.RBulk, S: "a", N: 1}, {Kind: api.RBulk, N: 1},
		array(num(1)), array(num(2)), array(num(1), num(2)), array(num(2), num(1)), array(num(1), num(1)), array(none()), array(api.Reply{}), array(api.Reply{}, api.Reply{}), array(array()), array(array(num(1))), array(array(num(1), num(2))), array(array(num(1)), num(2)), array(num(1), array(num(2))),
		{L: []api.Reply{{}}}, {Kind: 9, L: []api.Reply{{}}}, {Kind: api.RBulk, L: []api.Reply{{}}}, {Kind: api.RArray, S: "a", L: []api.Reply{num(1)}}, {Kind: api.RArray, N: 1, L: []api.Reply{num(1)}}, array(bulk("a"), bulk("b")), array(bulk("ab")), array(bulk("a"), bulk("c")),
		deep(8), deep(9), deep(100), within(8, num(1)), within(8, num(2)), within(9, num(1)), simple(times(600)), simple(times(601)), bulk(times(1<<20 + 1)), wide(1<<16, none()), wide(1<<16+1, none()),
	}
	for i, a := range all {
		for j, b := range all {
			if Same(a, copied(b)) != (i == j) {
				t.Errorf("3.3: Same of replies %d and %d is %v", i, j, i != j)
			}
		}
	}
	empty := [][]api.Reply{nil, {}, make([]api.Reply, 0, 3), []api.Reply{num(1)}[:0]}
	for _, a := range empty {
		for _, b := range empty {
			if !Same(array(a...), array(b...)) || !Same(array(num(1), api.Reply{L: a}), array(num(1), api.Reply{L: b})) {
				t.Error("R3: Same of a nil list and an empty one is false")
			}
		}
	}
	if a, b := within(60000, num(1)), within(60000, num(2)); !Same(a, a) || Same(a, b) || Same(a, a.L[0]) {
		t.Error("3.3: Same of very deep replies")
	}
}

// copied shares no memory with its argument.
func copied(r api.Reply) api.Reply {
	r.S = strings.Clone(r.S)
	l := make([]api.Reply, 0, len(r.L)+1)
	for _, element := range r.L {
		l = append(l, copied(element))
	}
	r.L = l
	return r
}

// spoil writes over all lists of a reply and into their spare capacity.
func spoil(r api.Reply) {
	l := r.L[:cap(r.L)]
	for i := range l {
		spoil(l[i])
		l[i] = fault("spoilt")
	}
}

func TestAnswersAreNewMemory(t *testing.T) {
	reply := array(simple("a"), array(bulk("b"), array(), array(num(1), num(2), num(3)), none()), bulk("c"), array(num(4)))
	b := append(Put(reply), "??????????"...)
	want := slices.Clone(b)
	first, _, _ := Get(b[:len(b)-10], 0)
	second, _, _ := Get(b[:len(b)-10], 0)
	for i := range b {
		b[i] = '!'
	}
	if !Same(first, reply) {
		t.Error("R3: an answer of Get shares memory with its argument")
	}
	spoil(first.L[1].L[2])
	first.L[1].L[2] = copied(reply.L[1].L[2])
	if !Same(first, reply) {
		t.Error("R3: two lists of an answer of Get share memory")
	}
	spoil(first)
	if !Same(second, reply) {
		t.Error("R3: two answers of Get share memory")
	}
	for name, call := range map[string]func() []byte{
		"Put":              func() []byte { return Put(reply) },
		"Put of a text":    func() []byte { return Put(bulk("abc")) },
		"Put of none":      func() []byte { return Put(api.Reply{}) },
		"Words":            func() []byte { return Words("a", "b") },
		"Words of nothing": func() []byte { return Words() },
	} {
		one, other := call(), call()
		before := slices.Clone(other)
		one = one[:cap(one)]
		for i := range one {
			one[i] = '!'
		}
		if !bytes.Equal(other, before) || !bytes.Equal(call(), before) {
			t.Errorf("R3: an answer of %s shares memory with another one", name)
		}
	}
	if !bytes.Equal(append(Put(reply), "??????????"...), want) {
		t.Error("R3: Put hangs on an earlier answer")
	}
}

func TestArgumentsStay(t *testing.T) {
	spare := append(make([]api.Reply, 0, 4), num(1), array(num(2)))
	r := array(spare...)
	r.L = spare
	before := copied(r)
	May(r)
	Put(r)
	Same(r, r)
	if !Same(r, before) || !Same(spare[:4][2], api.Reply{}) {
		t.Error("R3: a call wrote into its reply")
	}
	for _, s := range []string{"*2\r\n:1\r\n$3\r\nabc\r\n:7", "*2\r\n:1\r\n$3\r\nab", "*2\r\n:1\r\n$3\r\nabx!"} {
		b := []byte(s)
		for at := -1; at <= len(b)+1; at++ {
			Get(b, at)
			Get(b[:len(b)/2], at)
		}
		if string(b) != s {
			t.Error("R3: Get wrote into its bytes")
		}
	}
}

func TestIteratorsAreLeft(t *testing.T) {
	met := 0
	for part := range parts(array(num(1), array(num(2), num(3)), num(4))) {
		met++
		if part.N == 2 {
			break
		}
	}
	if met != 4 {
		t.Errorf("3.2: %d parts up to the one that was to be the last", met)
	}
	in := reader{rest: []byte(":1\r\n:2\r\n:3\r\nx:4\r\n")}
	for r := range in.replies(5, api.MaxNest) {
		if r.N == 2 {
			break
		}
	}
	var errors []api.Errno
	for _, e := range in.replies(5, api.MaxNest) {
		errors = append(errors, e)
	}
	if !slices.Equal(errors, []api.Errno{api.OK, api.ErrForm}) {
		t.Errorf("3.3: the replies behind one that was to be the last have errors %v", errors)
	}
}
