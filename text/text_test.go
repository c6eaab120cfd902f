package text

import (
	"math"
	"math/big"
	"regexp"
	"slices"
	"strconv"
	"strings"
	"testing"
	"unsafe"

	"caravan/api"
)

func times(n int) string { return strings.Repeat("x", n) }

// counted are n bytes of which no two that are less than 251 apart are equal.
func counted(n int) string {
	b := make([]byte, n)
	for i := range b {
		b[i] = byte(i%251) + 1
	}
	return string(b)
}

// short is a string as a test tells it.
func short(s string) string {
	if len(s) > 24 {
		return strconv.Quote(s[:24]) + ".. of " + strconv.Itoa(len(s))
	}
	return strconv.Quote(s)
}

// over calls for all strings of the letters that have at most so many of them.
func over(letters string, most int, call func(s string)) {
	call("")
	if most == 0 {
		return
	}
	for _, c := range []byte(letters) {
		over(letters, most-1, func(s string) {
			call(string(c) + s)
		})
	}
}

var form = regexp.MustCompile(`\A(0|-?[1-9][0-9]*)\z`)

// judged is what 6.1 says of a string, by numbers without bounds.
func judged(s string) (int, bool) {
	// No number of so many digits fits, and it would take long to make it.
	if len(s) > 1000 || !form.MatchString(s) {
		return 0, false
	}
	n, ok := new(big.Int).SetString(s, 10)
	if !ok || !n.IsInt64() {
		return 0, false
	}
	return int(n.Int64()), true
}

// checkNumber holds Number against the judge.
func checkNumber(t *testing.T, s string) {
	t.Helper()
	n, ok := Number(s)
	if want, wantOk := judged(s); n != want || ok != wantOk {
		t.Errorf("6.1: Number of %s is %d, %v, want %d, %v", short(s), n, ok, want, wantOk)
	}
}

func TestNumberOfKnownTexts(t *testing.T) {
	for _, c := range []struct {
		s    string
		want int
	}{
		{"0", 0}, {"1", 1}, {"7", 7}, {"9", 9}, {"10", 10}, {"42", 42}, {"100", 100}, {"1000000", 1000000}, {"9876543210", 9876543210},
		{"-1", -1}, {"-9", -9}, {"-10", -10}, {"-42", -42}, {"-9876543210", -9876543210},
		{"2147483648", 1 << 31}, {"4294967296", 1 << 32}, {"-2147483649", -1<<31 - 1},
		{"9223372036854775807", math.MaxInt}, {"9223372036854775806", math.MaxInt - 1}, {"9223372036854775800", math.MaxInt - 7},
		{"-9223372036854775808", math.MinInt}, {"-9223372036854775807", math.MinInt + 1}, {"-9223372036854775800", math.MinInt + 8},
	} {
		if n, ok := Number(c.s); n != c.want || !ok {
			t.Errorf("6.1: Number of %q is %d, %v", c.s, n, ok)
		}
	}
}

func TestNumberOfWrongTexts(t *testing.T) {
	for _, s := range []string{
		"", "-", "+", "--", "-0", "+0", "00", "000", "-00", "01", "001", "-01", "-001", "0-", "1-", "-1-", "1-1", "--1", "-+1", "+-1", "+1", "+7",
		" ", " 1", "1 ", " 1 ", "1 2", "- 1", "-\t1", "\t1", "1\n", "\n1", "1\r\n", "1\x00", "\x001", "1\x00\x00", "\x00",
		"a", "a1", "1a", "1a1", "x", "inf", "NaN", "nil", "1.0", "1.", ".1", "1,000", "1e3", "1E3", "1_0", "1'0", "0x1", "0x", "0b1", "0o1", "0X10", "1f", "1/", "1:", "/", ":",
		"\u0661", "\uff11", "1\uff11", "\u22121", "\u00b2", "\xff", "1\xff", "\xb1", "\xb11",
		"9223372036854775808", "9223372036854775809", "9223372036854775810", "9223372036854775817", "9999999999999999999", "10000000000000000000",
		"-9223372036854775809", "-9223372036854775810", "-9223372036854775818", "-9999999999999999999", "-10000000000000000000",
		"18446744073709551615", "18446744073709551616", "18446744073709551617", "-18446744073709551616", "-18446744073709551617", "27670116110564327423",
		"09223372036854775807", "-09223372036854775808", "+9223372036854775807", "00000000000000000001", "9223372036854775807 ", "9223372036854775807a", "922337203685477580a", "92233720368547758070",
	} {
		if n, ok := Number(s); n != 0 || ok {
			t.Errorf("6.1: Number of %q is %d, %v", s, n, ok)
		}
	}
}

func TestNumberOfShortTexts(t *testing.T) {
	over("-+0189 x", 6, func(s string) { checkNumber(t, s) })
}

// Each byte there is goes into each place of a number, beside its bytes and
// instead of them.
func TestNumberWithEachByte(t *testing.T) {
	for _, s := range []string{"", "0", "7", "-7", "10", "907", "-120", "9223372036854775807", "-9223372036854775808"} {
		for c := range 256 {
			for at := range len(s) + 1 {
				checkNumber(t, s[:at]+string([]byte{byte(c)})+s[at:])
			}
			for at := range len(s) {
				checkNumber(t, s[:at]+string([]byte{byte(c)})+s[at+1:])
			}
		}
		for at := range len(s) {
			checkNumber(t, s[:at]+s[at+1:])
		}
	}
}

// aroundPowers calls for the numbers beside the powers of two and of ten, their
// multiples and the edges, on both sides of 0.
func aroundPowers(call func(n *big.Int)) {
	beside := func(middle *big.Int, most int64) {
		for d := -most; d <= most; d++ {
			n := new(big.Int).Add(middle, big.NewInt(d))
			call(n)
			call(new(big.Int).Neg(n))
		}
	}
	for bits := range uint(140) {
		beside(new(big.Int).Lsh(big.NewInt(1), bits), 3)
	}
	for tens := range int64(42) {
		power := new(big.Int).Exp(big.NewInt(10), big.NewInt(tens), nil)
		for digit := range int64(10) {
			beside(new(big.Int).Mul(power, big.NewInt(digit)), 2)
		}
	}
	beside(new(big.Int).Lsh(big.NewInt(1), 63), 1000)
	// What wraps round comes back to numbers near 0 at the multiples of 2^64.
	for times := range int64(60) {
		beside(new(big.Int).Lsh(big.NewInt(times), 64), 12)
		beside(new(big.Int).Lsh(big.NewInt(times), 63), 2)
	}
}

func TestNumberAroundPowers(t *testing.T) {
	aroundPowers(func(n *big.Int) {
		s := n.String()
		checkNumber(t, s)
		checkNumber(t, "0"+s)
		checkNumber(t, "-"+s)
		checkNumber(t, s+"0")
		checkNumber(t, s+"-")
	})
}

func TestNumberOfItsDecimalForm(t *testing.T) {
	try := func(n int) {
		if got, ok := Number(strconv.Itoa(n)); got != n || !ok {
			t.Errorf("6.1: Number of the decimal form of %d is %d, %v", n, got, ok)
		}
	}
	for n := -70000; n <= 70000; n++ {
		try(n)
	}
	for d := range 70000 {
		try(math.MaxInt - d)
		try(math.MinInt + d)
	}
	// A walk through all sizes without order.
	n := uint64(1)
	for range 100000 {
		n = n*6364136223846793005 + 1442695040888963407
		try(int(n))
		try(int(n) >> (n >> 58))
	}
}

func TestNumberOfLongTexts(t *testing.T) {
	for _, n := range []int{19, 20, 21, 30, 64, 100, 300, 301, 1000, 1 << 20} {
		for digit := range 10 {
			s := strings.Repeat(strconv.Itoa(digit), n)
			checkNumber(t, s)
			checkNumber(t, "-"+s)
			checkNumber(t, "1"+s)
			checkNumber(t, "-1"+s)
		}
		checkNumber(t, strings.Repeat("0", n)+"1")
		checkNumber(t, strings.Repeat("-", n))
		checkNumber(t, strings.Repeat(" ", n)+"1")
		checkNumber(t, "1"+strings.Repeat(" ", n))
		checkNumber(t, "1"+strings.Repeat("\x00", n))
	}
}

// judgedSub goes through the bytes and takes those that 6.2 names; its indices
// have no bounds.
func judgedSub(s string, a, b int) string {
	length := big.NewInt(int64(len(s)))
	first, last := big.NewInt(int64(a)), big.NewInt(int64(b))
	if first.Sign() < 0 {
		first.Add(first, length)
	}
	if last.Sign() < 0 {
		last.Add(last, length)
	}
	var bytes []byte
	for i := range len(s) {
		at := big.NewInt(int64(i))
		if first.Cmp(at) <= 0 && at.Cmp(last) <= 0 {
			bytes = append(bytes, s[i])
		}
	}
	return string(bytes)
}

func checkSub(t *testing.T, s string, a, b int) {
	t.Helper()
	if got, want := Sub(s, a, b), judgedSub(s, a, b); got != want {
		t.Errorf("6.2: Sub of %s from %d to %d is %s, want %s", short(s), a, b, short(got), short(want))
	}
}

func TestSubOfKnownIndices(t *testing.T) {
	for _, c := range []struct {
		s    string
		a, b int
		want string
	}{
		{"abc", 0, 0, "a"}, {"abc", 0, 1, "ab"}, {"abc", 0, 2, "abc"}, {"abc", 1, 1, "b"}, {"abc", 1, 2, "bc"}, {"abc", 2, 2, "c"},
		{"abc", 0, 3, "abc"}, {"abc", 2, 3, "c"}, {"abc", 3, 3, ""}, {"abc", 3, 2, ""}, {"abc", 4, 9, ""}, {"abc", 1, 0, ""}, {"abc", 2, 1, ""}, {"abc", 2, 0, ""},
		{"abc", -1, -1, "c"}, {"abc", -2, -1, "bc"}, {"abc", -3, -1, "abc"}, {"abc", -4, -1, "abc"}, {"abc", -9, -1, "abc"}, {"abc", -2, -2, "b"}, {"abc", -3, -3, "a"}, {"abc", -3, -2, "ab"},
		{"abc", -1, -2, ""}, {"abc", -4, -3, "a"}, {"abc", -4, -4, ""}, {"abc", 0, -3, "a"}, {"abc", 0, -4, ""}, {"abc", 0, -5, ""}, {"abc", -5, -4, ""}, {"abc", -4, -5, ""},
		{"abc", 0, -1, "abc"}, {"abc", 1, -1, "bc"}, {"abc", 1, -2, "b"}, {"abc", 1, -3, ""}, {"abc", -1, 0, ""}, {"abc", -1, 2, "c"}, {"abc", -2, 1, "b"}, {"abc", -3, 0, "a"}, {"abc", -9, 0, "a"}, {"abc", -9, 9, "abc"},
		{"abc", math.MinInt, math.MaxInt, "abc"}, {"abc", math.MaxInt, math.MaxInt, ""}, {"abc", math.MinInt, math.MinInt, ""}, {"abc", math.MaxInt, math.MinInt, ""},
		{"abc", 0, math.MaxInt, "abc"}, {"abc", 2, math.MaxInt, "c"}, {"abc", 3, math.MaxInt, ""}, {"abc", math.MinInt, 0, "a"}, {"abc", math.MinInt, -1, "abc"}, {"abc", -1, math.MaxInt, "c"}, {"abc", 0, math.MinInt, ""}, {"abc", math.MaxInt, -1, ""},
		{"", 0, -1, ""}, {"", 0, 0, ""}, {"", -1, -1, ""}, {"", -1, 0, ""}, {"", 1, 1, ""}, {"", 0, 1, ""}, {"", math.MinInt, math.MaxInt, ""}, {"", math.MaxInt, math.MinInt, ""},
		{"a", 0, 0, "a"}, {"a", -1, -1, "a"}, {"a", 0, -1, "a"}, {"a", -1, 0, "a"}, {"a", 1, 1, ""}, {"a", -2, -2, ""}, {"a", -2, 1, "a"}, {"a", 1, 0, ""},
		{"\x00\xff\x00", 1, 1, "\xff"}, {"\u00e4\u20ac", 1, 2, "\xa4\xe2"}, {"\u20ac", -1, -1, "\xac"},
	} {
		if got := Sub(c.s, c.a, c.b); got != c.want {
			t.Errorf("6.2: Sub of %q from %d to %d is %q, want %q", c.s, c.a, c.b, got, c.want)
		}
	}
}

// bounds are the greatest and the smallest ints and those beside them.
func bounds() []int {
	return []int{
		math.MinInt, math.MinInt + 1, math.MinInt + 2, math.MinInt + 300, -1 << 62, math.MinInt32, math.MinInt32 - 1,
		math.MaxInt, math.MaxInt - 1, math.MaxInt - 2, math.MaxInt - 300, 1 << 62, math.MaxInt32, math.MaxInt32 + 1, 1 << 32,
	}
}

func TestSubOfAllIndices(t *testing.T) {
	for n := range 8 {
		s := counted(n)
		indices := bounds()
		for i := -n - 4; i <= n+4; i++ {
			indices = append(indices, i)
		}
		for _, a := range indices {
			for _, b := range indices {
				checkSub(t, s, a, b)
			}
		}
	}
}

func TestSubOfLongStrings(t *testing.T) {
	for _, n := range []int{39, 255, 256, 299, 300, 301, 1000} {
		s := counted(n)
		indices := append(bounds(), 0, 1, 2, n/2, n-2, n-1, n, n+1, 2*n, -1, -2, -n/2, -n+1, -n, -n-1, -n-2, -2*n)
		for _, a := range indices {
			for _, b := range indices {
				checkSub(t, s, a, b)
			}
		}
	}
}

// judgedPut settles byte by byte what 6.2 says; its sums have no bounds.
func judgedPut(s string, at int, v string) (string, bool) {
	end := new(big.Int).Add(big.NewInt(int64(at)), big.NewInt(int64(len(v))))
	if at < 0 || end.Cmp(big.NewInt(api.MaxVal)) > 0 {
		return "", false
	}
	if len(v) == 0 {
		return s, true
	}
	bytes := make([]byte, max(len(s), at+len(v)))
	for i := range bytes {
		switch {
		case at <= i && i < at+len(v):
			bytes[i] = v[i-at]
		case i < len(s):
			bytes[i] = s[i]
		}
	}
	return string(bytes), true
}

func checkPut(t *testing.T, s string, at int, v string) {
	t.Helper()
	got, ok := Put(s, at, v)
	if want, wantOk := judgedPut(s, at, v); got != want || ok != wantOk {
		t.Errorf("6.2: Put of %s at %d into %s is %s, %v, want %s, %v", short(v), at, short(s), short(got), ok, short(want), wantOk)
	}
}

func TestPutOfKnownStrings(t *testing.T) {
	for _, c := range []struct {
		s    string
		at   int
		v    string
		want string
	}{
		{"abc", 0, "X", "Xbc"}, {"abc", 1, "X", "aXc"}, {"abc", 2, "X", "abX"}, {"abc", 3, "X", "abcX"}, {"abc", 4, "X", "abc\x00X"}, {"abc", 5, "X", "abc\x00\x00X"},
		{"abc", 0, "XY", "XYc"}, {"abc", 1, "XY", "aXY"}, {"abc", 2, "XY", "abXY"}, {"abc", 3, "XY", "abcXY"}, {"abc", 0, "XYZ", "XYZ"}, {"abc", 0, "XYZW", "XYZW"}, {"abc", 1, "XYZW", "aXYZW"},
		{"", 0, "X", "X"}, {"", 1, "X", "\x00X"}, {"", 3, "XY", "\x00\x00\x00XY"}, {"abcdef", 2, "XY", "abXYef"}, {"abc", 1, "\x00", "a\x00c"}, {"\xff\xfe", 1, "\xfd", "\xff\xfd"}, {"\u20ac", 1, "X", "\xe2X\xac"},
		{"", 0, "", ""}, {"abc", 0, "", "abc"}, {"abc", 1, "", "abc"}, {"abc", 3, "", "abc"}, {"abc", 4, "", "abc"}, {"abc", 299, "", "abc"}, {"abc", 300, "", "abc"}, {"", 300, "", ""},
		{"abc", 299, "X", "abc" + strings.Repeat("\x00", 296) + "X"}, {"abc", 298, "XY", "abc" + strings.Repeat("\x00", 295) + "XY"}, {"", 299, "X", strings.Repeat("\x00", 299) + "X"},
		{"", 0, times(300), times(300)}, {"abc", 0, times(300), times(300)}, {"abc", 0, times(299), times(299)}, {"abc", 1, times(299), "a" + times(299)}, {"abc", 5, times(295), "abc\x00\x00" + times(295)},
		{times(300), 0, "Y", "Y" + times(299)}, {times(300), 299, "Y", times(299) + "Y"}, {times(300), 150, "Y", times(150) + "Y" + times(149)}, {times(299), 299, "Y", times(299) + "Y"}, {times(300), 300, "", times(300)},
		// Nothing is asked of how long the string itself is.
		{times(301), 0, "", times(301)}, {times(301), 299, "Y", times(299) + "Yx"}, {times(500), 0, "Y", "Y" + times(499)}, {times(500), 300, "", times(500)},
	} {
		if got, ok := Put(c.s, c.at, c.v); got != c.want || !ok {
			t.Errorf("6.2: Put of %s at %d into %s is %s, %v, want %s", short(c.v), c.at, short(c.s), short(got), ok, short(c.want))
		}
	}
}

func TestPutThatIsRefused(t *testing.T) {
	for _, s := range []string{"", "a", "abc", times(299), times(300), times(301), times(1000)} {
		for _, c := range []struct {
			at int
			v  string
		}{
			{-1, ""}, {-1, "X"}, {-1, times(300)}, {-2, "XY"}, {-3, "abc"}, {-300, times(300)}, {math.MinInt, ""}, {math.MinInt, "X"}, {math.MinInt + 1, times(300)}, {math.MinInt, times(1000)},
			{301, ""}, {300, "X"}, {301, "X"}, {299, "XY"}, {298, "XYZ"}, {0, times(301)}, {1, times(300)}, {150, times(151)}, {0, times(100000)}, {400, ""}, {400, "X"},
			{math.MaxInt, ""}, {math.MaxInt, "X"}, {math.MaxInt - 1, "X"}, {math.MaxInt - 1, "XY"}, {math.MaxInt, times(300)}, {math.MaxInt - 100, times(301)}, {math.MaxInt32, "X"}, {1 << 32, "X"}, {1 << 62, "X"},
		} {
			if got, ok := Put(s, c.at, c.v); got != "" || ok {
				t.Errorf("6.2: Put of %s at %d into %s is %s, %v", short(c.v), c.at, short(s), short(got), ok)
			}
		}
	}
}

func TestPutOfShortStrings(t *testing.T) {
	for n := range 7 {
		for length := range 7 {
			for _, at := range append(bounds(), -3, -2, -1, 0, 1, 2, 3, 4, 5, 6, 7, 8, 9) {
				checkPut(t, counted(n), at, strings.ToUpper("uvwxyz"[:length]))
			}
		}
	}
}

// Around MaxVal stand the string's end, the index and the end of what is put.
func TestPutAroundMaxVal(t *testing.T) {
	const most = api.MaxVal
	near := []int{0, 1, 2, 150, most - 3, most - 2, most - 1, most, most + 1, most + 2, most + 150, 2 * most}
	for _, n := range near {
		for _, at := range append(bounds(), near...) {
			for _, length := range append([]int{most - at - 2, most - at - 1, most - at, most - at + 1, most - at + 2}, near...) {
				if length >= 0 && length <= 2*most {
					checkPut(t, counted(n), at, times(length))
				}
			}
		}
	}
}

func TestPutAtAllIndices(t *testing.T) {
	for _, n := range []int{0, 3, 40, 299, 300, 310} {
		for at := -2; at <= api.MaxVal+2; at++ {
			for _, v := range []string{"", "X", "XY", "\x00", times(40)} {
				checkPut(t, counted(n), at, v)
			}
		}
	}
}

func checkAdd(t *testing.T, s string, n int) {
	t.Helper()
	want, wantOk := "", false
	if start, ok := judged(s); ok {
		sum := new(big.Int).Add(big.NewInt(int64(start)), big.NewInt(int64(n)))
		if sum.IsInt64() {
			want, wantOk = sum.String(), true
		}
	}
	if got, ok := Add(s, n); got != want || ok != wantOk {
		t.Errorf("6.2: Add of %d to %s is %q, %v, want %q, %v", n, short(s), got, ok, want, wantOk)
	}
}

func TestAddOfKnownNumbers(t *testing.T) {
	for _, c := range []struct {
		s    string
		n    int
		want string
	}{
		{"5", 3, "8"}, {"5", -3, "2"}, {"5", -5, "0"}, {"5", -8, "-3"}, {"-5", 5, "0"}, {"-5", 3, "-2"}, {"-5", 8, "3"}, {"-5", -3, "-8"}, {"0", 0, "0"}, {"0", 1, "1"}, {"0", -1, "-1"}, {"9", 1, "10"}, {"-9", -1, "-10"}, {"99", 1, "100"}, {"100", -1, "99"}, {"7", 0, "7"}, {"-7", 0, "-7"},
		{"9223372036854775807", 0, "9223372036854775807"}, {"9223372036854775806", 1, "9223372036854775807"}, {"0", math.MaxInt, "9223372036854775807"}, {"1", math.MaxInt - 1, "9223372036854775807"}, {"-1", math.MaxInt, "9223372036854775806"},
		{"-9223372036854775808", 0, "-9223372036854775808"}, {"-9223372036854775807", -1, "-9223372036854775808"}, {"0", math.MinInt, "-9223372036854775808"}, {"-1", math.MinInt + 1, "-9223372036854775808"}, {"1", math.MinInt, "-9223372036854775807"},
		{"9223372036854775807", math.MinInt, "-1"}, {"-9223372036854775808", math.MaxInt, "-1"}, {"9223372036854775807", -1, "9223372036854775806"}, {"-9223372036854775808", 1, "-9223372036854775807"}, {"-9223372036854775807", math.MaxInt, "0"},
		{"4611686018427387904", 1<<62 - 1, "9223372036854775807"}, {"-4611686018427387904", -1 << 62, "-9223372036854775808"},
	} {
		if got, ok := Add(c.s, c.n); got != c.want || !ok {
			t.Errorf("6.2: Add of %d to %q is %q, %v, want %q", c.n, c.s, got, ok, c.want)
		}
	}
}

func TestAddThatIsRefused(t *testing.T) {
	for _, c := range []struct {
		s string
		n int
	}{
		{"9223372036854775807", 1}, {"9223372036854775807", 2}, {"9223372036854775806", 2}, {"1", math.MaxInt}, {"2", math.MaxInt - 1}, {"9223372036854775807", math.MaxInt}, {"4611686018427387904", 1 << 62},
		{"-9223372036854775808", -1}, {"-9223372036854775808", -2}, {"-9223372036854775807", -2}, {"-1", math.MinInt}, {"-2", math.MinInt + 1}, {"-9223372036854775808", math.MinInt}, {"-4611686018427387905", -1 << 62},
		{"9223372036854775808", 0}, {"9223372036854775808", -1}, {"9223372036854775808", math.MinInt}, {"-9223372036854775809", 0}, {"-9223372036854775809", 1}, {"18446744073709551616", 5},
	} {
		if got, ok := Add(c.s, c.n); got != "" || ok {
			t.Errorf("6.2: Add of %d to %q is %q, %v", c.n, c.s, got, ok)
		}
	}
	for _, s := range []string{"", "-", "+", "-0", "00", "01", "-01", "+1", " 1", "1 ", "1a", "x", "1.0", "1e3", "--1", "0x1", "\x00", "1\x00"} {
		for _, n := range append(bounds(), -2, -1, 0, 1, 2, 3) {
			if got, ok := Add(s, n); got != "" || ok {
				t.Errorf("6.2: Add of %d to %q is %q, %v", n, s, got, ok)
			}
		}
	}
}

// edges are the numbers beside 0, the powers of two and the bounds.
func edges() []int {
	var l []int
	for bits := range 64 {
		for d := -2; d <= 2; d++ {
			l = append(l, 1<<bits+d, -1<<bits+d)
		}
	}
	slices.Sort(l)
	return slices.Compact(l)
}

func TestAddOfEdges(t *testing.T) {
	for _, start := range edges() {
		s := strconv.Itoa(start)
		for _, n := range edges() {
			checkAdd(t, s, n)
		}
		// Sums that just fit and that just do not, in both directions.
		for d := -2; d <= 2; d++ {
			checkAdd(t, s, math.MaxInt-start+d)
			checkAdd(t, s, math.MinInt-start+d)
		}
	}
}

func TestAddOfShortTexts(t *testing.T) {
	over("-+019 ", 4, func(s string) {
		for _, n := range []int{math.MinInt, -11, -1, 0, 1, 10, math.MaxInt} {
			checkAdd(t, s, n)
		}
	})
}

func TestAddAroundPowers(t *testing.T) {
	aroundPowers(func(n *big.Int) {
		checkAdd(t, n.String(), 1)
		checkAdd(t, n.String(), -1)
		checkAdd(t, n.String(), 0)
	})
}

// samples are strings of many lengths.
func samples() []string {
	l := []string{"", "a", "\x00", "ab", "aa", "\xff\x00\xfe", "\u20ac", "a b\r\n", "123", "-123", times(40), times(299), times(300)}
	for _, n := range []int{3, 17, 250, 299, 300, 301, 1000} {
		l = append(l, counted(n))
	}
	return l
}

func TestSubOfTheWhole(t *testing.T) {
	for _, s := range samples() {
		if got := Sub(s, 0, -1); got != s {
			t.Errorf("6.3: Sub of %s from 0 to -1 is %s", short(s), short(got))
		}
	}
	over("ab\x00\xff", 5, func(s string) {
		if got := Sub(s, 0, -1); got != s {
			t.Errorf("6.3: Sub of %q from 0 to -1 is %q", s, got)
		}
	})
}

func TestPutOfBytesWhereTheyStand(t *testing.T) {
	for _, s := range samples() {
		most := min(len(s), api.MaxVal)
		for from := 0; from <= most; from++ {
			for to := from; to <= most; to += 1 + (to-from)/7 {
				if got, ok := Put(s, from, s[from:to]); got != s || !ok {
					t.Errorf("6.3: Put of the bytes from %d to before %d into %s is %s, %v", from, to, short(s), short(got), ok)
				}
			}
			if got, ok := Put(s, from, s[from:most]); got != s || !ok {
				t.Errorf("6.3: Put of the bytes from %d on into %s is %s, %v", from, short(s), short(got), ok)
			}
		}
	}
}

func TestPutOfWhatSubTells(t *testing.T) {
	for n := range 12 {
		s := counted(n)
		for a := range n {
			for b := a; b < n; b++ {
				v := Sub(s, a, b)
				if got, ok := Put(s, a, v); got != s || !ok {
					t.Errorf("6.3: Put of Sub from %d to %d into %q is %q, %v", a, b, s, got, ok)
				}
				put, ok := Put("", a, v)
				if got := Sub(put, a, b); !ok || got != v {
					t.Errorf("6.2: Sub of what was Put from %d to %d is %q, want %q", a, b, got, v)
				}
			}
		}
	}
}

// lent is a string of bytes that the test may write into once the call is over,
// as nothing of it is to be kept.
func lent(s string) (string, []byte) {
	b := append(make([]byte, 0, len(s)+1), s...)
	return unsafe.String(unsafe.SliceData(b), len(b)), b
}

func spoil(b []byte) {
	for i := range b {
		b[i] = '?'
	}
}

func TestSubIsNewMemory(t *testing.T) {
	for n := range 6 {
		for a := -n - 2; a <= n+1; a++ {
			for b := -n - 2; b <= n+1; b++ {
				s, bytes := lent(counted(n))
				got := Sub(s, a, b)
				if string(bytes) != counted(n) {
					t.Errorf("R3: Sub from %d to %d writes into its string", a, b)
				}
				spoil(bytes)
				if want := judgedSub(counted(n), a, b); got != want {
					t.Errorf("R3: Sub of %d bytes from %d to %d shares memory with them", n, a, b)
				}
			}
		}
	}
}

func TestPutIsNewMemory(t *testing.T) {
	for n := range 5 {
		for at := -1; at <= 6; at++ {
			for length := range 5 {
				s, ofS := lent(counted(n))
				v, ofV := lent(times(length))
				got, _ := Put(s, at, v)
				if string(ofS) != counted(n) || string(ofV) != times(length) {
					t.Errorf("R3: Put at %d writes into its strings", at)
				}
				spoil(ofS)
				spoil(ofV)
				if want, _ := judgedPut(counted(n), at, times(length)); got != want {
					t.Errorf("R3: Put of %d bytes at %d into %d shares memory with them", length, at, n)
				}
			}
		}
	}
}

func TestAddIsNewMemory(t *testing.T) {
	for _, from := range []string{"5", "10", "-123456", "9223372036854775807"} {
		s, bytes := lent(from)
		got, ok := Add(s, 0)
		spoil(bytes)
		if got != from || !ok {
			t.Errorf("R3: Add of 0 to %q shares memory with it", from)
		}
	}
}

func TestTheSameCallsAnswerTheSame(t *testing.T) {
	for _, s := range append(samples(), "0", "-7", "9223372036854775807", "9223372036854775808") {
		for _, i := range append(bounds(), -2, -1, 0, 1, 2, 300) {
			n, isNumber := Number(s)
			sub := Sub(s, i, -1)
			put, fits := Put(s, i, "ab")
			sum, adds := Add(s, i)
			for range 2 {
				againN, againNumber := Number(s)
				againPut, againFits := Put(s, i, "ab")
				againSum, againAdds := Add(s, i)
				if againN != n || againNumber != isNumber || Sub(s, i, -1) != sub || againPut != put || againFits != fits || againSum != sum || againAdds != adds {
					t.Errorf("R1: the answers to %s and %d differ", short(s), i)
				}
			}
		}
	}
}
