package route

import (
	"fmt"
	"math/rand/v2"
	"strings"
	"testing"
)

func TestReadOfKnownTexts(t *testing.T) {
	for _, c := range []struct {
		s    string
		want reading
	}{
		{"ASK 16383 7", reading{"ASK", 16383, 7}},
		{"MOVED 3300 0", reading{"MOVED", 3300, 0}},
		{"MOVED 0 0", reading{"MOVED", 0, 0}},
		{"ASK 0 0", reading{"ASK", 0, 0}},
		{"MOVED 9 1", reading{"MOVED", 9, 1}},
		{"ASK 10 2", reading{"ASK", 10, 2}},
		{"MOVED 999 3", reading{"MOVED", 999, 3}},
		{"ASK 1000 4", reading{"ASK", 1000, 4}},
		{"MOVED 9999 5", reading{"MOVED", 9999, 5}},
		{"ASK 10000 6", reading{"ASK", 10000, 6}},
		{"MOVED 16383 7", reading{"MOVED", 16383, 7}},
	} {
		if got := read(c.s); got != c.want {
			t.Errorf("14.2: Read of %q is %v", c.s, got)
		}
	}
}

func TestReadOfOtherTexts(t *testing.T) {
	for _, s := range []string{
		"", " ", "  ", "   ", "\x00", "0", "0 0", " 0 0", "3300 0",
		"CROSSSLOT", "CLUSTERDOWN", "TRYAGAIN", "CROSSSLOT 0 0", "CLUSTERDOWN 0 0", "TRYAGAIN 1 2", "ERR", "WRONGTYPE", "OK",
		"MOVED", "ASK", "MOVED ", "ASK ", "MOVED  ", "ASK  ", "MOVED 1", "ASK 1", "MOVED 1 ", "ASK 0 ", "MOVED  1", "ASK  0", "MOVED0 0", "ASK0 0", "MOVED 00", "ASK 10",
		"MOVED 1 2 3", "ASK 1 2 3", "MOVED 0 0 0", "ASK 0 0 0", "MOVED 1 2 x", "MOVED 1 2 ", "ASK 0 0 ", "ASK 0 0  ", " MOVED 1 2", " ASK 0 0", "MOVED  1 2", "ASK  0 0", "MOVED 1  2", "ASK 0  0",
		"moved 1 2", "ask 0 0", "Moved 1 2", "Ask 0 0", "MOVEd 1 2", "AsK 0 0", "MOVE 1 2", "MOVEDD 1 2", "AS 0 0", "ASKING 0 0", "KASK 0 0", "OVED 1 2", "MOVED1 2", "MOVEDASK 0 0", "ASK MOVED 0 0", "MOVED MOVED 0 0", "MOVED ASK 0", "ASK ASK ASK",
		"MOVED 16384 0", "ASK 16384 7", "MOVED 0 8", "ASK 16383 8", "MOVED 99999 0", "ASK 100000 0", "MOVED 0 9", "ASK 0 10", "MOVED 0 77", "ASK 0 16383", "MOVED 16384 8",
		"MOVED 01 0", "MOVED 00 0", "ASK 0 00", "ASK 0 07", "MOVED 016383 0", "MOVED 000000 0", "ASK 16383 0000000007", "MOVED 00000000000000000000001 0",
		"MOVED -1 0", "MOVED -0 0", "ASK 0 -0", "ASK 0 -1", "MOVED +1 0", "MOVED 1 +0", "ASK +0 +0", "MOVED - 0", "MOVED + 0", "ASK 0 -", "MOVED --1 0", "MOVED 1- 0",
		"MOVED\t1\t2", "MOVED 1\t2", "MOVED\t1 2", "MOVED\n1 2", "MOVED 1 2\n", "MOVED 1 2\r\n", "ASK 0 0\t", "\tASK 0 0", "ASK 0\v0", "ASK\f0 0", "ASK\x000 0", "ASK 0 0\x00", "\x00ASK 0 0", "MOVED\u00a01 2", "MOVED 1\u00a02", "MOVED\u20031 2", "MOVED\u30001 2", "ASK\x850 0",
		"ASK x 1", "ASK 1 x", "ASK 0x1 1", "ASK 0x0 0", "ASK 1e3 1", "ASK 1.0 1", "ASK 1_0 1", "ASK 0b1 1", "ASK 0o7 1", "ASK 1, 1", "ASK 1,1", "ASK '1' 1", "ASK a 1", "ASK :1 1", "ASK /1 1", "ASK 1 :", "ASK 1 /",
		"MOVED 18446744073709551616 0", "MOVED 18446744073709554916 0", "MOVED 0 18446744073709551616", "MOVED 9223372036854775807 0", "MOVED 9223372036854775808 0", "MOVED -9223372036854775808 0", "MOVED -9223372036854775809 0", "ASK 4294967296 0", "ASK 65536 0", "ASK 0 256", "ASK 0 4294967296", "ASK 340282366920938463463374607431768211456 0", "ASK -18446744073709551616 0",
		"MOVED \u0661 \u0662", "MOVED \uff11 \uff12", "MOVED \xb1 2", "MOVED 1 \xb2", "\xcdOVED 1 2", "ASK 0 0\x80", "ASK 0 0\xff", "\xefASK 0 0", "\ufeffASK 0 0", "A\u017fK 0 0", "AS\u212a 0 0", "\x80", "\xff\xff\xff",
		"MOVED 1 2MOVED 1 2", "ASK 1 2ASK", "MOVED 1 2 ASK 1 2", "-MOVED 1 2", "-MOVED 1 2\r\n", "\"MOVED 1 2\"",
	} {
		if got := read(s); got != (reading{}) {
			t.Errorf("14.2: Read of %q is %v", s, got)
		}
	}
}

func TestReadOfLongTexts(t *testing.T) {
	const many = 1 << 22
	for _, part := range []string{" ", "0", "1", "9", "-", "+", "MOVED ", "ASK", "ASK 0 0", "\xff", "x"} {
		long := strings.Repeat(part, many/len(part))
		for _, s := range []string{long, "MOVED" + long, "ASK" + long, "MOVED " + long, "ASK " + long + " 0", "ASK 0 " + long, "MOVED 0 0" + long, "MOVED 0 0 " + long, long + "ASK 0 0", long + "0 0", "MOVED 0" + long + "0"} {
			if got := read(s); got != (reading{}) {
				t.Errorf("14.2: Read of a long text of %q is %v", part, got)
			}
		}
	}
}

// checkRead holds Read against the list of all texts of which it answers something.
func checkRead(t *testing.T, all map[string]reading, s string) {
	t.Helper()
	if got := read(s); got != all[s] {
		t.Fatalf("14.2: Read of %q is %v, want %v", s, got, all[s])
	}
}

func TestReadOfAllResults(t *testing.T) {
	all := readings()
	if len(all) != 2*16384*8 {
		t.Fatalf("%d results", len(all))
	}
	for s := range all {
		checkRead(t, all, s)
	}
	for slot := -1001; slot < 20000; slot++ {
		for _, node := range []int{-8, -1, 0, 1, 7, 8, 9, 10, 17, 70} {
			for _, word := range []string{"MOVED", "ASK", "", "TRYAGAIN"} {
				checkRead(t, all, fmt.Sprintf("%s %d %d", word, slot, node))
			}
		}
	}
}

// TestReadOfAllShortTexts takes all that may stand behind the words.
func TestReadOfAllShortTexts(t *testing.T) {
	all := readings()
	for _, tail := range lists(6, " ", "0", "1", "7", "8", "-", "+") {
		s := strings.Join(tail, "")
		checkRead(t, all, s)
		checkRead(t, all, "MOVED "+s)
		checkRead(t, all, "ASK"+s)
	}
}

// TestReadOfChangedResults turns, takes out, puts in and doubles each byte.
func TestReadOfChangedResults(t *testing.T) {
	all := readings()
	for _, s := range []string{"MOVED 0 0", "ASK 0 0", "MOVED 3300 2", "ASK 16383 7", "MOVED 16383 0", "ASK 10 1", "CROSSSLOT", "TRYAGAIN"} {
		for i := range len(s) + 1 {
			for c := range 256 {
				letter := string([]byte{byte(c)})
				checkRead(t, all, s[:i]+letter+s[i:])
				if i < len(s) {
					checkRead(t, all, s[:i]+letter+s[i+1:])
				}
			}
			checkRead(t, all, s[:i])
			checkRead(t, all, s[i:])
			checkRead(t, all, s[:i]+s)
			for j := range i {
				checkRead(t, all, s[:j]+s[i:])
				checkRead(t, all, s[:i]+s[j:])
			}
		}
	}
}

// TestReadOfAnyTexts puts pieces of results together in any order.
func TestReadOfAnyTexts(t *testing.T) {
	all := readings()
	r := rand.New(rand.NewPCG(14, 2))
	pieces := []string{"MOVED", "ASK", " ", " ", " ", "0", "1", "7", "16383", "16384", "3300", "8", "-", "+", "\t", "\x80"}
	some := 0
	for range 2000000 {
		var s strings.Builder
		for range 1 + r.IntN(6) {
			s.WriteString(pieces[r.IntN(len(pieces))])
		}
		checkRead(t, all, s.String())
		if _, ok := all[s.String()]; ok {
			some++
		}
	}
	if some < 100 {
		t.Errorf("only %d of the texts say something", some)
	}
}
