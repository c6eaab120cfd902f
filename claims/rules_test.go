package claims

import (
	"math"
	"slices"
	"testing"

	"caravan/api"
)

// answer is what a call told, whatever it was.
type answer struct {
	claims []api.Claim
	spans  []api.Span
	ints   []int
	ok     bool
}

func (a answer) copied() answer {
	return answer{slices.Clone(a.claims), slices.Clone(a.spans), slices.Clone(a.ints), a.ok}
}

func (a answer) equal(b answer) bool {
	return slices.Equal(a.claims, b.claims) && slices.Equal(a.spans, b.spans) && slices.Equal(a.ints, b.ints) && a.ok == b.ok
}

// call is one of the package's calls on all that it may be given.
type call struct {
	name string
	do   func(a, b []api.Claim, s []api.Span, node, epoch int) answer
}

func calls() []call {
	return []call{
		{"May", func(a, b []api.Claim, s []api.Span, node, epoch int) answer { return answer{ok: May(a)} }},
		{"Of", func(a, b []api.Claim, s []api.Span, node, epoch int) answer {
			who, since, ok := Of(a, node)
			return answer{ints: []int{who, since}, ok: ok}
		}},
		{"Join", func(a, b []api.Claim, s []api.Span, node, epoch int) answer { return answer{claims: Join(a, b)} }},
		{"Give", func(a, b []api.Claim, s []api.Span, node, epoch int) answer {
			return answer{claims: Give(a, s, node, epoch)}
		}},
		{"Owned", func(a, b []api.Claim, s []api.Span, node, epoch int) answer { return answer{spans: Owned(a, node)} }},
		{"Masters", func(a, b []api.Claim, s []api.Span, node, epoch int) answer { return answer{ints: Masters(a)} }},
	}
}

// spare is the list at the begin of memory that goes on behind it.
func spare[T any](l []T, filler T) []T {
	return append(slices.Clone(l), filler, filler, filler)[:len(l)]
}

// spoil writes over a list and into its spare capacity.
func spoil[T any](l []T, filler T) {
	l = l[:cap(l)]
	for i := range l {
		l[i] = filler
	}
}

func (a answer) spoil() {
	spoil(a.claims, api.Claim{From: 7, To: 7, Node: 7, Epoch: 7})
	spoil(a.spans, api.Span{From: 7, To: 7})
	spoil(a.ints, 7)
}

// givings are what Join and Give make nothing of, a little, or all anew.
func givings() [][3]any {
	l := of(0, 4, 1, 1, 5, 9, 2, 1, 20, 29, 2, 5)
	var all [][3]any
	for _, a := range [][]api.Claim{nil, l, of(0, 16383, 3, 3)} {
		for _, b := range [][]api.Claim{nil, l, of(5, 9, 2, 1), of(0, 16383, 0, 9)} {
			for _, s := range [][]api.Span{nil, to(5, 9), to(25, 26, 0, 3, 2, 4), to(0, 16383), to(9, 3)} {
				all = append(all, [3]any{a, b, s})
			}
		}
	}
	return all
}

func TestArgumentsStayAndAnswersAreNewMemory(t *testing.T) {
	claim, span := api.Claim{From: 9, To: 9, Node: 5, Epoch: 5}, api.Span{From: 9, To: 9}
	for _, c := range calls() {
		for _, g := range givings() {
			a, b, s := spare(g[0].([]api.Claim), claim), spare(g[1].([]api.Claim), claim), spare(g[2].([]api.Span), span)
			first := c.do(a, b, s, 2, 1)
			want := first.copied()
			second := c.do(a, b, s, 2, 1)
			if !second.equal(want) {
				t.Fatalf("R1: %s answers otherwise the second time", c.name)
			}
			first.spoil()
			if !second.equal(want) {
				t.Fatalf("R3: two answers of %s share memory", c.name)
			}
			if third := c.do(a, b, s, 2, 1); !third.equal(want) {
				t.Fatalf("R3: writing into an answer changes what %s answers", c.name)
			}
			whole := slices.Concat(a[:cap(a)][:len(a)+3], b[:cap(b)][:len(b)+3])
			before := slices.Concat(g[0].([]api.Claim), []api.Claim{claim, claim, claim}, g[1].([]api.Claim), []api.Claim{claim, claim, claim})
			if !slices.Equal(whole, before) || !slices.Equal(s[:cap(s)][:len(s)+3], append(slices.Clone(g[2].([]api.Span)), span, span, span)) {
				t.Fatalf("R3: %s, or writing into its answer, changes its arguments", c.name)
			}
			spoil(a, api.Claim{})
			spoil(b, api.Claim{})
			spoil(s, api.Span{})
			if !second.equal(want) {
				t.Fatalf("R3: writing into arguments of %s changes its answer", c.name)
			}
		}
	}
}

func TestOneListForBothArguments(t *testing.T) {
	l := of(0, 4, 1, 1, 5, 9, 2, 1)
	got := Join(l, l)
	spoil(got, api.Claim{})
	if !slices.Equal(l, of(0, 4, 1, 1, 5, 9, 2, 1)) {
		t.Error("R3: Join of a list and itself shares memory with it")
	}
}

// TestNothingPanics gives lists that are not valid, of which nothing is promised but that all calls end.
func TestNothingPanics(t *testing.T) {
	ints := []int{math.MinInt, -1, 0, 5, 16383, 16384, math.MaxInt}
	var odd [][]api.Claim
	for _, from := range ints {
		for _, last := range ints {
			odd = append(odd, of(from, last, 1, 1), of(3, 8, 1, 1, from, last, math.MaxInt, math.MinInt), of(from, last, -1, 0, 4, 6, math.MinInt, math.MaxInt))
		}
	}
	for _, c := range calls() {
		for i, a := range odd {
			for _, b := range odd {
				n := ints[i%len(ints)]
				first := c.do(a, b, to(n, math.MaxInt, 3, 2), n, ints[i/3%len(ints)])
				if again := c.do(a, b, to(n, math.MaxInt, 3, 2), n, ints[i/3%len(ints)]); !again.equal(first) {
					t.Fatalf("R1: %s of %s and %s answers otherwise the second time", c.name, told(a), told(b))
				}
			}
		}
	}
}

// TestOfFalseIsZero also where a claim of the list has other numbers.
func TestOfFalseIsZero(t *testing.T) {
	l := of(0, 9, 7, 1<<53, 11, 20, 6, 9)
	for _, slot := range []int{math.MinInt, -1, 10, 21, 16383, 16384, math.MaxInt} {
		if node, epoch, ok := Of(l, slot); node != 0 || epoch != 0 || ok {
			t.Errorf("R4: Of %d is %d, %d, %v", slot, node, epoch, ok)
		}
	}
}

// TestGreatListsEnd would go on for very long if a call went through its list again for each claim.
func TestGreatListsEnd(t *testing.T) {
	full := each(8, 3)
	for range 50 {
		full = Join(full, each(7, 5))
		Give(full, to(0, 16383, 5, 5), 1, 1)
		Masters(full)
		Owned(full, 3)
	}
	for n := range api.Slots {
		if _, _, ok := Of(full, n); !ok {
			t.Fatalf("13.1: nobody has %d", n)
		}
	}
	// Lists that are not valid may be longer than all slots.
	var long []api.Claim
	var many []api.Span
	for n := range 1 << 20 {
		long = append(long, api.Claim{From: n % 77, To: n % 99, Node: n, Epoch: n})
		many = append(many, api.Span{From: -n, To: n % 1000})
	}
	for _, c := range calls() {
		c.do(long, long, many, 5, 5)
		c.do(full, long, many, 5, 5)
	}
}
