package exec

import (
	"runtime"
	"slices"
	"testing"
	"unsafe"

	"caravan/api"
)

// some are calls of each form, for what is to hold of all calls.
func some(most int) [][]string {
	c := choices{keys: []string{"dead", "dead list", "h", "h1", "l", "l1", "n", "s", "s1", "s3", "t", "x"}, numbers: []string{"0", "1", "-1", "y"}, values: []string{"a", "x", "", "b"}}
	l := [][]string{nil, {}, {"NIX"}, {"GET"}}
	for _, form := range forms() {
		l = slices.AppendSeq(l, calls(form, c, most))
	}
	return l
}

// again is equal pairs, made anew, with spare capacity at each list.
func again(db []api.Pair) []api.Pair {
	l := make([]api.Pair, 0, len(db)+3)
	for _, p := range db {
		i := api.Item{Kind: p.Item.Kind, S: string([]byte(p.Item.S)), Exp: p.Item.Exp}
		i.F = append(slices.Clone(p.Item.F), hashItem("spare", "1", "spare", "2").F...)[:len(p.Item.F)]
		i.L = append(slices.Clone(p.Item.L), "spare", "spare")[:len(p.Item.L)]
		l = append(l, api.Pair{Key: string([]byte(p.Key)), Item: i})
	}
	for i := range l[len(l):cap(l)] {
		l[:cap(l)][len(l)+i] = api.Pair{Key: "spare", Item: textItem("spare")}
	}
	return l
}

func againWords(words []string) []string {
	return append(slices.Clone(words), "spare", "spare", "spare")[:len(words)]
}

// opened is the pairs as they are now, all spare capacity as a part of them.
func opened(db []api.Pair) []api.Pair {
	var l []api.Pair
	for _, p := range db[:cap(db)] {
		p.Item.F, p.Item.L = slices.Clone(p.Item.F[:cap(p.Item.F)]), slices.Clone(p.Item.L[:cap(p.Item.L)])
		l = append(l, p)
	}
	return l
}

func spoilItem(i api.Item) {
	for n := range i.F[:cap(i.F)] {
		i.F[:cap(i.F)][n] = api.Field{Name: "spoiled", Val: "spoiled"}
	}
	for n := range i.L[:cap(i.L)] {
		i.L[:cap(i.L)][n] = "spoiled"
	}
}

// spoilAnswer writes into all that can be written into, the spare capacity too.
func spoilAnswer(r api.Reply, l []api.Effect) {
	for n := range r.L[:cap(r.L)] {
		r.L[:cap(r.L)][n] = api.Reply{Kind: api.RError, S: "spoiled"}
	}
	for n, e := range l[:cap(l)] {
		spoilItem(e.Item)
		l[:cap(l)][n] = api.Effect{Key: "spoiled", Gone: true, Item: textItem("spoiled")}
	}
}

func spoilArguments(db []api.Pair, words []string) {
	for n, p := range db[:cap(db)] {
		spoilItem(p.Item)
		db[:cap(db)][n] = api.Pair{Key: "spoiled", Item: textItem("spoiled")}
	}
	for n := range words[:cap(words)] {
		words[:cap(words)][n] = "spoiled"
	}
}

func TestArgumentsStayAsTheyAre(t *testing.T) {
	db := again(sample())
	before := opened(db)
	for _, row := range some(150) {
		words := againWords(row)
		wordsBefore := slices.Clone(words[:cap(words)])
		r, l := Exec(db, words, 100)
		for range 2 {
			again, effects := Exec(db, words, 100)
			if !equalReplies(r, again) || !equalEffects(l, effects) {
				t.Errorf("R1: the answers differ: %s", tellWords(row))
			}
		}
		if !equalSpaces(opened(db), before) {
			t.Fatalf("R3: the space is changed: %s", tellWords(row))
		}
		if !slices.Equal(words[:cap(words)], wordsBefore) {
			t.Errorf("R3: the words are changed: %s", tellWords(row))
		}
	}
}

func TestAnswersAreNewMemory(t *testing.T) {
	for _, row := range some(30) {
		db, words := again(sample()), againWords(row)
		before := opened(db)
		wantR, wantL := Exec(again(sample()), againWords(row), 100)
		first, firstL := Exec(db, words, 100)
		second, secondL := Exec(db, words, 100)
		spoilAnswer(first, firstL)
		if !equalSpaces(opened(db), before) || !slices.Equal(words, row) {
			t.Errorf("R3: writing into answers changes arguments: %s", tellWords(row))
		}
		third, thirdL := Exec(db, words, 100)
		if !equalReplies(second, wantR) || !equalEffects(secondL, wantL) || !equalReplies(third, wantR) || !equalEffects(thirdL, wantL) {
			t.Errorf("R3: writing into answers changes other answers: %s", tellWords(row))
		}
		spoilArguments(db, words)
		if !equalReplies(second, wantR) || !equalEffects(secondL, wantL) {
			t.Errorf("R3: writing into arguments changes answers: %s", tellWords(row))
		}
	}
}

// place is memory from one address up to another.
type place struct{ from, to uintptr }

func placeOf[T any](l []T) place {
	var one T
	from := uintptr(unsafe.Pointer(unsafe.SliceData(l)))
	return place{from: from, to: from + uintptr(cap(l))*unsafe.Sizeof(one)}
}

func placesOfReply(r api.Reply) []place {
	l := []place{placeOf(r.L)}
	for _, x := range r.L[:cap(r.L)] {
		l = append(l, placesOfReply(x)...)
	}
	return l
}

func placesOfEffects(l []api.Effect) []place {
	places := []place{placeOf(l)}
	for _, e := range l[:cap(l)] {
		places = append(places, placeOf(e.Item.F), placeOf(e.Item.L))
	}
	return places
}

// overlap is two of the places that do, if any; those that are empty don't.
func overlap(l []place) bool {
	l = slices.DeleteFunc(slices.Clone(l), func(p place) bool { return p.from == p.to })
	slices.SortFunc(l, func(a, b place) int { return int(a.from) - int(b.from) })
	for i := 1; i < len(l); i++ {
		if l[i].from < l[i-1].to {
			return true
		}
	}
	return false
}

// No list of an answer shares memory with another one, nor with an argument, even
// where lists of the arguments share theirs.
func TestListsOfTheirOwn(t *testing.T) {
	shared := listItem(append(make([]string, 0, 9), "a", "b", "c")...)
	named := hashItem("a", "1", "b", "2")
	spaces := [][]api.Pair{sample(), {
		{Key: "h", Item: named}, {Key: "h1", Item: named}, {Key: "l", Item: shared}, {Key: "l1", Item: ending(shared, 200)}, {Key: "s", Item: setItem(shared.L...)}, {Key: "s1", Item: ending(setItem(shared.L...), 300)}, {Key: "s3", Item: setItem(shared.L[1:]...)},
	}}
	for _, db := range spaces {
		var given []place
		given = append(given, placeOf(db))
		for _, p := range db {
			given = append(given, placeOf(p.Item.F), placeOf(p.Item.L))
		}
		for _, words := range some(80) {
			r, l := Exec(db, words, 100)
			own := append(placesOfReply(r), placesOfEffects(l)...)
			if overlap(own) {
				t.Errorf("R3: two lists of an answer share memory: %s", tellWords(words))
			}
			for _, p := range append(given, placeOf(words)) {
				for _, q := range own {
					if p.from < q.to && q.from < p.to {
						t.Errorf("R3: an answer shares memory with an argument: %s", tellWords(words))
					}
				}
			}
			runtime.KeepAlive(r)
			runtime.KeepAlive(l)
			runtime.KeepAlive(words)
		}
		// What is free again may be the memory of a later answer.
		runtime.KeepAlive(db)
	}
}

// loan makes strings of bytes that the test may write into once the call is over,
// as nothing of them is to be kept.
type loan struct{ all [][]byte }

func (o *loan) text(s string) string {
	b := append(make([]byte, 0, len(s)+1), s...)
	o.all = append(o.all, b)
	return unsafe.String(unsafe.SliceData(b), len(b))
}

func (o *loan) texts(l []string) []string {
	var lent []string
	for _, s := range l {
		lent = append(lent, o.text(s))
	}
	return lent
}

func (o *loan) space(db []api.Pair) []api.Pair {
	var l []api.Pair
	for _, p := range db {
		i := api.Item{Kind: p.Item.Kind, S: o.text(p.Item.S), L: o.texts(p.Item.L), Exp: p.Item.Exp}
		for _, f := range p.Item.F {
			i.F = append(i.F, api.Field{Name: o.text(f.Name), Val: o.text(f.Val)})
		}
		l = append(l, api.Pair{Key: o.text(p.Key), Item: i})
	}
	return l
}

func (o *loan) spoil() {
	for _, b := range o.all {
		for i := range b {
			b[i] = '?'
		}
	}
}

// The bytes of strings are memory, too.
func TestStringsAreNewMemory(t *testing.T) {
	for _, row := range some(30) {
		wantR, wantL := Exec(sample(), row, 100)
		var lent loan
		db, words := lent.space(sample()), lent.texts(row)
		r, l := Exec(db, words, 100)
		if !equalSpaces(db, sample()) || !slices.Equal(words, row) {
			t.Errorf("R3: a call writes into strings: %s", tellWords(row))
		}
		lent.spoil()
		if !equalReplies(r, wantR) || !equalEffects(l, wantL) {
			t.Errorf("R3: answers have memory of the arguments: %s: %s %s, want %s %s", tellWords(row), tellReply(r), tellEffects(l), tellReply(wantR), tellEffects(wantL))
		}
	}
}

// Many calls at once on one space: none of them writes into it.
func TestCallsSideBySide(t *testing.T) {
	db := sample()
	rows := some(20)
	answers := make([][]string, 4)
	ended := make(chan int)
	for n := range answers {
		go func() {
			for _, row := range rows {
				r, l := Exec(db, row, 100)
				answers[n] = append(answers[n], tellReply(r)+tellEffects(l))
			}
			ended <- n
		}()
	}
	for range answers {
		<-ended
	}
	for _, l := range answers[1:] {
		if !slices.Equal(l, answers[0]) {
			t.Error("R5: calls side by side have other answers")
		}
	}
}
