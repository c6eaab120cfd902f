package move

import (
	"reflect"
	"slices"
	"unsafe"
)

// same is whether two values are equal in all of their parts; a list that is nil is the same as an empty one.
func same(a, b any) bool { return sameParts(reflect.ValueOf(a), reflect.ValueOf(b)) }

func sameParts(a, b reflect.Value) bool {
	switch a.Kind() {
	case reflect.Struct:
		for i := range a.NumField() {
			if !sameParts(a.Field(i), b.Field(i)) {
				return false
			}
		}
		return true
	case reflect.Slice:
		if a.Len() != b.Len() {
			return false
		}
		for i := range a.Len() {
			if !sameParts(a.Index(i), b.Index(i)) {
				return false
			}
		}
		return true
	}
	return a.Equal(b)
}

// copier makes values that are equal, in memory of their own.
type copier struct {
	spare int                 // so many places more are behind each list
	whole bool                // the spare places are a part of their list
	text  func(string) string // what becomes of a text
}

func (c copier) of(v reflect.Value) reflect.Value {
	own := reflect.New(v.Type()).Elem()
	switch v.Kind() {
	case reflect.Struct:
		for i := range v.NumField() {
			own.Field(i).Set(c.of(v.Field(i)))
		}
	case reflect.Slice:
		if c.whole {
			v = v.Slice(0, v.Cap())
		}
		own.Set(reflect.MakeSlice(v.Type(), v.Len(), v.Len()+c.spare))
		for i := range v.Len() {
			own.Index(i).Set(c.of(v.Index(i)))
		}
	case reflect.String:
		own.SetString(c.text(v.String()))
	default:
		own.Set(v)
	}
	return own
}

func kept(s string) string { return s }

// again is an equal value in memory of its own, with spare capacity.
func again[T any](v T) T {
	return copier{spare: 2, text: kept}.of(reflect.ValueOf(v)).Interface().(T)
}

// opened is the value as it is now, all spare capacity as a part of it.
func opened[T any](v T) T {
	return copier{whole: true, text: kept}.of(reflect.ValueOf(v)).Interface().(T)
}

// lent is an equal value whose texts are of bytes that the test may write into once the call is over, as nothing of them is to be kept.
func lent[T any](v T) (T, [][]byte) {
	var all [][]byte
	text := func(s string) string {
		b := append(make([]byte, 0, len(s)+1), s...)
		all = append(all, b)
		return unsafe.String(unsafe.SliceData(b), len(b))
	}
	return copier{text: text}.of(reflect.ValueOf(v)).Interface().(T), all
}

// lists goes through all lists of a value, each up to the end of its capacity.
func lists(v reflect.Value, visit func(reflect.Value)) {
	switch v.Kind() {
	case reflect.Struct:
		for i := range v.NumField() {
			lists(v.Field(i), visit)
		}
	case reflect.Slice:
		whole := v.Slice(0, v.Cap())
		for i := range whole.Len() {
			lists(whole.Index(i), visit)
		}
		visit(whole)
	}
}

// spoil writes into all lists of a value, the spare capacity too.
func spoil(v any) {
	lists(reflect.ValueOf(v), func(l reflect.Value) {
		for i := range l.Len() {
			junk(l.Index(i))
		}
	})
}

func junk(v reflect.Value) {
	switch v.Kind() {
	case reflect.Struct:
		for i := range v.NumField() {
			junk(v.Field(i))
		}
	case reflect.String:
		v.SetString("spoilt")
	case reflect.Int:
		v.SetInt(-99)
	case reflect.Bool:
		v.SetBool(!v.Bool())
	}
}

// place is memory from one address up to another.
type place struct{ from, to uintptr }

func places(v any) []place {
	var all []place
	lists(reflect.ValueOf(v), func(l reflect.Value) {
		from := l.Pointer()
		all = append(all, place{from, from + uintptr(l.Len())*l.Type().Elem().Size()})
	})
	return slices.DeleteFunc(all, func(p place) bool { return p.from == p.to })
}

// overlap is whether any two of the places do.
func overlap(l []place) bool {
	l = slices.Clone(l)
	slices.SortFunc(l, func(a, b place) int { return int(a.from) - int(b.from) })
	for i := 1; i < len(l); i++ {
		if l[i].from < l[i-1].to {
			return true
		}
	}
	return false
}

// touch is whether a place of one list overlaps a place of the other.
func touch(a, b []place) bool {
	for _, p := range a {
		if slices.ContainsFunc(b, func(q place) bool { return p.from < q.to && q.from < p.to }) {
			return true
		}
	}
	return false
}
