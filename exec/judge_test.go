package exec

import (
	"maps"
	"math/big"
	"slices"
	"strconv"
	"strings"

	"caravan/api"
	"caravan/cmd"
)

// value is an item as the tests hold it: by means of the language alone.
type value struct {
	kind int
	text string
	hash map[string]string
	list []string
	set  map[string]int
	exp  int
}

func valueOf(i api.Item) value {
	v := value{kind: i.Kind, text: i.S, hash: map[string]string{}, set: map[string]int{}, exp: i.Exp}
	for _, f := range i.F {
		v.hash[f.Name] = f.Val
	}
	switch i.Kind {
	case api.KList:
		v.list = slices.Clone(i.L)
	case api.KSet:
		for _, s := range i.L {
			v.set[s] = 1
		}
	}
	return v
}

func (v value) item() api.Item {
	i := api.Item{Kind: v.kind, Exp: v.exp}
	switch v.kind {
	case api.KText:
		i.S = v.text
	case api.KHash:
		for _, name := range slices.Sorted(maps.Keys(v.hash)) {
			i.F = append(i.F, api.Field{Name: name, Val: v.hash[name]})
		}
	case api.KList:
		i.L = slices.Clone(v.list)
	case api.KSet:
		i.L = slices.Sorted(maps.Keys(v.set))
	}
	return i
}

// elements is how many fields or elements there are, and all strings of them.
func (v value) elements() (int, []string) {
	switch v.kind {
	case api.KText:
		return 1, []string{v.text}
	case api.KHash:
		return len(v.hash), slices.Concat(slices.Collect(maps.Keys(v.hash)), slices.Collect(maps.Values(v.hash)))
	case api.KList:
		return len(v.list), v.list
	}
	return len(v.set), slices.Collect(maps.Keys(v.set))
}

func (v value) valid() bool {
	n, all := v.elements()
	for _, s := range all {
		if len(s) > 300 {
			return false
		}
	}
	return n >= 1 && n <= 40 && v.exp >= 0 && v.exp <= 9007199254740992
}

// judge does commands by the sentences of 12.1 on a dictionary, which has just
// what is alive.
type judge struct {
	dict  map[string]value
	words []string
	now   int
	kind  int
	n     []int
	wrong bool
}

func kindFor(name string) int {
	for kind, names := range []string{
		1: " GET GETSET APPEND STRLEN GETRANGE SETRANGE INCR DECR INCRBY DECRBY ",
		2: " HSET HGET HDEL HLEN HEXISTS HKEYS HVALS HGETALL HINCRBY HMGET ",
		3: " LPUSH RPUSH LPOP RPOP LLEN LRANGE LINDEX LSET LTRIM LREM ",
		4: " SADD SREM SCARD SISMEMBER SMEMBERS SPOP SMOVE SINTER SUNION SDIFF ",
	} {
		if strings.Contains(names, " "+name+" ") {
			return kind
		}
	}
	return 0
}

// numbersFor is which words of a command are numbers.
func numbersFor(name string) []int {
	switch name {
	case "SETEX", "EXPIRE", "SETRANGE", "INCRBY", "DECRBY", "LINDEX", "LSET", "LREM":
		return []int{2}
	case "GETRANGE", "LRANGE", "LTRIM":
		return []int{2, 3}
	case "HINCRBY":
		return []int{3}
	}
	return nil
}

func isNumber(s string) (int, bool) {
	n, ok := new(big.Int).SetString(s, 10)
	if !ok || n.String() != s || !n.IsInt64() {
		return 0, false
	}
	return int(n.Int64()), true
}

// plus is the number in the string and some others; it tells whether all that fits
// into 64 bits.
func plus(s string, l ...*big.Int) (string, int, bool) {
	n, ok := isNumber(s)
	if !ok {
		return "", 0, false
	}
	sum := big.NewInt(int64(n))
	for _, m := range l {
		if !m.IsInt64() {
			return "", 0, false
		}
		sum.Add(sum, m)
	}
	return sum.String(), int(sum.Int64()), sum.IsInt64()
}

// within is the indices, of so many, from a to b; i-n is how i is told from the end.
func within(n, a, b int) []int {
	var l []int
	for i := range n {
		fromA := a >= 0 && i >= a || a < 0 && i-n >= a
		toB := b >= 0 && i <= b || b < 0 && i-n <= b
		if fromA && toB {
			l = append(l, i)
		}
	}
	return l
}

// answer is the reply; the dictionary is of use no more where that is an RError.
func (j *judge) answer() api.Reply {
	name := strings.ToUpper(j.words[0])
	j.kind = kindFor(name)
	for _, key := range cmd.Keys(j.words) {
		if v, has := j.dict[key]; has && j.kind != 0 && v.kind != j.kind {
			return api.Reply{Kind: api.RError, S: "WRONGTYPE"}
		}
	}
	j.n = nil
	for _, at := range numbersFor(name) {
		n, ok := isNumber(j.words[at])
		if !ok {
			return fault
		}
		j.n = append(j.n, n)
	}
	var r api.Reply
	switch j.kind {
	case 0:
		r = j.ofAny(name)
	case 1:
		r = j.ofTexts(name)
	case 2:
		r = j.ofHashes(name)
	case 3:
		r = j.ofLists(name)
	default:
		r = j.ofSets(name)
	}
	if j.wrong {
		return fault
	}
	return r
}

var fault = api.Reply{Kind: api.RError, S: "ERR"}

var okay = api.Reply{Kind: api.RSimple, S: "OK"}

func counted(n int) api.Reply { return api.Reply{Kind: api.RInt, N: n} }

func told(s string) api.Reply { return api.Reply{Kind: api.RBulk, S: s} }

var none = api.Reply{Kind: api.RNil}

func row(l ...string) api.Reply {
	r := api.Reply{Kind: api.RArray}
	for _, s := range l {
		r.L = append(r.L, told(s))
	}
	return r
}

// get is a copy of what the key has, an empty value of the Kind if it has nothing.
func (j *judge) get(key string) (value, bool) {
	v, has := j.dict[key]
	if !has {
		return value{kind: j.kind, hash: map[string]string{}, set: map[string]int{}}, false
	}
	return valueOf(v.item()), true
}

func (j *judge) put(key string, v value) {
	if n, _ := v.elements(); n == 0 {
		delete(j.dict, key)
		return
	}
	j.wrong = j.wrong || !v.valid()
	j.dict[key] = v
}

func (j *judge) ofAny(name string) api.Reply {
	k, v := "", ""
	if len(j.words) > 1 {
		k, v = j.words[1], j.words[len(j.words)-1]
	}
	was, has := j.dict[k]
	far := 1099511627776
	switch name {
	case "PING":
		return api.Reply{Kind: api.RSimple, S: "PONG"}
	case "SET":
		j.put(k, value{kind: 1, text: v})
		return okay
	case "SETNX":
		if has {
			return counted(0)
		}
		j.put(k, value{kind: 1, text: v})
		return counted(1)
	case "SETEX":
		if j.n[0] <= 0 || j.n[0] > far {
			return fault
		}
		j.put(k, value{kind: 1, text: v, exp: j.now + j.n[0]})
		return okay
	case "MGET":
		r := row()
		for _, key := range j.words[1:] {
			if v, has := j.dict[key]; has && v.kind == 1 {
				r.L = append(r.L, told(v.text))
			} else {
				r.L = append(r.L, none)
			}
		}
		return r
	case "MSET", "MSETNX":
		for at := 1; at < len(j.words); at += 2 {
			if _, has := j.dict[j.words[at]]; has && name == "MSETNX" {
				return counted(0)
			}
		}
		for at := 1; at < len(j.words); at += 2 {
			j.put(j.words[at], value{kind: 1, text: j.words[at+1]})
		}
		if name == "MSETNX" {
			return counted(1)
		}
		return okay
	case "DEL", "EXISTS":
		n := 0
		for _, key := range j.words[1:] {
			if _, has := j.dict[key]; has {
				n++
			}
			if name == "DEL" {
				delete(j.dict, key)
			}
		}
		return counted(n)
	case "TYPE":
		return api.Reply{Kind: api.RSimple, S: []string{"none", "string", "hash", "list", "set"}[was.kind]}
	case "EXPIRE":
		if j.n[0] < -far || j.n[0] > far {
			return fault
		}
		if !has {
			return counted(0)
		}
		if j.n[0] <= 0 {
			delete(j.dict, k)
			return counted(1)
		}
		was.exp = j.now + j.n[0]
		j.put(k, was)
		return counted(1)
	case "TTL":
		if !has {
			return counted(-2)
		}
		if was.exp == 0 {
			return counted(-1)
		}
		return counted(was.exp - j.now)
	case "PERSIST":
		if !has || was.exp == 0 {
			return counted(0)
		}
		was.exp = 0
		j.put(k, was)
		return counted(1)
	case "RENAME":
		if !has {
			return fault
		}
		if k != v {
			j.put(v, was)
			delete(j.dict, k)
		}
		return okay
	}
	panic("the judge doesn't know " + name)
}

func (j *judge) ofTexts(name string) api.Reply {
	k, last := j.words[1], j.words[len(j.words)-1]
	v, has := j.get(k)
	switch name {
	case "GET":
		if !has {
			return none
		}
		return told(v.text)
	case "GETSET":
		j.put(k, value{kind: 1, text: last})
		if !has {
			return none
		}
		return told(v.text)
	case "APPEND":
		v.text = v.text + last
		j.put(k, v)
		return counted(len(v.text))
	case "STRLEN":
		return counted(len(v.text))
	case "GETRANGE":
		s := ""
		for _, i := range within(len(v.text), j.n[0], j.n[1]) {
			s += v.text[i : i+1]
		}
		return told(s)
	case "SETRANGE":
		at := j.n[0]
		if at < 0 || at > 300-len(last) {
			return fault
		}
		if last == "" {
			return counted(len(v.text))
		}
		b := []byte(v.text)
		for len(b) < at+len(last) {
			b = append(b, 0)
		}
		copy(b[at:], last)
		v.text = string(b)
		j.put(k, v)
		return counted(len(b))
	}
	n := big.NewInt(1)
	if len(j.n) > 0 {
		n = big.NewInt(int64(j.n[0]))
	}
	if name[0] == 'D' {
		n.Neg(n)
	}
	if !has {
		v.text = "0"
	}
	s, sum, ok := plus(v.text, n)
	if !ok {
		return fault
	}
	v.text = s
	j.put(k, v)
	return counted(sum)
}

func (j *judge) ofHashes(name string) api.Reply {
	k := j.words[1]
	v, _ := j.get(k)
	val, has := "", false
	if len(j.words) > 2 {
		val, has = v.hash[j.words[2]]
	}
	names := slices.Sorted(maps.Keys(v.hash))
	switch name {
	case "HSET":
		for at := 2; at < len(j.words); at += 2 {
			v.hash[j.words[at]] = j.words[at+1]
		}
		j.put(k, v)
		return counted(len(v.hash) - len(names))
	case "HGET":
		if !has {
			return none
		}
		return told(val)
	case "HDEL":
		for _, name := range j.words[2:] {
			delete(v.hash, name)
		}
		j.put(k, v)
		return counted(len(names) - len(v.hash))
	case "HLEN":
		return counted(len(v.hash))
	case "HEXISTS":
		if has {
			return counted(1)
		}
		return counted(0)
	case "HKEYS":
		return row(names...)
	case "HVALS", "HGETALL":
		r := row()
		for _, f := range names {
			if name == "HGETALL" {
				r.L = append(r.L, told(f))
			}
			r.L = append(r.L, told(v.hash[f]))
		}
		return r
	case "HMGET":
		r := row()
		for _, name := range j.words[2:] {
			if val, has := v.hash[name]; has {
				r.L = append(r.L, told(val))
			} else {
				r.L = append(r.L, none)
			}
		}
		return r
	case "HINCRBY":
		if !has {
			val = "0"
		}
		s, sum, ok := plus(val, big.NewInt(int64(j.n[0])))
		if !ok {
			return fault
		}
		v.hash[j.words[2]] = s
		j.put(k, v)
		return counted(sum)
	}
	panic("the judge doesn't know " + name)
}

// chosen is the elements with these indices.
func chosen(l []string, at []int) []string {
	var some []string
	for _, i := range at {
		some = append(some, l[i])
	}
	return some
}

func (j *judge) ofLists(name string) api.Reply {
	k, last := j.words[1], j.words[len(j.words)-1]
	v, _ := j.get(k)
	count := len(v.list)
	// The one place of an index, told either way, if there is one.
	var at []int
	if len(j.n) > 0 {
		at = within(count, j.n[0], j.n[0])
	}
	switch name {
	case "LPUSH", "RPUSH":
		for _, s := range j.words[2:] {
			if name == "LPUSH" {
				v.list = append([]string{s}, v.list...)
			} else {
				v.list = append(v.list, s)
			}
		}
		j.put(k, v)
		return counted(len(v.list))
	case "LPOP", "RPOP":
		if count == 0 {
			return none
		}
		first, end := v.list[0], v.list[count-1]
		if name == "LPOP" {
			v.list = v.list[1:]
			j.put(k, v)
			return told(first)
		}
		v.list = v.list[:count-1]
		j.put(k, v)
		return told(end)
	case "LLEN":
		return counted(count)
	case "LRANGE":
		return row(chosen(v.list, within(count, j.n[0], j.n[1]))...)
	case "LINDEX":
		if len(at) == 0 {
			return none
		}
		return told(v.list[at[0]])
	case "LSET":
		if len(at) == 0 {
			return fault
		}
		v.list[at[0]] = last
		j.put(k, v)
		return okay
	case "LTRIM":
		v.list = chosen(v.list, within(count, j.n[0], j.n[1]))
		j.put(k, v)
		return okay
	case "LREM":
		var equal []int
		for i, s := range v.list {
			if s == last {
				equal = append(equal, i)
			}
		}
		if n := j.n[0]; n > 0 && n < len(equal) {
			equal = equal[:n]
		} else if n < 0 && n > -len(equal) {
			equal = equal[len(equal)+n:]
		}
		var rest []string
		for i, s := range v.list {
			if !slices.Contains(equal, i) {
				rest = append(rest, s)
			}
		}
		v.list = rest
		j.put(k, v)
		return counted(len(equal))
	}
	panic("the judge doesn't know " + name)
}

func (j *judge) ofSets(name string) api.Reply {
	k := j.words[1]
	v, _ := j.get(k)
	count := len(v.set)
	all := slices.Sorted(maps.Keys(v.set))
	switch name {
	case "SADD", "SREM":
		for _, s := range j.words[2:] {
			if name == "SADD" {
				v.set[s] = 1
			} else {
				delete(v.set, s)
			}
		}
		j.put(k, v)
		return counted(max(len(v.set)-count, count-len(v.set)))
	case "SCARD":
		return counted(count)
	case "SISMEMBER":
		return counted(v.set[j.words[2]])
	case "SMEMBERS":
		return row(all...)
	case "SPOP":
		if count == 0 {
			return none
		}
		delete(v.set, all[0])
		j.put(k, v)
		return told(all[0])
	case "SMOVE":
		to, s := j.words[2], j.words[3]
		if v.set[s] == 0 {
			return counted(0)
		}
		if k != to {
			delete(v.set, s)
			j.put(k, v)
			other, _ := j.get(to)
			other.set[s] = 1
			j.put(to, other)
		}
		return counted(1)
	}
	// How many of the sets have each string.
	in := map[string]int{}
	for _, key := range j.words[1:] {
		set, _ := j.get(key)
		for s := range set.set {
			in[s]++
		}
	}
	maps.DeleteFunc(in, func(s string, n int) bool {
		switch name {
		case "SINTER":
			return n < len(j.words)-1
		case "SDIFF":
			return v.set[s] == 0 || n > 1
		}
		return false
	})
	return row(slices.Sorted(maps.Keys(in))...)
}

// judged is Exec by the sentences of 12.1.
func judged(db []api.Pair, words []string, now int) (api.Reply, []api.Effect) {
	if _, ok := cmd.Check(words); !ok {
		return fault, nil
	}
	keys := map[string]int{}
	for i, key := range slices.Backward(cmd.Keys(words)) {
		keys[key] = i
	}
	before := map[string]api.Item{}
	j := judge{dict: map[string]value{}, words: words, now: now}
	for _, p := range db {
		if _, named := keys[p.Key]; !named {
			continue
		}
		before[p.Key] = p.Item
		if p.Item.Exp == 0 || p.Item.Exp > now {
			j.dict[p.Key] = valueOf(p.Item)
		}
	}
	r := j.answer()
	if r.Kind == api.RError {
		return r, nil
	}
	var l []api.Effect
	for _, key := range slices.SortedFunc(maps.Keys(keys), func(a, b string) int { return keys[a] - keys[b] }) {
		was, had := before[key]
		is, has := j.dict[key]
		switch {
		case had && !has:
			l = append(l, api.Effect{Key: key, Gone: true})
		case has && (!had || !equalItems(was, is.item())):
			l = append(l, api.Effect{Key: key, Item: is.item()})
		}
	}
	return r, l
}

// short is a string as a test tells it.
func short(s string) string {
	if len(s) > 44 {
		return strconv.Quote(s[:24]) + ".. of " + strconv.Itoa(len(s))
	}
	return strconv.Quote(s)
}
