package exec

import (
	"slices"
	"strings"

	"caravan/api"
	"caravan/cmd"
	"caravan/item"
	"caravan/space"
	"caravan/text"
)

// call is a command on its way. It changes what its keys have here; the space
// itself is only read, and only at those keys.
type call struct {
	words   []string
	now     int
	kind    int
	numbers []int
	keys    []string            // each once, in the order of the words
	before  map[string]api.Item // what the keys had, alive or not
	items   map[string]api.Item // what they have by now
	invalid bool                // whether a key was given an item that isn't valid
}

func begin(db []api.Pair, words []string, now int) *call {
	c := &call{words: words, now: now, before: map[string]api.Item{}, items: map[string]api.Item{}}
	for _, key := range cmd.Keys(words) {
		if slices.Contains(c.keys, key) {
			continue
		}
		c.keys = append(c.keys, key)
		i, has := space.Raw(db, key)
		if !has {
			continue
		}
		c.before[key] = i
		if item.Alive(i, now) {
			c.items[key] = i
		}
	}
	return c
}

// follow does what the rule says, if keys, numbers and what comes of them allow it.
func (c *call) follow(r rule) api.Reply {
	c.kind = r.kind
	if !c.fits() {
		return api.Reply{Kind: api.RError, S: "WRONGTYPE"}
	}
	if !c.read(r.numbers) {
		return failed()
	}
	reply := r.do(c)
	if c.invalid {
		return failed()
	}
	return reply
}

// fits is whether no key has an item of another Kind than the rule is for.
func (c *call) fits() bool {
	for _, i := range c.items {
		if c.kind != anyKind && i.Kind != c.kind {
			return false
		}
	}
	return true
}

// read takes the words with these indices as numbers, if they all are some.
func (c *call) read(numbers []int) bool {
	for _, at := range numbers {
		n, ok := text.Number(c.words[at])
		if !ok {
			return false
		}
		c.numbers = append(c.numbers, n)
	}
	return true
}

// effects is how the keys differ from what they were.
func (c *call) effects() []api.Effect {
	var l []api.Effect
walk:
	for _, key := range c.keys {
		after, has := c.items[key]
		switch {
		case item.Same(c.before[key], after):
			continue walk
		case has:
			l = append(l, api.Effect{Key: strings.Clone(key), Item: item.Copy(after)})
		default:
			l = append(l, api.Effect{Key: strings.Clone(key), Gone: true})
		}
	}
	return l
}

func (c *call) has(key string) bool {
	_, has := c.items[key]
	return has
}

// held is what the key has; without anything that is an empty item of the rule's
// Kind.
func (c *call) held(key string) api.Item {
	i := c.items[key]
	i.Kind = c.kind
	return i
}

// give gives the key an item; one that has become empty is none.
func (c *call) give(key string, i api.Item) {
	if i.Kind != api.KText && len(i.F) == 0 && len(i.L) == 0 {
		delete(c.items, key)
		return
	}
	c.invalid = c.invalid || !item.May(i)
	c.items[key] = i
}
