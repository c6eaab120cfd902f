package exec

import (
	"caravan/api"
	"caravan/sets"
)

func rulesForSets() []rule {
	return []rule{
		{name: "SADD", do: (*call).sadd},
		{name: "SREM", do: (*call).srem},
		{name: "SCARD", do: (*call).length},
		{name: "SISMEMBER", do: (*call).sismember},
		{name: "SMEMBERS", do: (*call).smembers},
		// The least element of a set is its first one.
		{name: "SPOP", do: (*call).popFirst},
		{name: "SMOVE", do: (*call).smove},
		{name: "SINTER", do: (*call).sinter},
		{name: "SUNION", do: (*call).sunion},
		{name: "SDIFF", do: (*call).sdiff},
	}
}

func (c *call) sadd() api.Reply {
	return number(c.insert(c.words[1], c.words[2:]...))
}

func (c *call) srem() api.Reply {
	return number(c.remove(c.words[1], c.words[2:]...))
}

// insert adds elements to a set: how many are new.
func (c *call) insert(key string, l ...string) int {
	i := c.held(key)
	before := len(i.L)
	i.L = sets.Union(i.L, sets.Of(l...))
	c.give(key, i)
	return len(i.L) - before
}

// remove removes elements of a set: how many there were.
func (c *call) remove(key string, l ...string) int {
	i := c.held(key)
	before := len(i.L)
	i.L = sets.Minus(i.L, sets.Of(l...))
	c.give(key, i)
	return before - len(i.L)
}

func (c *call) sismember() api.Reply {
	return yes(sets.Has(c.held(c.words[1]).L, c.words[2]))
}

func (c *call) smembers() api.Reply {
	return bulks(c.held(c.words[1]).L)
}

func (c *call) smove() api.Reply {
	from, to, s := c.words[1], c.words[2], c.words[3]
	has := sets.Has(c.held(from).L, s)
	// Without its only element a set would be gone, and its Exp with it, so it isn't
	// removed and added where both are one key.
	if has && from != to {
		c.remove(from, s)
		c.insert(to, s)
	}
	return yes(has)
}

func (c *call) sinter() api.Reply {
	return bulks(sets.Both(c.sets()...))
}

func (c *call) sunion() api.Reply {
	return bulks(sets.Union(c.sets()...))
}

func (c *call) sdiff() api.Reply {
	all := c.sets()
	return bulks(sets.Minus(all[0], all[1:]...))
}

// sets is the sets of the keys, one for each word.
func (c *call) sets() [][]string {
	var all [][]string
	for _, key := range c.words[1:] {
		all = append(all, c.held(key).L)
	}
	return all
}
