package exec

import (
	"slices"

	"caravan/api"
	"caravan/hash"
)

func rulesForHashes() []rule {
	return []rule{
		{name: "HSET", do: (*call).hset},
		{name: "HGET", do: (*call).hget},
		{name: "HDEL", do: (*call).hdel},
		{name: "HLEN", do: (*call).hlen},
		{name: "HEXISTS", do: (*call).hexists},
		{name: "HKEYS", do: (*call).hkeys},
		{name: "HVALS", do: (*call).hvals},
		{name: "HGETALL", do: (*call).hgetall},
		{name: "HINCRBY", numbers: []int{3}, do: (*call).hincrby},
		{name: "HMGET", do: (*call).hmget},
	}
}

func (c *call) hset() api.Reply {
	key := c.words[1]
	i := c.held(key)
	before := len(i.F)
	for pair := range slices.Chunk(c.words[2:], 2) {
		i.F = hash.Set(i.F, pair[0], pair[1])
	}
	c.give(key, i)
	return number(len(i.F) - before)
}

func (c *call) hget() api.Reply {
	return bulk(hash.Get(c.held(c.words[1]).F, c.words[2]))
}

func (c *call) hdel() api.Reply {
	key := c.words[1]
	i := c.held(key)
	before := len(i.F)
	for _, name := range c.words[2:] {
		i.F = hash.Del(i.F, name)
	}
	c.give(key, i)
	return number(before - len(i.F))
}

func (c *call) hlen() api.Reply {
	return number(len(c.held(c.words[1]).F))
}

func (c *call) hexists() api.Reply {
	_, has := hash.Get(c.held(c.words[1]).F, c.words[2])
	return yes(has)
}

func (c *call) hkeys() api.Reply {
	return bulks(hash.Names(c.held(c.words[1]).F))
}

func (c *call) hvals() api.Reply {
	return bulks(hash.Vals(c.held(c.words[1]).F))
}

func (c *call) hgetall() api.Reply {
	var l []string
	for _, field := range c.held(c.words[1]).F {
		l = append(l, field.Name, field.Val)
	}
	return bulks(l)
}

func (c *call) hincrby() api.Reply {
	key, name := c.words[1], c.words[2]
	i := c.held(key)
	val, has := hash.Get(i.F, name)
	s, reply := sum(val, has, c.numbers[0])
	if reply.Kind == api.RInt {
		i.F = hash.Set(i.F, name, s)
		c.give(key, i)
	}
	return reply
}

func (c *call) hmget() api.Reply {
	fields := c.held(c.words[1]).F
	all := api.Reply{Kind: api.RArray}
	for _, name := range c.words[2:] {
		all.L = append(all.L, bulk(hash.Get(fields, name)))
	}
	return all
}
