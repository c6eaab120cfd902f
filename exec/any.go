package exec

import (
	"slices"

	"caravan/api"
	"caravan/item"
)

// longest is the greatest number of ticks that a life may be set to.
const longest = 1 << 40

func rulesForAny() []rule {
	return []rule{
		{name: "PING", do: (*call).ping},
		{name: "SET", do: (*call).set},
		{name: "SETNX", do: (*call).setnx},
		{name: "SETEX", numbers: []int{2}, do: (*call).setex},
		{name: "MGET", do: (*call).mget},
		{name: "MSET", do: (*call).mset},
		{name: "MSETNX", do: (*call).msetnx},
		{name: "DEL", do: (*call).del},
		{name: "EXISTS", do: (*call).exists},
		{name: "TYPE", do: (*call).typeOf},
		{name: "EXPIRE", numbers: []int{2}, do: (*call).expire},
		{name: "TTL", do: (*call).ttl},
		{name: "PERSIST", do: (*call).persist},
		{name: "RENAME", do: (*call).rename},
	}
}

func (c *call) ping() api.Reply {
	return simple("PONG")
}

func (c *call) set() api.Reply {
	c.giveText(c.words[1], c.words[2], 0)
	return done()
}

func (c *call) setnx() api.Reply {
	if c.has(c.words[1]) {
		return yes(false)
	}
	c.set()
	return yes(true)
}

func (c *call) setex() api.Reply {
	life := c.numbers[0]
	if life < 1 || life > longest {
		return failed()
	}
	c.giveText(c.words[1], c.words[3], c.now+life)
	return done()
}

func (c *call) mget() api.Reply {
	all := api.Reply{Kind: api.RArray}
	for _, key := range c.words[1:] {
		i := c.items[key]
		all.L = append(all.L, bulk(i.S, i.Kind == api.KText))
	}
	return all
}

func (c *call) mset() api.Reply {
	for pair := range slices.Chunk(c.words[1:], 2) {
		c.giveText(pair[0], pair[1], 0)
	}
	return done()
}

func (c *call) msetnx() api.Reply {
	if slices.ContainsFunc(c.keys, c.has) {
		return yes(false)
	}
	c.mset()
	return yes(true)
}

func (c *call) del() api.Reply {
	existed := len(c.items)
	clear(c.items)
	return number(existed)
}

func (c *call) exists() api.Reply {
	n := 0
	for _, key := range c.words[1:] {
		if c.has(key) {
			n++
		}
	}
	return number(n)
}

func (c *call) typeOf() api.Reply {
	return simple(item.Type(c.items[c.words[1]]))
}

func (c *call) expire() api.Reply {
	key, life := c.words[1], c.numbers[0]
	i, has := c.items[key]
	switch {
	case life < -longest || life > longest:
		return failed()
	case !has:
		return yes(false)
	case life < 1:
		delete(c.items, key)
		return yes(true)
	}
	i.Exp = c.now + life
	c.give(key, i)
	return yes(true)
}

func (c *call) ttl() api.Reply {
	i, has := c.items[c.words[1]]
	switch {
	case !has:
		return number(-2)
	case i.Exp == 0:
		return number(-1)
	}
	return number(i.Exp - c.now)
}

func (c *call) persist() api.Reply {
	key := c.words[1]
	i := c.items[key]
	if i.Exp == 0 {
		return yes(false)
	}
	i.Exp = 0
	c.give(key, i)
	return yes(true)
}

func (c *call) rename() api.Reply {
	from, to := c.words[1], c.words[2]
	i, has := c.items[from]
	if !has {
		return failed()
	}
	// In this order the item stays where both are one key.
	delete(c.items, from)
	c.give(to, i)
	return done()
}

func (c *call) giveText(key, s string, exp int) {
	c.give(key, api.Item{Kind: api.KText, S: s, Exp: exp})
}
