package exec

import (
	"caravan/api"
	"caravan/list"
)

func rulesForLists() []rule {
	return []rule{
		{name: "LPUSH", do: (*call).lpush},
		{name: "RPUSH", do: (*call).rpush},
		{name: "LPOP", do: (*call).popFirst},
		{name: "RPOP", do: (*call).popLast},
		{name: "LLEN", do: (*call).length},
		{name: "LRANGE", numbers: []int{2, 3}, do: (*call).lrange},
		{name: "LINDEX", numbers: []int{2}, do: (*call).lindex},
		{name: "LSET", numbers: []int{2}, do: (*call).lset},
		{name: "LTRIM", numbers: []int{2, 3}, do: (*call).ltrim},
		{name: "LREM", numbers: []int{2}, do: (*call).lrem},
	}
}

func (c *call) lpush() api.Reply {
	return c.push(true)
}

func (c *call) rpush() api.Reply {
	return c.push(false)
}

func (c *call) push(front bool) api.Reply {
	key := c.words[1]
	i := c.held(key)
	i.L = list.Push(i.L, front, c.words[2:]...)
	c.give(key, i)
	return number(len(i.L))
}

func (c *call) popFirst() api.Reply {
	return c.pop(0, 1, -1)
}

func (c *call) popLast() api.Reply {
	return c.pop(-1, 0, -2)
}

// pop removes the element with the index at; what is left goes from one index to
// another.
func (c *call) pop(at, from, to int) api.Reply {
	key := c.words[1]
	i := c.held(key)
	s, has := list.At(i.L, at)
	i.L = list.Sub(i.L, from, to)
	c.give(key, i)
	return bulk(s, has)
}

func (c *call) length() api.Reply {
	return number(len(c.held(c.words[1]).L))
}

func (c *call) lrange() api.Reply {
	return bulks(list.Sub(c.held(c.words[1]).L, c.numbers[0], c.numbers[1]))
}

func (c *call) lindex() api.Reply {
	return bulk(list.At(c.held(c.words[1]).L, c.numbers[0]))
}

func (c *call) lset() api.Reply {
	key := c.words[1]
	i := c.held(key)
	l, ok := list.Set(i.L, c.numbers[0], c.words[3])
	if !ok {
		return failed()
	}
	i.L = l
	c.give(key, i)
	return done()
}

func (c *call) ltrim() api.Reply {
	key := c.words[1]
	i := c.held(key)
	i.L = list.Sub(i.L, c.numbers[0], c.numbers[1])
	c.give(key, i)
	return done()
}

func (c *call) lrem() api.Reply {
	key := c.words[1]
	i := c.held(key)
	l, removed := list.Rem(i.L, c.numbers[0], c.words[3])
	i.L = l
	c.give(key, i)
	return number(removed)
}
