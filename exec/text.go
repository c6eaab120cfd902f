package exec

import (
	"math"

	"caravan/api"
	"caravan/text"
)

func rulesForTexts() []rule {
	return []rule{
		{name: "GET", do: (*call).get},
		{name: "GETSET", do: (*call).getset},
		{name: "APPEND", do: (*call).appendTo},
		{name: "STRLEN", do: (*call).strlen},
		{name: "GETRANGE", numbers: []int{2, 3}, do: (*call).getrange},
		{name: "SETRANGE", numbers: []int{2}, do: (*call).setrange},
		{name: "INCR", do: (*call).incr},
		{name: "DECR", do: (*call).decr},
		{name: "INCRBY", numbers: []int{2}, do: (*call).incrby},
		{name: "DECRBY", numbers: []int{2}, do: (*call).decrby},
	}
}

func (c *call) get() api.Reply {
	i, has := c.items[c.words[1]]
	return bulk(i.S, has)
}

func (c *call) getset() api.Reply {
	before := c.get()
	c.set()
	return before
}

func (c *call) appendTo() api.Reply {
	i := c.held(c.words[1])
	i.S += c.words[2]
	c.give(c.words[1], i)
	return number(len(i.S))
}

func (c *call) strlen() api.Reply {
	return number(len(c.held(c.words[1]).S))
}

func (c *call) getrange() api.Reply {
	return bulk(text.Sub(c.held(c.words[1]).S, c.numbers[0], c.numbers[1]), true)
}

func (c *call) setrange() api.Reply {
	key, v := c.words[1], c.words[3]
	i := c.held(key)
	s, ok := text.Put(i.S, c.numbers[0], v)
	if !ok {
		return failed()
	}
	// Given the empty string, a missing key would come to be.
	if v != "" {
		i.S = s
		c.give(key, i)
	}
	return number(len(s))
}

func (c *call) incr() api.Reply {
	return c.add(1)
}

func (c *call) decr() api.Reply {
	return c.add(-1)
}

func (c *call) incrby() api.Reply {
	return c.add(c.numbers[0])
}

func (c *call) decrby() api.Reply {
	// There is no number to be added instead of the least one.
	if c.numbers[0] == math.MinInt {
		return failed()
	}
	return c.add(-c.numbers[0])
}

// add adds to the number that the key has, or to 0.
func (c *call) add(n int) api.Reply {
	key := c.words[1]
	i := c.held(key)
	s, reply := sum(i.S, c.has(key), n)
	if reply.Kind == api.RInt {
		i.S = s
		c.give(key, i)
	}
	return reply
}

// sum is a number in a string, or 0 if there is none, and another one: the string
// and the reply.
func sum(s string, has bool, n int) (string, api.Reply) {
	if !has {
		s = "0"
	}
	s, ok := text.Add(s, n)
	if !ok {
		return "", failed()
	}
	total, _ := text.Number(s)
	return s, number(total)
}
