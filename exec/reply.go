package exec

import "caravan/api"

func failed() api.Reply {
	return api.Reply{Kind: api.RError, S: "ERR"}
}

func done() api.Reply {
	return simple("OK")
}

func simple(s string) api.Reply {
	return api.Reply{Kind: api.RSimple, S: s}
}

func number(n int) api.Reply {
	return api.Reply{Kind: api.RInt, N: n}
}

// yes is 1 if something holds, and 0 if not.
func yes(holds bool) api.Reply {
	if holds {
		return number(1)
	}
	return number(0)
}

// bulk is the string, if there is one.
func bulk(s string, has bool) api.Reply {
	if !has {
		return api.Reply{Kind: api.RNil}
	}
	return api.Reply{Kind: api.RBulk, S: s}
}

func bulks(l []string) api.Reply {
	all := api.Reply{Kind: api.RArray}
	for _, s := range l {
		all.L = append(all.L, bulk(s, true))
	}
	return all
}
