package records

import "parcel/api"

// foundIn is what a record says, and whether the bytes are a record at all.
// Any numbers and texts are let by: whether a replica may have them is asked
// elsewhere.
func foundIn(record string) (api.Found, bool) {
	if record == "" {
		return api.Found{}, false
	}
	c := cursor{left: record[1:]}
	found := api.Found{}
	switch record[0] {
	case api.HeadKind:
		found = takeHead(&c)
	case api.ClockKind:
		found = takeClock(&c)
	case api.CardKind:
		found = takeCard(&c)
	case api.EditKind:
		found = takeEdit(&c)
	default:
		c.failed = true
	}
	if c.failed {
		return api.Found{}, false
	}
	return found, true
}

func takeHead(c *cursor) api.Found {
	seq := c.number()
	base := 0
	if seq != 0 {
		base = c.fourBytes()
	}
	c.end()
	return api.Found{Kind: api.HeadKind, Seq: seq, Base: base}
}

func takeClock(c *cursor) api.Found {
	site := c.number()
	count := c.number()
	c.end()
	return api.Found{Kind: api.ClockKind, Site: site, Count: count}
}

func takeCard(c *cursor) api.Found {
	id := c.number()
	site := c.number()
	count := c.number()
	gone := c.flag()
	return api.Found{Kind: api.CardKind, Id: id, Site: site, Count: count, Gone: gone, Text: c.left}
}

func takeEdit(c *cursor) api.Found {
	id := c.number()
	return api.Found{Kind: api.EditKind, Id: id, Text: c.left}
}
