// Package records: numbers, records and frames as bytes, of DOC.md.
package records

import (
	"parcel/api"
	"parcel/sums"
)

// Head is the record of a head. A whole bundle, with Seq 0, has no Base in it.
func Head(seq int, base int) string {
	kind := oneByte(api.HeadKind)
	number := Number(seq)
	if seq == 0 {
		return kind + number
	}
	four := sums.FourBytes(base)
	return kind + number + four
}

// Clock is the record of a clock.
func Clock(c api.Clock) string {
	kind := oneByte(api.ClockKind)
	site := Number(c.Site)
	count := Number(c.Count)
	return kind + site + count
}

// Card is the record of a card.
func Card(c api.Card) string {
	kind := oneByte(api.CardKind)
	id := Number(c.Id)
	site := Number(c.Site)
	count := Number(c.Count)
	gone := goneByte(c.Gone)
	return kind + id + site + count + gone + c.Text
}

func goneByte(gone bool) string {
	if gone {
		return oneByte(1)
	}
	return oneByte(0)
}

// Edit is the record of an edit.
func Edit(e api.Edit) string {
	kind := oneByte(api.EditKind)
	id := Number(e.Id)
	return kind + id + e.Text
}
