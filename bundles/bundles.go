// Package bundles: links as bundles of bytes, of DOC.md.
package bundles

import (
	"parcel/api"
	"parcel/records"
	"parcel/sums"
)

// magic is what a bundle begins with.
const magic = "PRC1"

// Bundle is the bundle of a link (P4). The numbers and texts of its State are
// those of a sound replica, so that every record fits into a frame.
func Bundle(l api.Link) string {
	list := recordsOf(l)
	body := magic
	for i := 0; i < len(list); i++ {
		frame := records.Frame(list[i])
		body = body + frame
	}
	seal := sums.Seal(body)
	end := sums.FourBytes(seal)
	return body + end
}

func recordsOf(l api.Link) []string {
	head := records.Head(l.Seq, l.Base)
	list := []string{head}
	for i := 0; i < len(l.State.Clocks); i++ {
		record := records.Clock(l.State.Clocks[i])
		list = append(list, record)
	}
	for i := 0; i < len(l.State.Cards); i++ {
		record := records.Card(l.State.Cards[i])
		list = append(list, record)
	}
	for i := 0; i < len(l.State.Edits); i++ {
		record := records.Edit(l.State.Edits[i])
		list = append(list, record)
	}
	return list
}
