package bundles

import (
	"parcel/api"
	"parcel/records"
	"parcel/sums"
)

// sealLength is how many bytes the seal at a bundle's end has.
const sealLength = 4

// Read is the link whose bundle it is; or a fault, and its place (P6).
func Read(b string) (api.Link, api.Errno, int) {
	if len(b) < len(magic) || b[:len(magic)] != magic {
		return api.Link{}, api.ErrMagic, 0
	}
	if !sealed(b) {
		return api.Link{}, api.ErrSum, 0
	}
	// The seal is cut off first, so that no frame can reach into it.
	body := b[:len(b)-sealLength]
	list, stop := framesOf(body)
	if stop < len(body) {
		return api.Link{}, api.ErrFrame, stop
	}
	place := outOfOrder(list)
	if place != 0 {
		return api.Link{}, api.ErrOrder, place
	}
	link := linkOf(list)
	return link, api.OK, 0
}

// sealed is asked of bytes that begin with the magic. It is false if they are
// too few to have a seal behind that.
func sealed(b string) bool {
	end := len(b) - sealLength
	if end < len(magic) {
		return false
	}
	seal := sums.Seal(b[:end])
	return b[end:] == sums.FourBytes(seal)
}

// SealOf is the seal with which a bundle ends, as a number; 0, if the bytes are
// too few to have one.
func SealOf(b string) int {
	end := len(b) - sealLength
	if end < 0 {
		return 0
	}
	return sums.FromFourBytes(b[end:])
}

// framesOf is what the frames behind the magic say, and the first place behind
// them at which no frame stands.
func framesOf(body string) ([]api.Found, int) {
	list := []api.Found{}
	at := len(magic)
	for at < len(body) {
		found, length := records.FrameAt(body, at)
		if length == 0 {
			return list, at
		}
		list = append(list, found)
		at = at + length
	}
	return list, at
}

// linkOf takes records that stand in a bundle's order.
func linkOf(list []api.Found) api.Link {
	link := api.Link{}
	clocks := []api.Clock{}
	cards := []api.Card{}
	edits := []api.Edit{}
	for i := 0; i < len(list); i++ {
		f := list[i]
		switch f.Kind {
		case api.HeadKind:
			link.Seq = f.Seq
			link.Base = f.Base
		case api.ClockKind:
			clocks = append(clocks, api.Clock{Site: f.Site, Count: f.Count})
		case api.CardKind:
			cards = append(cards, api.Card{Id: f.Id, Site: f.Site, Count: f.Count, Gone: f.Gone, Text: f.Text})
		case api.EditKind:
			edits = append(edits, api.Edit{Id: f.Id, Text: f.Text})
		}
	}
	link.State = api.Replica{Clocks: clocks, Cards: cards, Edits: edits}
	return link
}
