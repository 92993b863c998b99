package chains

import (
	"parcel/api"
	"parcel/bundles"
)

// sealed is a link, and the seal with which its bundle ends.
type sealed struct {
	link api.Link
	seal int
}

// linksOf are the links up to the first bundle that cannot be read, and its
// fault.
func linksOf(l []string) ([]sealed, api.Errno) {
	list := []sealed{}
	for i := 0; i < len(l); i++ {
		link, fault, _ := bundles.Read(l[i])
		if fault != api.OK {
			return list, fault
		}
		seal := bundles.SealOf(l[i])
		list = append(list, sealed{link: link, seal: seal})
	}
	return list, api.OK
}

// placeOf is the place of the first link with a Seq, or the end.
func placeOf(list []sealed, seq int) int {
	for i := 0; i < len(list); i++ {
		if list[i].link.Seq == seq {
			return i
		}
	}
	return len(list)
}

// firstTwice is the place of the first link whose Seq one ahead of it has too,
// or the end.
func firstTwice(list []sealed) int {
	for i := 0; i < len(list); i++ {
		if placeOf(list, list[i].link.Seq) < i {
			return i
		}
	}
	return len(list)
}

// inOrder are the links with the Seqs below their number, by their Seqs. If no
// Seq is there twice, these are all of them only if no Seq is missing.
func inOrder(list []sealed) []sealed {
	order := []sealed{}
	for seq := 0; seq < len(list); seq++ {
		at := placeOf(list, seq)
		if at < len(list) {
			order = append(order, list[at])
		}
	}
	return order
}

// firstLoose is the place of the first link that was made upon another bundle
// than the one ahead of it in order, or the end.
func firstLoose(list []sealed, order []sealed) int {
	for i := 0; i < len(list); i++ {
		seq := list[i].link.Seq
		if seq < 1 {
			continue
		}
		if seq > len(order) || order[seq-1].seal != list[i].link.Base {
			return i
		}
	}
	return len(list)
}
