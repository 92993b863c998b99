package parcel

import (
	"encoding/binary"
	"slices"
	"strings"

	"parcel/api"
)

// The model says what Read, Salvage, Split and Join answer, by the library's
// numbers and sums, and by the document's words one after the other.

// modelNumbers takes some numbers off the front: each is written again, and
// must come out as it was.
func modelNumbers(s string, many int) ([]int, string, bool) {
	list := []int{}
	for ; many > 0; many-- {
		n, length := binary.Uvarint([]byte(s))
		if length < 1 || length > 9 || s[:length] != numbers(int(n)) {
			return nil, "", false
		}
		list = append(list, int(n))
		s = s[length:]
	}
	return list, s, true
}

func modelRecord(record string) (api.Found, bool) {
	if record == "" || record[0] < 1 || record[0] > 4 {
		return api.Found{}, false
	}
	kind := int(record[0])
	list, rest, ok := modelNumbers(record[1:], []int{2, 3, 1, 1}[kind-1])
	if !ok {
		return api.Found{}, false
	}
	switch {
	case kind == 1 && rest == "":
		return api.Found{Kind: 1, Site: list[0], Count: list[1]}, true
	case kind == 2 && (strings.HasPrefix(rest, "\x00") || strings.HasPrefix(rest, "\x01")):
		return api.Found{Kind: 2, Id: list[0], Site: list[1], Count: list[2], Gone: rest[0] == 1, Text: rest[1:]}, true
	case kind == 3:
		return api.Found{Kind: 3, Id: list[0], Text: rest}, true
	case kind == 4 && list[0] == 0 && rest == "":
		return api.Found{Kind: 4}, true
	case kind == 4 && list[0] != 0 && len(rest) == 4:
		return api.Found{Kind: 4, Seq: list[0], Base: int(binary.BigEndian.Uint32([]byte(rest)))}, true
	}
	return api.Found{}, false
}

// modelFrame makes the frame that would stand there, and looks whether it does.
func modelFrame(b string, at int) (api.Found, int) {
	rest := b[at:]
	if len(rest) < 3 || len(rest) < 3+int(rest[2]) {
		return api.Found{}, 0
	}
	record := rest[3 : 3+int(rest[2])]
	found, ok := modelRecord(record)
	frame := frameOf(record)
	if !ok || !strings.HasPrefix(rest, frame) {
		return api.Found{}, 0
	}
	found.At = at
	return found, len(frame)
}

func modelSalvage(b string) []api.Found {
	list := []api.Found{}
	for at := 0; at < len(b); {
		found, length := modelFrame(b, at)
		if length > 0 {
			list = append(list, found)
		}
		at += max(length, 1)
	}
	return list
}

func modelRead(b string) (api.Link, api.Errno, int) {
	if !strings.HasPrefix(b, "PRC1") {
		return api.Link{}, api.ErrMagic, 0
	}
	if len(b) < 8 || !strings.HasSuffix(b, sealOf(b[:len(b)-4])) {
		return api.Link{}, api.ErrSum, 0
	}
	list := []api.Found{}
	for at := 4; at < len(b)-4; {
		found, length := modelFrame(b[:len(b)-4], at)
		if length == 0 {
			return api.Link{}, api.ErrFrame, at
		}
		list = append(list, found)
		at += length
	}
	if len(list) == 0 {
		return api.Link{}, api.ErrOrder, 4
	}
	for i := range list {
		if modelMisplaced(list, i) {
			return api.Link{}, api.ErrOrder, list[i].At
		}
	}
	return modelLink(list), api.OK, 0
}

// modelMisplaced looks at all frames ahead, each time anew.
func modelMisplaced(list []api.Found, i int) bool {
	f := list[i]
	if (i == 0) != (f.Kind == api.HeadKind) {
		return true
	}
	for _, ahead := range list[:i] {
		if f.Kind == api.ClockKind && (ahead.Kind == api.CardKind || ahead.Kind == api.EditKind) {
			return true
		}
		if f.Kind == api.CardKind && ahead.Kind == api.EditKind {
			return true
		}
		if f.Kind == api.ClockKind && ahead.Kind == api.ClockKind && f.Site <= ahead.Site {
			return true
		}
		if f.Kind == api.CardKind && ahead.Kind == api.CardKind && f.Id <= ahead.Id {
			return true
		}
	}
	return false
}

func modelLink(list []api.Found) api.Link {
	l := api.Link{Seq: list[0].Seq, Base: list[0].Base}
	for _, f := range list[1:] {
		switch f.Kind {
		case api.ClockKind:
			l.State.Clocks = append(l.State.Clocks, api.Clock{Site: f.Site, Count: f.Count})
		case api.CardKind:
			l.State.Cards = append(l.State.Cards, api.Card{Id: f.Id, Site: f.Site, Count: f.Count, Gone: f.Gone, Text: f.Text})
		default:
			l.State.Edits = append(l.State.Edits, api.Edit{Id: f.Id, Text: f.Text})
		}
	}
	return l
}

// modelLinkOfRecords takes records that are in order.
func modelLinkOfRecords(list []string) api.Link {
	found := []api.Found{}
	for _, record := range list {
		f, _ := modelRecord(record)
		found = append(found, f)
	}
	return modelLink(found)
}

// modelSplit has as many volumes as must be, to have room for all.
func modelSplit(b string, size int) ([]string, api.Errno) {
	if size < 40 || size > 4000 || len(b) > 6000 {
		return nil, api.ErrSize
	}
	count := 1
	for count*(size-14) < len(b) {
		count++
	}
	list := []string{}
	whole := sumOf(b)
	for i := range count {
		part := b[i*(size-14) : min((i+1)*(size-14), len(b))]
		list = append(list, volumeOf(i, count, whole, part))
	}
	return list, api.OK
}

func modelJoin(l []string) (string, api.Errno, int) {
	for i, s := range l {
		if len(s) < 14 || s[:4] != "VOL1" || int(s[4]) >= int(s[5]) || s[len(s)-4:] != sumOf(s[:len(s)-4]) {
			return "", api.ErrVolume, i
		}
	}
	for i, s := range l {
		if s[5:10] != l[0][5:10] {
			return "", api.ErrMixed, i
		}
	}
	for i, s := range l {
		if slices.ContainsFunc(l[:i], func(ahead string) bool { return ahead[4] == s[4] }) {
			return "", api.ErrTwice, i
		}
	}
	if len(l) == 0 || len(l) != int(l[0][5]) {
		return "", api.ErrMissing, 0
	}
	order := slices.Clone(l)
	slices.SortFunc(order, func(a, b string) int { return int(a[4]) - int(b[4]) })
	b := ""
	for _, s := range order {
		b += s[10 : len(s)-4]
	}
	if sumOf(b) != l[0][6:10] {
		return "", api.ErrSum, 0
	}
	return b, api.OK, 0
}
