package parcel

import (
	"encoding/binary"
	"maps"
	"slices"

	"parcel/api"
)

// The model of Merge, Replay and Extend: by maps, and by the document's words
// one after the other.

func modelLater(a, b api.Card) bool {
	return a.Count > b.Count || a.Count == b.Count && a.Site > b.Site
}

func modelSameStamp(a, b api.Card) bool {
	return a.Site == b.Site && a.Count == b.Count
}

// modelReplica lays out what two maps hold, the Sites and Ids rising.
func modelReplica(counts map[int]int, cards map[int]api.Card, edits []api.Edit) api.Replica {
	r := api.Replica{Edits: edits}
	for _, site := range slices.Sorted(maps.Keys(counts)) {
		r.Clocks = append(r.Clocks, api.Clock{Site: site, Count: counts[site]})
	}
	for _, id := range slices.Sorted(maps.Keys(cards)) {
		r.Cards = append(r.Cards, cards[id])
	}
	return r
}

func modelMerge(a, b api.Replica) (api.Replica, api.Errno) {
	for _, r := range []api.Replica{a, b} {
		if e := Check(r); e != api.OK {
			return api.Replica{}, e
		}
	}
	for _, x := range a.Cards {
		for _, y := range b.Cards {
			if modelSameStamp(x, y) && x != y {
				return api.Replica{}, api.ErrClash
			}
		}
	}
	counts := map[int]int{}
	for _, c := range slices.Concat(a.Clocks, b.Clocks) {
		counts[c.Site] = max(counts[c.Site], c.Count)
	}
	cards := map[int]api.Card{}
	for _, c := range slices.Concat(a.Cards, b.Cards) {
		if there, ok := cards[c.Id]; !ok || modelLater(c, there) {
			cards[c.Id] = c
		}
	}
	edits := slices.Clone(a.Edits)
	for _, e := range b.Edits {
		if !slices.Contains(edits, e) {
			edits = append(edits, e)
		}
	}
	if len(counts) > 8 || len(cards) > 40 || len(edits) > 16 {
		return api.Replica{}, api.ErrMany
	}
	return modelReplica(counts, cards, edits), api.OK
}

func modelReplay(l []string) (api.Replica, api.Errno, int) {
	if len(l) > 16 {
		return api.Replica{}, api.ErrMany, 0
	}
	links := []api.Link{}
	for i, b := range l {
		link, e, _ := modelRead(b)
		if e != api.OK {
			return api.Replica{}, e, i
		}
		links = append(links, link)
	}
	places := map[int]int{}
	for i, link := range links {
		if _, ok := places[link.Seq]; ok {
			return api.Replica{}, api.ErrTwice, i
		}
		places[link.Seq] = i
	}
	if !slices.Equal(slices.Sorted(maps.Keys(places)), firstNumbers(len(l))) || len(l) == 0 {
		return api.Replica{}, api.ErrMissing, 0
	}
	for i, link := range links {
		if link.Seq > 0 && link.Base != modelSeal(l[places[link.Seq-1]]) {
			return api.Replica{}, api.ErrBase, i
		}
	}
	counts, cards, edits := map[int]int{}, map[int]api.Card{}, []api.Edit{}
	for seq := range links {
		state := links[places[seq]].State
		for _, c := range state.Clocks {
			counts[c.Site] = c.Count
		}
		for _, c := range state.Cards {
			cards[c.Id] = c
		}
		edits = state.Edits
	}
	r := modelReplica(counts, cards, edits)
	if e := Check(r); e != api.OK {
		return api.Replica{}, e, 0
	}
	return r, api.OK, 0
}

func firstNumbers(many int) []int {
	list := []int{}
	for i := range many {
		list = append(list, i)
	}
	return list
}

func modelSeal(b string) int {
	return int(binary.BigEndian.Uint32([]byte(b[len(b)-4:])))
}

func modelFollows(old, r api.Replica) bool {
	for _, c := range old.Clocks {
		if !slices.ContainsFunc(r.Clocks, func(d api.Clock) bool { return d.Site == c.Site && d.Count >= c.Count }) {
			return false
		}
	}
	for _, c := range old.Cards {
		if !slices.ContainsFunc(r.Cards, func(d api.Card) bool { return d.Id == c.Id && (d == c || modelLater(d, c)) }) {
			return false
		}
	}
	return true
}

func modelExtend(l []string, r api.Replica) (string, api.Errno, int) {
	old, e, at := modelReplay(l)
	if e != api.OK {
		return "", e, at
	}
	if len(l) == 16 {
		return "", api.ErrMany, 0
	}
	if e := Check(r); e != api.OK {
		return "", e, 0
	}
	if !modelFollows(old, r) {
		return "", api.ErrOld, 0
	}
	state := api.Replica{Edits: r.Edits}
	for _, c := range r.Clocks {
		if !slices.Contains(old.Clocks, c) {
			state.Clocks = append(state.Clocks, c)
		}
	}
	for _, c := range r.Cards {
		if !slices.Contains(old.Cards, c) {
			state.Cards = append(state.Cards, c)
		}
	}
	for _, b := range l {
		if link, _, _ := modelRead(b); link.Seq == len(l)-1 {
			return linkBundle(len(l), b[len(b)-4:], state), api.OK, 0
		}
	}
	return "", api.ErrMissing, 0
}

// linkBundle is a link's bundle, made without the program; the base as bytes.
func linkBundle(seq int, base string, state api.Replica) string {
	list := recordsOf(state)
	if seq != 0 {
		list[0] = "\x04" + numbers(seq) + base
	}
	return bundleOf(list...)
}

// chainBundles are the bundles of a chain with these States, made without the program.
func chainBundles(states ...api.Replica) []string {
	list := []string{}
	base := ""
	for seq, state := range states {
		b := linkBundle(seq, base, state)
		base = b[len(b)-4:]
		list = append(list, b)
	}
	return list
}
