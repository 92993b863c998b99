package replicas

import "parcel/api"

// CountOf answers 0 for a site without a clock: no clock or card of a sound
// replica has so low a Count, so such a site covers none.
func CountOf(clocks []api.Clock, site int) int {
	for i := 0; i < len(clocks); i++ {
		if clocks[i].Site == site {
			return clocks[i].Count
		}
	}
	return 0
}

// cardAt is the place of the card with an Id, or the end.
func cardAt(cards []api.Card, id int) int {
	for i := 0; i < len(cards); i++ {
		if cards[i].Id == id {
			return i
		}
	}
	return len(cards)
}

// NewerClocks are the clocks of r that old has not, or with a lesser Count, in
// r's order.
func NewerClocks(old []api.Clock, r []api.Clock) []api.Clock {
	list := []api.Clock{}
	for i := 0; i < len(r); i++ {
		known := CountOf(old, r[i].Site)
		if r[i].Count > known {
			list = append(list, r[i])
		}
	}
	return list
}

// NewerCards are the cards of r that old has not, or with an earlier stamp, in
// r's order.
func NewerCards(old []api.Card, r []api.Card) []api.Card {
	list := []api.Card{}
	for i := 0; i < len(r); i++ {
		at := cardAt(old, r[i].Id)
		if at == len(old) || later(r[i], old[at]) {
			list = append(list, r[i])
		}
	}
	return list
}

// Follows tells whether the sound replica r has all that the sound replica old
// has, as it is there or later (P13).
func Follows(old api.Replica, r api.Replica) bool {
	for i := 0; i < len(old.Clocks); i++ {
		known := CountOf(r.Clocks, old.Clocks[i].Site)
		if known < old.Clocks[i].Count {
			return false
		}
	}
	for i := 0; i < len(old.Cards); i++ {
		at := cardAt(r.Cards, old.Cards[i].Id)
		if at == len(r.Cards) || !cardFollows(old.Cards[i], r.Cards[at]) {
			return false
		}
	}
	return true
}

// cardFollows is asked of two cards with the same Id.
func cardFollows(old api.Card, card api.Card) bool {
	return later(card, old) || sameCard(old, card)
}
