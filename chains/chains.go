// Package chains: chains of bundles replayed and extended, of DOC.md.
package chains

import (
	"parcel/api"
	"parcel/bundles"
	"parcel/replicas"
	"parcel/sound"
)

// chain is what a whole chain comes to: its replica, and the seal upon which
// the next link is made.
type chain struct {
	replica api.Replica
	seal    int
}

// Replay is the replica of a chain; or a fault, and which link has it (P12).
func Replay(l []string) (api.Replica, api.Errno, int) {
	c, fault, place := chainOf(l)
	return c.replica, fault, place
}

// Extend is the next bundle of a chain; or a fault, and which link has it (P13).
func Extend(l []string, r api.Replica) (string, api.Errno, int) {
	c, fault, place := chainOf(l)
	if fault != api.OK {
		return "", fault, place
	}
	if len(l) >= api.MaxLinks {
		return "", api.ErrMany, 0
	}
	fault = sound.Check(r)
	if fault != api.OK {
		return "", fault, 0
	}
	if !replicas.Follows(c.replica, r) {
		return "", api.ErrOld, 0
	}
	state := newState(c.replica, r)
	return bundles.Bundle(api.Link{Seq: len(l), Base: c.seal, State: state}), api.OK, 0
}

// newState is asked of a replica r that follows old: what old has otherwise,
// r has newer.
func newState(old api.Replica, r api.Replica) api.Replica {
	clocks := replicas.NewerClocks(old.Clocks, r.Clocks)
	cards := replicas.NewerCards(old.Cards, r.Cards)
	edits := append([]api.Edit{}, r.Edits...)
	return api.Replica{Clocks: clocks, Cards: cards, Edits: edits}
}

// chainOf is what the bundles come to; or a fault, and which link has it.
func chainOf(l []string) (chain, api.Errno, int) {
	if len(l) > api.MaxLinks {
		return chain{}, api.ErrMany, 0
	}
	list, fault := linksOf(l)
	if fault != api.OK {
		return chain{}, fault, len(list)
	}
	place := firstTwice(list)
	if place < len(list) {
		return chain{}, api.ErrTwice, place
	}
	order := inOrder(list)
	if len(list) == 0 || len(order) < len(list) {
		return chain{}, api.ErrMissing, 0
	}
	place = firstLoose(list, order)
	if place < len(list) {
		return chain{}, api.ErrBase, place
	}
	c := laid(order)
	fault = sound.Check(c.replica)
	if fault != api.OK {
		return chain{}, fault, 0
	}
	return c, api.OK, 0
}

// laid lays each link's State over those ahead of it. Only what comes of all
// must be sound: a State alone seldom is.
func laid(order []sealed) chain {
	c := chain{}
	for i := 0; i < len(order); i++ {
		c.replica = replicas.Over(c.replica, order[i].link.State)
		c.seal = order[i].seal
	}
	return c
}
