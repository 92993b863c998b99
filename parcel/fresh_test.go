package parcel

import (
	"reflect"
	"slices"
	"testing"

	"parcel/api"
)

// scribble writes into a list and into its spare room.
func scribble[T any](list []T, x T) {
	for i := range list[:cap(list)] {
		list[:cap(list)][i] = x
	}
}

func scribbleReplica(r api.Replica) {
	scribble(r.Clocks, api.Clock{Site: 77, Count: 77})
	scribble(r.Cards, api.Card{Id: 77, Text: "scribble"})
	scribble(r.Edits, api.Edit{Id: 77, Text: "scribble"})
}

// copyOf shares no room with the replica.
func copyOf(r api.Replica) api.Replica {
	return api.Replica{Clocks: slices.Clone(r.Clocks), Cards: slices.Clone(r.Cards), Edits: slices.Clone(r.Edits)}
}

// Whoever writes into an answer changes no other one, sooner or later (P2).
func TestAnswersShareNoRoom(t *testing.T) {
	for _, r := range []api.Replica{{}, example(), full()} {
		b := mustExport(t, r)
		first, _, _ := Read(b)
		restored, _, _ := Restore(b)
		found := Salvage(b)
		keptRestored, keptFound := copyOf(restored), slices.Clone(found)
		scribbleReplica(first.State)
		if !same(restored, keptRestored) || !slices.Equal(found, keptFound) {
			t.Errorf("P2: an answer of Read shares room")
		}
		second, _, _ := Read(b)
		keptSecond := copyOf(second.State)
		scribbleReplica(restored)
		if !same(second.State, keptSecond) || !slices.Equal(found, keptFound) {
			t.Errorf("P2: an answer of Restore shares room")
		}
		later := Salvage(b)
		scribble(found, api.Found{At: 77, Text: "scribble"})
		if !slices.Equal(later, keptFound) || !same(second.State, keptSecond) {
			t.Errorf("P2: an answer of Salvage shares room")
		}
		again, fault, place := Restore(b)
		if fault != api.OK || place != 0 || !same(again, r) || !sameLink(second, api.Link{State: r}) {
			t.Errorf("P2: the same bundle, later: %+v, %d, %d", again, fault, place)
		}
	}
}

// An answer hangs on its argument alone, not on the calls ahead of it (P2).
func TestAnswersHangOnArgumentsAlone(t *testing.T) {
	list := []string{"", mustExport(t, example()), mustExport(t, full()), bundleOf("\x04\x01abcd", yo), bundleOf(head, head), closed("x"), bundleOf(head, hi)}
	for _, a := range list {
		link, fault, place := Read(a)
		state, wrong, _ := Restore(a)
		found := Salvage(a)
		for _, b := range list {
			Read(b)
			Restore(b)
			Salvage(b)
			l, e, at := Read(a)
			if !reflect.DeepEqual(l, link) || e != fault || at != place {
				t.Errorf("P2: Read(%x) behind %x: %+v, %d, %d", a, b, l, e, at)
			}
			if r, e, at := Restore(a); !reflect.DeepEqual(r, state) || e != wrong || at != place {
				t.Errorf("P2: Restore(%x) behind %x: %+v, %d, %d", a, b, r, e, at)
			}
			if again := Salvage(a); !reflect.DeepEqual(again, found) {
				t.Errorf("P2: Salvage(%x) behind %x: %+v", a, b, again)
			}
		}
	}
}
