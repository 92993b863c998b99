package parcel

import (
	"math/rand"
	"reflect"
	"slices"
	"strings"
	"testing"

	"parcel/api"
)

// scribble writes into a list and into its spare room.
func scribble[T any](list []T, x T) {
	for i := range list[:cap(list)] {
		list[:cap(list)][i] = x
	}
}

func scribbleReplica(r api.Replica) {
	scribble(r.Clocks, api.Clock{Site: 77, Count: 77})
	scribble(r.Cards, api.Card{Id: 77, Text: "scribble"})
	scribble(r.Edits, api.Edit{Id: 77, Text: "scribble"})
}

// copyOf shares no room with the replica.
func copyOf(r api.Replica) api.Replica {
	return api.Replica{Clocks: slices.Clone(r.Clocks), Cards: slices.Clone(r.Cards), Edits: slices.Clone(r.Edits)}
}

// Whoever writes into an answer changes no other one, sooner or later (P2).
func TestAnswersShareNoRoom(t *testing.T) {
	for _, r := range []api.Replica{{}, example(), full()} {
		b := mustExport(t, r)
		first, _, _ := Read(b)
		restored, _, _ := Restore(b)
		found := Salvage(b)
		keptRestored, keptFound := copyOf(restored), slices.Clone(found)
		scribbleReplica(first.State)
		if !same(restored, keptRestored) || !slices.Equal(found, keptFound) {
			t.Errorf("P2: an answer of Read shares room")
		}
		second, _, _ := Read(b)
		keptSecond := copyOf(second.State)
		scribbleReplica(restored)
		if !same(second.State, keptSecond) || !slices.Equal(found, keptFound) {
			t.Errorf("P2: an answer of Restore shares room")
		}
		later := Salvage(b)
		scribble(found, api.Found{At: 77, Text: "scribble"})
		if !slices.Equal(later, keptFound) || !same(second.State, keptSecond) {
			t.Errorf("P2: an answer of Salvage shares room")
		}
		again, fault, place := Restore(b)
		if fault != api.OK || place != 0 || !same(again, r) || !sameLink(second, api.Link{State: r}) {
			t.Errorf("P2: the same bundle, later: %+v, %d, %d", again, fault, place)
		}
	}
}

// An answer hangs on its argument alone, not on the calls ahead of it (P2).
func TestAnswersHangOnArgumentsAlone(t *testing.T) {
	list := []string{"", mustExport(t, example()), mustExport(t, full()), bundleOf("\x04\x01abcd", yo), bundleOf(head, head), closed("x"), bundleOf(head, hi)}
	for _, a := range list {
		link, fault, place := Read(a)
		state, wrong, _ := Restore(a)
		found := Salvage(a)
		for _, b := range list {
			Read(b)
			Restore(b)
			Salvage(b)
			l, e, at := Read(a)
			if !reflect.DeepEqual(l, link) || e != fault || at != place {
				t.Errorf("P2: Read(%x) behind %x: %+v, %d, %d", a, b, l, e, at)
			}
			if r, e, at := Restore(a); !reflect.DeepEqual(r, state) || e != wrong || at != place {
				t.Errorf("P2: Restore(%x) behind %x: %+v, %d, %d", a, b, r, e, at)
			}
			if again := Salvage(a); !reflect.DeepEqual(again, found) {
				t.Errorf("P2: Salvage(%x) behind %x: %+v", a, b, again)
			}
		}
	}
}

// Whoever writes into a list of volumes changes no other one, sooner or later (P2).
func TestVolumesShareNoRoom(t *testing.T) {
	for _, b := range []string{"", "a", mustExport(t, example()), mustExport(t, full())} {
		first := mustSplit(t, b, 40)
		second := mustSplit(t, b, 40)
		kept := slices.Clone(first)
		scribble(first, "scribble")
		if !slices.Equal(second, kept) {
			t.Errorf("P2: an answer of Split shares room")
		}
		back, fault, place := Join(second)
		scribble(second, "scribble")
		if back != b || fault != api.OK || place != 0 {
			t.Errorf("P2: Join, behind the caller's writing: %x, %d, %d", back, fault, place)
		}
		if later := mustSplit(t, b, 40); !slices.Equal(later, kept) {
			t.Errorf("P2: Split, behind the caller's writing: %x", later)
		}
	}
}

// Join writes neither into the list nor behind it, and keeps nothing of it (P2).
func TestJoinLeavesTheList(t *testing.T) {
	lists := [][]string{nil, {}, mustSplit(t, mustExport(t, example()), 40), volumesOf("c", "a", "b")}
	for _, c := range noJoins() {
		lists = append(lists, c.l)
	}
	for _, l := range lists {
		given := append(append(append([]string{}, "ahead"), l...), "spare", "room")
		before := slices.Clone(given)
		b, fault, place := Join(given[1 : len(l)+1])
		if !slices.Equal(given, before) {
			t.Errorf("P2: %x became %x", before, given)
		}
		want, e, at := modelJoin(l)
		scribble(given, "scribble")
		if b != want || fault != e || place != at {
			t.Errorf("P2: Join(%x) = %x, %d, %d, behind the caller's writing", l, b, fault, place)
		}
	}
}

// Answers of Split and Join hang on their arguments alone (P2).
func TestVolumesHangOnArgumentsAlone(t *testing.T) {
	bytes := []string{"", "abc", mustExport(t, example()), mustExport(t, full())}
	lists := [][]string{nil, volumesOf(""), volumesOf("a", "b"), volumesOf("c", "d", "e")[1:], volumesOf("f", "g")[:1], {"x"}}
	for _, b := range bytes {
		want, _ := modelSplit(b, 41)
		for _, l := range lists {
			text, fault, place := modelJoin(l)
			for range 2 {
				if back, e, at := Join(l); back != text || e != fault || at != place {
					t.Errorf("P2: Join(%x) = %x, %d, %d", l, back, e, at)
				}
				if list := mustSplit(t, b, 41); !slices.Equal(list, want) {
					t.Errorf("P2: Split(%x) = %x", b, list)
				}
				Split(b, 39)
			}
		}
	}
}

// Merge, Replay and Extend write neither into what is handed in nor behind it (P2).
func TestMergeAndChainsLeaveWhatIsHandedIn(t *testing.T) {
	random := rand.New(rand.NewSource(30))
	list := []api.Replica{{}, example(), newer(), third(), full(), wildReplica(random), counted(1, 1, 40)}
	for k := 0; k < 20; k++ {
		list = append(list, closeReplica(random), someReplica(random))
	}
	chain := following(t, example(), newer(), newer())
	for _, r := range list {
		given, before := roomy(r), whole(roomy(r))
		for _, other := range list {
			second, unchanged := roomy(other), whole(roomy(other))
			Merge(given, second)
			Merge(second, given)
			if !reflect.DeepEqual(whole(given), before) || !reflect.DeepEqual(whole(second), unchanged) {
				t.Fatalf("P2: Merge made %+v of %+v", whole(given), before)
			}
		}
		Merge(given, given)
		for _, l := range [][]string{nil, {"x"}, picked(chain, 2, 0, 1), picked(chain, 1, 0), picked(chain, 1, 1), picked(chain, 0, 2)} {
			bundles := append(append([]string{"ahead"}, l...), "spare", "room")
			kept := slices.Clone(bundles)
			Replay(bundles[1 : len(l)+1])
			Extend(bundles[1:len(l)+1], given)
			if !slices.Equal(bundles, kept) || !reflect.DeepEqual(whole(given), before) {
				t.Fatalf("P2: Extend made %x, %+v of %x, %+v", bundles, whole(given), kept, before)
			}
		}
	}
}

// An answer stays when what was handed in is changed, and when another answer is (P2).
func TestMergeAndChainsShareNoRoom(t *testing.T) {
	for _, r := range []api.Replica{{}, example(), newer(), full(), edited("ab"), ticked(1, 2), counted(1, 1, 40)} {
		for _, other := range []api.Replica{{}, r} {
			a, b := roomy(r), roomy(other)
			first, _ := Merge(a, b)
			second, _ := Merge(b, a)
			third, _ := Merge(first, second)
			scribbleReplica(a)
			scribbleReplica(b)
			if !same(first, r) || !same(second, r) {
				t.Errorf("P2: Merge keeps what it was given: %+v, %+v", first, second)
			}
			scribbleReplica(first)
			if !same(second, r) || !same(third, r) {
				t.Errorf("P2: an answer of Merge shares room: %+v, %+v", second, third)
			}
			scribbleReplica(second)
			if !same(third, r) {
				t.Errorf("P2: an answer of Merge shares room with what was merged: %+v", third)
			}
		}
		for _, l := range [][]string{following(t, r), following(t, api.Replica{}, r), following(t, r, r, r)} {
			given := slices.Clone(l)
			first, _, _ := Replay(given)
			second, _, _ := Replay(given)
			link, _, _ := Read(given[len(given)-1])
			kept := copyOf(link.State)
			next := roomy(r)
			s := mustExtend(t, given, next)
			again := strings.Clone(s)
			scribble(given, "scribble")
			scribbleReplica(next)
			scribbleReplica(first)
			if !same(second, r) || !same(link.State, kept) || s != again {
				t.Errorf("P2: an answer of Replay shares room: %+v, %+v, %x", second, link.State, s)
			}
			if later, e, at := Replay(l); e != api.OK || at != 0 || !same(later, r) {
				t.Errorf("P2: Replay, behind the caller's writing: %+v, %d, %d", later, e, at)
			}
		}
	}
}

// The lists of one answer share no room with each other, nor with their spare room (P2).
func TestAnswersOfMergeAndReplayStandApart(t *testing.T) {
	merged, _ := Merge(example(), newer())
	replayed, _, _ := Replay(following(t, example(), newer()))
	for _, r := range []api.Replica{merged, replayed} {
		scribble(r.Clocks, api.Clock{Site: 77, Count: 77})
		if !slices.Equal(r.Cards, newer().Cards) || !slices.Equal(r.Edits, newer().Edits) {
			t.Errorf("P2: cards and edits, behind writing into the clocks: %+v", r)
		}
		scribble(r.Cards, api.Card{Id: 77, Text: "scribble"})
		if !slices.Equal(r.Edits, newer().Edits) {
			t.Errorf("P2: edits, behind writing into the cards: %+v", r)
		}
	}
}

// Answers of Merge, Replay and Extend hang on their arguments alone (P2).
func TestMergeAndChainsHangOnArgumentsAlone(t *testing.T) {
	chain := following(t, example(), newer(), newer())
	lists := [][]string{nil, {"x"}, chain, picked(chain, 2, 1, 0), chain[:1], chain[1:], picked(chain, 0, 0), following(t, full())}
	list := []api.Replica{{}, example(), newer(), third(), full(), ticked(1, 0)}
	for _, l := range lists {
		replayed, wrong, number := modelReplay(l)
		for _, r := range list {
			extended, fault, place := modelExtend(l, r)
			for _, other := range list {
				merged, clash := modelMerge(r, other)
				if got, e := Merge(r, other); e != clash || !same(got, merged) {
					t.Errorf("P2: Merge(%+v, %+v) = %+v, %d", r, other, got, e)
				}
				if got, e, at := Replay(l); e != wrong || at != number || !same(got, replayed) {
					t.Errorf("P2: Replay(%x) = %+v, %d, %d", l, got, e, at)
				}
				if s, e, at := Extend(l, r); s != extended || e != fault || at != place {
					t.Errorf("P2: Extend(%x, %+v) = %x, %d, %d", l, r, s, e, at)
				}
			}
		}
	}
}
