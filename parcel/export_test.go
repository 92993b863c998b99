package parcel

import (
	"encoding/hex"
	"math/rand"
	"reflect"
	"strings"
	"testing"

	"parcel/api"
)

func TestExportOfTheDocument(t *testing.T) {
	b := mustExport(t, example())
	want := "50524331f55f0204000e0efa58f55f0301010282cfc6dff55f030107016a5a5fa0" +
		"f55f070205010200686969afc729f55f050209070101d6432d4cf55f040305796f43d953c825e103e3"
	if hex.EncodeToString([]byte(b)) != want || len(b) != 74 {
		t.Errorf("P5: example 3: %x, want %s", b, want)
	}
	if b := mustExport(t, api.Replica{}); b != bundleOf("\x04\x00") {
		t.Errorf("P5: the bundle of nothing: %x", b)
	}
}

func TestExportOfTheFullReplica(t *testing.T) {
	b := mustExport(t, full())
	if b != bundleOf(recordsOf(full())...) {
		t.Errorf("P4, P5: the bundle of a full replica: %x", b)
	}
}

func TestExportOfManyReplicas(t *testing.T) {
	random := rand.New(rand.NewSource(2))
	for k := 0; k < 500; k++ {
		r := someReplica(random)
		b := mustExport(t, r)
		if b != bundleOf(recordsOf(r)...) {
			t.Fatalf("P4, P5: Export(%+v) = %x", r, b)
		}
	}
}

// Two replicas that differ in one thing have not the same bundle.
func TestExportTellsReplicasApart(t *testing.T) {
	list := []string{mustExport(t, example())}
	for _, turn := range []func(r *api.Replica){
		func(r *api.Replica) { r.Clocks[1].Count = 2 },
		func(r *api.Replica) { r.Clocks = append(r.Clocks, api.Clock{Site: 8, Count: 1}) },
		func(r *api.Replica) { r.Cards[0].Id = 6 },
		func(r *api.Replica) { r.Cards[0].Count = 1 },
		func(r *api.Replica) { r.Cards[1].Site, r.Cards[1].Count = 1, 1 },
		func(r *api.Replica) { r.Cards[1].Gone = false },
		func(r *api.Replica) { r.Cards[0].Text = "" },
		func(r *api.Replica) { r.Cards[0].Text = "hi\x00" },
		func(r *api.Replica) { r.Cards = r.Cards[:1] },
		func(r *api.Replica) { r.Edits[0].Id = 9 },
		func(r *api.Replica) { r.Edits[0].Text = "" },
		func(r *api.Replica) { r.Edits = nil },
		func(r *api.Replica) { r.Edits = append(r.Edits, r.Edits[0]) },
		func(r *api.Replica) { r.Edits = append(r.Edits, api.Edit{Id: 9, Text: "yo"}) },
		func(r *api.Replica) { r.Edits = append([]api.Edit{{Id: 9, Text: "yo"}}, r.Edits...) },
	} {
		r := example()
		turn(&r)
		b := mustExport(t, r)
		for i, other := range list {
			if b == other {
				t.Errorf("P5: %+v has the bundle of number %d", r, i)
			}
		}
		list = append(list, b)
	}
}

// A refusal of Export is that of Check, and comes without bytes (P1, P5).
func TestExportRefuses(t *testing.T) {
	for _, c := range []struct {
		turn func(r *api.Replica)
		e    api.Errno
	}{
		{func(r *api.Replica) { r.Clocks = make([]api.Clock, api.MaxSites+1) }, api.ErrMany},
		{func(r *api.Replica) { r.Cards = make([]api.Card, api.MaxCards+1) }, api.ErrMany},
		{func(r *api.Replica) { r.Edits = make([]api.Edit, api.MaxEdits+1) }, api.ErrMany},
		{func(r *api.Replica) { r.Clocks[1].Count = 0 }, api.ErrNumber},
		{func(r *api.Replica) { r.Cards[0].Id = -1 << 63 }, api.ErrNumber},
		{func(r *api.Replica) { r.Edits[0].Id = 1<<63 - 1 }, api.ErrNumber},
		{func(r *api.Replica) { r.Cards[1].Text = "x" }, api.ErrText},
		{func(r *api.Replica) { r.Edits[0].Text = strings.Repeat("x", api.MaxField+1) }, api.ErrText},
		{func(r *api.Replica) { r.Edits[0].Text = strings.Repeat("x", 1000000) }, api.ErrText},
		{func(r *api.Replica) { r.Cards[0], r.Cards[1] = r.Cards[1], r.Cards[0] }, api.ErrRise},
		{func(r *api.Replica) { r.Clocks = r.Clocks[:1] }, api.ErrStamp},
		{func(r *api.Replica) { r.Cards[1].Site, r.Cards[1].Count = 1, 2 }, api.ErrClash},
	} {
		r := example()
		c.turn(&r)
		if e := Check(r); e != c.e {
			t.Errorf("P3: Check: %d, want %d", e, c.e)
		}
		if b, e := Export(r); b != "" || e != c.e {
			t.Errorf("P5: Export: %x, %d, want %d", b, e, c.e)
		}
	}
}

// Wild replicas are answered too, and an error comes alone (P1).
func TestWildReplicas(t *testing.T) {
	random := rand.New(rand.NewSource(3))
	for k := 0; k < 5000; k++ {
		r := wildReplica(random)
		fault := Check(r)
		if fault < api.OK || fault > api.ErrClash {
			t.Fatalf("P1, P3: Check(%+v): %d", r, fault)
		}
		b, e := Export(r)
		if e != fault || (b == "") != (e != api.OK) {
			t.Fatalf("P1, P5: Export(%+v) = %x, %d", r, b, e)
		}
		if e == api.OK && b != bundleOf(recordsOf(r)...) {
			t.Fatalf("P4, P5: Export(%+v) = %x", r, b)
		}
	}
}

// roomy is the replica with spare room behind each list, and something in it.
func roomy(r api.Replica) api.Replica {
	clocks := append(append([]api.Clock{}, r.Clocks...), api.Clock{Site: 77, Count: 77})
	cards := append(append([]api.Card{}, r.Cards...), api.Card{Id: 77, Text: "spare"})
	edits := append(append([]api.Edit{}, r.Edits...), api.Edit{Id: 77, Text: "spare"})
	return api.Replica{Clocks: clocks[:len(r.Clocks)], Cards: cards[:len(r.Cards)], Edits: edits[:len(r.Edits)]}
}

// whole is the replica with the one element behind each list.
func whole(r api.Replica) api.Replica {
	return api.Replica{Clocks: r.Clocks[:len(r.Clocks)+1], Cards: r.Cards[:len(r.Cards)+1], Edits: r.Edits[:len(r.Edits)+1]}
}

func TestNothingHandedInIsWritten(t *testing.T) {
	random := rand.New(rand.NewSource(4))
	list := []api.Replica{{}, example(), full(), wildReplica(random)}
	for k := 0; k < 100; k++ {
		list = append(list, someReplica(random))
	}
	for _, r := range list {
		given := roomy(r)
		before := whole(roomy(r))
		Check(given)
		Export(given)
		if !reflect.DeepEqual(whole(given), before) {
			t.Fatalf("P2: %+v became %+v", before, whole(given))
		}
	}
}

// What a call answers hangs on its arguments alone, and stays when they change (P2).
func TestAnswersStandAlone(t *testing.T) {
	r := example()
	first := mustExport(t, r)
	kept := strings.Clone(first)
	r.Clocks[0].Count = 3
	r.Cards[0].Text = "ho"
	r.Edits[0].Id = 6
	if first != kept {
		t.Errorf("P2: a bundle was changed with its replica: %x", first)
	}
	if b := mustExport(t, r); b != bundleOf(recordsOf(r)...) {
		t.Errorf("P2: Export of the replica as it is now: %x", b)
	}
	mustExport(t, full())
	Export(api.Replica{Edits: []api.Edit{{}}})
	Check(api.Replica{Clocks: make([]api.Clock, 9)})
	if b := mustExport(t, example()); b != kept || first != kept {
		t.Errorf("P2: the same replica, later: %x", b)
	}
	if e := Check(example()); e != api.OK {
		t.Errorf("P2: Check of the same replica, later: %d", e)
	}
}
