package bundles

import (
	"reflect"
	"strings"
	"testing"

	"parcel/api"
	"parcel/records"
	"parcel/sums"
)

func TestReadOfBundle(t *testing.T) {
	for _, l := range []api.Link{
		{State: state()},
		{Seq: 1, Base: 0, State: state()},
		{Seq: 15, Base: 4294967295, State: state()},
		{Seq: 1<<63 - 1, Base: 0x80000001, State: state()},
	} {
		got, fault, place := Read(Bundle(l))
		if fault != api.OK || place != 0 || !reflect.DeepEqual(got, l) {
			t.Errorf("P6: Read of the bundle of %+v: %+v, %d, %d", l, got, fault, place)
		}
	}
}

// A Base beside Seq 0 is not in the bundle, so it does not come back.
func TestReadOfWholeBundleHasNoBase(t *testing.T) {
	got, fault, place := Read(Bundle(api.Link{Base: 7}))
	if fault != api.OK || place != 0 || got.Seq != 0 || got.Base != 0 {
		t.Errorf("P6: %+v, %d, %d", got, fault, place)
	}
}

// closed puts the magic ahead of some bytes, and the seal behind.
func closed(inner string) string {
	s := magic + inner
	return s + sums.FourBytes(sums.Seal(s))
}

func TestReadKeepsFramesOutOfTheSeal(t *testing.T) {
	frame := records.Frame("\x04\x00")
	for cut := 1; cut < len(frame); cut++ {
		l, fault, place := Read(closed(frame[:cut]))
		if fault != api.ErrFrame || place != 4 || !reflect.DeepEqual(l, api.Link{}) {
			t.Errorf("P6: a head without its last %d bytes: %+v, %d, %d", len(frame)-cut, l, fault, place)
		}
		l, fault, place = Read(closed(frame + frame[:cut]))
		if fault != api.ErrFrame || place != 13 || !reflect.DeepEqual(l, api.Link{}) {
			t.Errorf("P6: a second one without its last %d bytes: %+v, %d, %d", len(frame)-cut, l, fault, place)
		}
	}
}

// A frame whose last two bytes are the first two of the bundle's seal stands in
// the bytes as a whole, and yet not in the bundle.
func TestReadOfAFrameThatEndsInTheSeal(t *testing.T) {
	head := records.Frame("\x04\x00")
	for n := 0; n < 1<<16; n++ {
		edit := records.Frame("\x03\x01" + string([]byte{byte(n >> 8), byte(n)}))
		b := closed(head + edit[:len(edit)-2])
		if _, length := records.FrameAt(b, 13); length == 0 {
			continue
		}
		if l, fault, place := Read(b); fault != api.ErrFrame || place != 13 || !reflect.DeepEqual(l, api.Link{}) {
			t.Errorf("P6: Read(%x) = %+v, %d, %d", b, l, fault, place)
		}
		return
	}
	t.Error("no such frame")
}

func TestOrderOfNeighbours(t *testing.T) {
	head := api.Found{Kind: api.HeadKind}
	clock := api.Found{Kind: api.ClockKind, Site: 3, Count: 1}
	card := api.Found{Kind: api.CardKind, Id: 4, Site: 3, Count: 1}
	edit := api.Found{Kind: api.EditKind, Id: 5}
	for _, c := range []struct {
		last, next api.Found
		may        bool
	}{
		{head, head, false}, {head, clock, true}, {head, card, true}, {head, edit, true},
		{clock, head, false}, {clock, clock, false}, {clock, card, true}, {clock, edit, true},
		{card, head, false}, {card, clock, false}, {card, card, false}, {card, edit, true},
		{edit, head, false}, {edit, clock, false}, {edit, card, false}, {edit, edit, true},
		{clock, api.Found{Kind: api.ClockKind, Site: 4}, true}, {clock, api.Found{Kind: api.ClockKind, Site: 2, Count: 9}, false},
		{card, api.Found{Kind: api.CardKind, Id: 5}, true}, {card, api.Found{Kind: api.CardKind, Id: 3, Site: 9, Count: 9}, false},
		{edit, api.Found{Kind: api.EditKind, Id: 1}, true},
		{head, api.Found{Kind: api.ClockKind}, true}, {clock, api.Found{Kind: api.CardKind}, true},
	} {
		if may := mayFollow(c.last, c.next); may != c.may {
			t.Errorf("P6: %+v behind %+v: %v", c.next, c.last, may)
		}
	}
}

func TestSalvageOfBundle(t *testing.T) {
	b := Bundle(api.Link{Seq: 2, Base: 7, State: state()})
	want := []api.Found{
		{At: 4, Kind: api.HeadKind, Seq: 2, Base: 7},
		{At: 17, Kind: api.ClockKind, Site: 1, Count: 2},
		{At: 27, Kind: api.ClockKind, Site: 7, Count: 1},
		{At: 37, Kind: api.CardKind, Id: 5, Site: 1, Count: 2, Text: "hi"},
		{At: 51, Kind: api.CardKind, Id: 9, Site: 7, Count: 1, Gone: true},
		{At: 63, Kind: api.EditKind, Id: 5, Text: "yo"},
	}
	if list := Salvage(b); !reflect.DeepEqual(list, want) {
		t.Errorf("P8: %+v", list)
	}
	// Salvage asks nothing of the magic or the seal.
	if list := Salvage("nope" + b[4:len(b)-4] + strings.Repeat("\xf5", 9)); !reflect.DeepEqual(list, want) {
		t.Errorf("P8: without magic and seal: %+v", list)
	}
}

func TestSealOf(t *testing.T) {
	for _, c := range []struct {
		b    string
		seal int
	}{
		{Bundle(api.Link{}), 0x4e1e194a}, {Bundle(api.Link{State: state()}), 0x25e103e3},
		{"PRC1\xff\xff\xff\xff", 4294967295}, {"\x00\x00\x00\x01", 1}, {"\x80\x00\x00\x00", 2147483648}, {"", 0}, {"abc", 0},
	} {
		if seal := SealOf(c.b); seal != c.seal {
			t.Errorf("P12: the seal of %x: %x, want %x", c.b, seal, c.seal)
		}
	}
}
