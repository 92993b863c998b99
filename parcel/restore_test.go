package parcel

import (
	"math/rand"
	"strings"
	"testing"

	"parcel/api"
)

func TestRestoreOfExport(t *testing.T) {
	random := rand.New(rand.NewSource(8))
	list := []api.Replica{{}, example(), full()}
	for k := 0; k < 500; k++ {
		list = append(list, someReplica(random))
	}
	for _, r := range list {
		b := mustExport(t, r)
		if back, e, at := Restore(b); e != api.OK || at != 0 || !same(back, r) {
			t.Fatalf("P7: Restore of Export(%+v) = %+v, %d, %d", r, back, e, at)
		}
		if l, e, at := Read(b); e != api.OK || at != 0 || !sameLink(l, api.Link{State: r}) {
			t.Fatalf("P6: Read of Export(%+v) = %+v, %d, %d", r, l, e, at)
		}
	}
}

func TestRestoreRefuses(t *testing.T) {
	long := strings.Repeat("x", api.MaxField+1)
	for _, c := range []struct {
		b string
		e api.Errno
	}{
		{bundleOf("\x04\x01abcd"), api.ErrDelta}, {bundleOf("\x04\x01\x00\x00\x00\x00", clock, other, hi, gone, yo), api.ErrDelta}, {bundleOf("\x04"+greatest+"abcd", "\x01\x00\x00"), api.ErrDelta},
		{closed(frameOf("\x04\x01abcd"), strings.Repeat(frameOf(yo), 17)), api.ErrDelta},
		{closed(frameOf(head), strings.Repeat(frameOf(yo), 17)), api.ErrMany}, {closed(frameOf(head), strings.Repeat(frameOf("\x03\x00"), 17)), api.ErrMany},
		{bundleOf(head, "\x01\x00\x01"), api.ErrNumber}, {bundleOf(head, "\x01\x01\x00"), api.ErrNumber}, {bundleOf(head, "\x01\xc9\x01\x01"), api.ErrNumber}, {bundleOf(head, "\x01\x01"+greatest), api.ErrNumber},
		{bundleOf(head, clock, "\x02\x00\x01\x01\x00"), api.ErrNumber}, {bundleOf(head, clock, "\x02"+greatest+"\x01\x01\x00"), api.ErrNumber}, {bundleOf(head, "\x03\x00"), api.ErrNumber},
		{bundleOf(head, clock, "\x02\x05\x01\x01\x01x"), api.ErrText}, {bundleOf(head, clock, "\x02\x05\x01\x01\x00"+long), api.ErrText}, {bundleOf(head, "\x03\x05"+long), api.ErrText},
		{bundleOf(head, hi), api.ErrStamp}, {bundleOf(head, "\x01\x01\x01", hi), api.ErrStamp}, {bundleOf(head, other, hi), api.ErrStamp},
		{bundleOf(head, clock, hi, "\x02\x06\x01\x02\x00"), api.ErrClash},
	} {
		if r, e, at := Restore(c.b); e != c.e || at != 0 || !same(r, api.Replica{}) {
			t.Errorf("P7: Restore(%x) = %+v, %d, %d, want %d", c.b, r, e, at, c.e)
		}
		if _, e, at := Read(c.b); e != api.OK || at != 0 {
			t.Errorf("P6: Read(%x): %d, %d", c.b, e, at)
		}
	}
}

// Whatever can be read is restored as Seq and Check say.
func TestRestoreOfManyBytes(t *testing.T) {
	random := rand.New(rand.NewSource(9))
	for k := 0; k < 6000; k++ {
		b := closed(wildPieces(random)...)
		l, fault, place := modelRead(b)
		if fault == api.OK && l.Seq != 0 {
			fault = api.ErrDelta
		}
		if fault == api.OK {
			fault = Check(l.State)
		}
		want := l.State
		if fault != api.OK {
			want = api.Replica{}
		}
		if r, e, at := Restore(b); e != fault || at != place || !same(r, want) {
			t.Fatalf("P7: Restore(%x) = %+v, %d, %d, want %+v, %d, %d", b, r, e, at, want, fault, place)
		}
	}
}
