package parcel

import (
	"math/rand"
	"slices"
	"strings"
	"testing"

	"parcel/api"
)

// Records of the document's example.
const (
	head  = "\x04\x00"
	clock = "\x01\x01\x02"
	other = "\x01\x07\x01"
	hi    = "\x02\x05\x01\x02\x00hi"
	gone  = "\x02\x09\x07\x01\x01"
	yo    = "\x03\x05yo"
)

// greatest is 2 to the power 63, less one, as bytes.
const greatest = "\xff\xff\xff\xff\xff\xff\xff\xff\x7f"

func same(a, b api.Replica) bool {
	return slices.Equal(a.Clocks, b.Clocks) && slices.Equal(a.Cards, b.Cards) && slices.Equal(a.Edits, b.Edits)
}

func sameLink(a, b api.Link) bool {
	return a.Seq == b.Seq && a.Base == b.Base && same(a.State, b.State)
}

func TestReadOfLinks(t *testing.T) {
	for _, c := range []struct {
		b string
		l api.Link
	}{
		{bundleOf(head), api.Link{}},
		{bundleOf(head, clock, other, hi, gone, yo), api.Link{State: example()}},
		{bundleOf("\x04\x01\x00\x00\x00\x00"), api.Link{Seq: 1}},
		{bundleOf("\x04\x01\x25\xe1\x03\xe3", clock), api.Link{Seq: 1, Base: 0x25e103e3, State: api.Replica{Clocks: example().Clocks[:1]}}},
		{bundleOf("\x04"+greatest+"\xff\xff\xff\xff", yo, yo), api.Link{Seq: 1<<63 - 1, Base: 4294967295, State: api.Replica{Edits: []api.Edit{{Id: 5, Text: "yo"}, {Id: 5, Text: "yo"}}}}},
		{bundleOf(head, gone), api.Link{State: api.Replica{Cards: example().Cards[1:]}}},
		// What no sound replica has may stand in records.
		{bundleOf(head, "\x01\x00\x00", "\x02\x00\x00\x00\x01x", "\x03\x00"), api.Link{State: api.Replica{Clocks: []api.Clock{{}}, Cards: []api.Card{{Gone: true, Text: "x"}}, Edits: []api.Edit{{}}}}},
		{bundleOf(head, "\x01\x01"+greatest, "\x01"+greatest+"\x00"), api.Link{State: api.Replica{Clocks: []api.Clock{{Site: 1, Count: 1<<63 - 1}, {Site: 1<<63 - 1}}}}},
		{bundleOf(head, "\x03\x01"+strings.Repeat("\xf5\x5f", 126)+"\x00"), api.Link{State: api.Replica{Edits: []api.Edit{{Id: 1, Text: strings.Repeat("\xf5\x5f", 126) + "\x00"}}}}},
	} {
		if l, e, at := Read(c.b); e != api.OK || at != 0 || !sameLink(l, c.l) {
			t.Errorf("P6: Read(%x) = %+v, %d, %d, want %+v", c.b, l, e, at, c.l)
		}
	}
}

type refusal struct {
	b  string
	e  api.Errno
	at int
}

func refusals() []refusal {
	b := bundleOf(recordsOf(example())...)
	h := frameOf(head)
	list := []refusal{
		{"", api.ErrMagic, 0}, {"P", api.ErrMagic, 0}, {"PRC", api.ErrMagic, 0}, {"prc1", api.ErrMagic, 0}, {"xPRC1", api.ErrMagic, 0},
		{"PRC2" + sealOf("PRC2"), api.ErrMagic, 0}, {"VOL1" + b[4:], api.ErrMagic, 0}, {b[1:], api.ErrMagic, 0},
		{"PRC1", api.ErrSum, 0}, {"PRC1a", api.ErrSum, 0}, {"PRC1abc", api.ErrSum, 0}, {"PRC1abcd", api.ErrSum, 0},
		{"PRC1" + sealOf("PRC1")[:3], api.ErrSum, 0}, {"PRC1" + sumOf("PRC1"), api.ErrSum, 0},
		{b + "x", api.ErrSum, 0}, {b[:len(b)-1], api.ErrSum, 0}, {b[:70], api.ErrSum, 0}, {b + b, api.ErrSum, 0},
		{"PRC1" + h + sumOf("PRC1"+h), api.ErrSum, 0}, {"PRC1" + h + h + sealOf("PRC1"+h), api.ErrSum, 0},
		{closed(), api.ErrOrder, 4},
		{closed("\x00"), api.ErrFrame, 4}, {closed(h, "\x00"), api.ErrFrame, 13}, {closed(h, "\xf5"), api.ErrFrame, 13}, {closed(h, "\xf5\x5f"), api.ErrFrame, 13}, {closed("x", h), api.ErrFrame, 4},
		{closed(h, "x", frameOf(clock)), api.ErrFrame, 13}, {closed(h, frameOf(clock), "x"), api.ErrFrame, 23},
		// The first frame that does not stand, though one ahead of it is out of order.
		{closed(h, h, "x"), api.ErrFrame, 22}, {closed(frameOf(yo), frameOf(clock), "x", "y"), api.ErrFrame, 25},
		{bundleOf(clock), api.ErrOrder, 4}, {bundleOf(yo, head), api.ErrOrder, 4}, {bundleOf(hi), api.ErrOrder, 4}, {bundleOf(clock, clock), api.ErrOrder, 4},
		{bundleOf(head, head), api.ErrOrder, 13}, {bundleOf(head, "\x04\x01abcd"), api.ErrOrder, 13}, {bundleOf(head, clock, head), api.ErrOrder, 23}, {bundleOf(head, hi, head), api.ErrOrder, 27}, {bundleOf(head, yo, head), api.ErrOrder, 24},
		{bundleOf(head, other, clock), api.ErrOrder, 23}, {bundleOf(head, clock, clock), api.ErrOrder, 23}, {bundleOf(head, clock, "\x01\x01\x03"), api.ErrOrder, 23}, {bundleOf(head, "\x01\x00\x01", "\x01\x00\x01"), api.ErrOrder, 23},
		{bundleOf(head, hi, clock), api.ErrOrder, 27}, {bundleOf(head, yo, clock), api.ErrOrder, 24}, {bundleOf(head, clock, hi, other), api.ErrOrder, 37},
		{bundleOf(head, gone, hi), api.ErrOrder, 25}, {bundleOf(head, hi, hi), api.ErrOrder, 27}, {bundleOf(head, yo, hi), api.ErrOrder, 24}, {bundleOf(head, hi, yo, gone), api.ErrOrder, 38},
		// Of two that cannot stand there the first one.
		{bundleOf(head, clock, clock, head), api.ErrOrder, 23}, {bundleOf("\x04\x01abcd", yo, hi, clock), api.ErrOrder, 28},
	}
	for _, record := range []string{
		"", "\x00", "\x05\x01", "\xff", "\x04", "\x04\x00\x00", "\x04\x00abcd", "\x04\x01", "\x04\x01abc", "\x04\x01abcde", "\x04\x80\x00", "\x04\x81\x00abcd",
		"\x01\x01", "\x01\x01\x02\x03", "\x01\x81\x00\x02", "\x01\x01\x82\x00", "\x01\x01\x80\x80\x80\x80\x80\x80\x80\x80\x80\x01", "\x01\xff\xff\xff\xff\xff\xff\xff\xff\xff\x01\x01",
		"\x02\x01\x01\x01", "\x02\x01\x01\x01\x02", "\x02\x01\x01\x01\xffx", "\x02\x81\x00\x01\x01\x00", "\x02\x01\x01\x80\x00\x00", "\x03", "\x03\x80", "\x03\x80\x00yo",
	} {
		list = append(list, refusal{closed(frameOf(record)), api.ErrFrame, 4}, refusal{closed(h, frameOf(record), h), api.ErrFrame, 13})
	}
	for _, record := range []string{clock, hi, gone, yo} {
		frame := frameOf(record)
		for cut := range len(frame) - 1 {
			list = append(list, refusal{closed(h, frame[:cut+1]), api.ErrFrame, 13}, refusal{closed(h, frame[cut+1:]), api.ErrFrame, 13})
		}
		list = append(list, refusal{closed(h, frame[:len(frame)-4], "abcd"), api.ErrFrame, 13})
		list = append(list, refusal{closed(h, frame[:len(frame)-4], sealOf(frame[2:len(frame)-4])), api.ErrFrame, 13})
		list = append(list, refusal{closed(h, frame[:len(frame)-4], sumOf(frame[3:len(frame)-4])), api.ErrFrame, 13})
	}
	return list
}

// A refusal of Read is Restore's too, and comes with its place alone (P1, P6, P7).
func TestReadRefuses(t *testing.T) {
	for _, c := range refusals() {
		if l, e, at := Read(c.b); e != c.e || at != c.at || !sameLink(l, api.Link{}) {
			t.Errorf("P6: Read(%x) = %+v, %d, %d, want %d, %d", c.b, l, e, at, c.e, c.at)
		}
		if r, e, at := Restore(c.b); e != c.e || at != c.at || !same(r, api.Replica{}) {
			t.Errorf("P7: Restore(%x) = %+v, %d, %d, want %d, %d", c.b, r, e, at, c.e, c.at)
		}
		if _, e, at := modelRead(c.b); e != c.e || at != c.at {
			t.Errorf("the model refuses %x with %d, %d, want %d, %d", c.b, e, at, c.e, c.at)
		}
	}
}

// A bundle in which bits are turned over within four bytes is no bundle.
func TestReadRefusesTurnedBits(t *testing.T) {
	b := bundleOf(recordsOf(example())...)
	random := rand.New(rand.NewSource(5))
	for bit := 0; bit < 8*len(b); bit++ {
		for _, more := range []uint32{0, 1, 1 << 30, random.Uint32() >> 1, random.Uint32() >> 20} {
			l, e, at := Read(turnedBits(b, bit, more))
			want := api.ErrSum
			if bit < 32 {
				want = api.ErrMagic
			}
			if e != want || at != 0 || !sameLink(l, api.Link{}) {
				t.Errorf("P6: bits from %d on turned over: %+v, %d, %d, want %d", bit, l, e, at, want)
			}
		}
	}
}

// wildRecord is mostly a record, with numbers that often come twice.
func wildRecord(random *rand.Rand) string {
	number := func() string {
		if random.Intn(40) == 0 {
			return []string{"\x80\x00", "\x80", "\x80\x80\x80\x80\x80\x80\x80\x80\x80\x01", ""}[random.Intn(4)]
		}
		return numbers([]int{0, 1, 2, 3, 127, 128, 200, 300, api.MaxNumber, 1<<63 - 1}[random.Intn(10)])
	}
	text := []string{"", "x", "\xf5\x5f", frameOf(yo), strings.Repeat("long", 50)}[random.Intn(5)]
	switch random.Intn(16) {
	case 0:
		return head
	case 1:
		return "\x04" + number() + []string{"abcd", "abc", ""}[random.Intn(3)]
	case 2, 3, 4, 5:
		return "\x01" + number() + number()
	case 6, 7, 8, 9, 10:
		return "\x02" + number() + number() + number() + string([]byte{byte(random.Intn(30) / 14)}) + text
	case 11, 12, 13, 14:
		return "\x03" + number() + text
	}
	return string([]byte{byte(random.Intn(7))}) + text
}

// wildPieces are frames, mostly by the order of kinds, and seldom something between.
func wildPieces(random *rand.Rand) []string {
	list := []string{}
	for k := random.Intn(8); k > 0; k-- {
		list = append(list, wildRecord(random))
	}
	if random.Intn(4) > 0 {
		slices.Sort(list)
	}
	if random.Intn(8) > 0 {
		list = append([]string{[]string{head, "\x04\x01abcd", "\x04\x02\x00\x00\x00\x01"}[random.Intn(3)]}, list...)
	}
	for i, record := range list {
		list[i] = frameOf(record)
		switch random.Intn(60) {
		case 0:
			list[i] = list[i][:random.Intn(len(list[i]))]
		case 1:
			list[i] = list[i] + "\xf5\x5f"[:1+random.Intn(2)]
		}
	}
	return list
}

func TestReadOfManyBytes(t *testing.T) {
	random := rand.New(rand.NewSource(6))
	answers := make([]int, api.ErrOld+1)
	for k := 0; k < 6000; k++ {
		b := closed(wildPieces(random)...)
		want, fault, place := modelRead(b)
		l, e, at := Read(b)
		if e != fault || at != place || !sameLink(l, want) {
			t.Fatalf("P6: Read(%x) = %+v, %d, %d, want %+v, %d, %d", b, l, e, at, want, fault, place)
		}
		answers[e]++
	}
	if answers[api.OK] < 500 || answers[api.ErrFrame] < 500 || answers[api.ErrOrder] < 500 {
		t.Errorf("the bytes are too much alike: %d", answers)
	}
}

// Bytes of any kind are answered (P1).
func TestWildBytes(t *testing.T) {
	random := rand.New(rand.NewSource(7))
	for k := 0; k < 3000; k++ {
		b := make([]byte, random.Intn(60))
		for i := range b {
			b[i] = "PRC1\xf5\x5f\x00\x01\x02\x03\x04\x05\x80\xff"[random.Intn(14)]
		}
		s := string(b)
		for _, s := range []string{s, "PRC1" + s, closed(s)} {
			want, fault, place := modelRead(s)
			if l, e, at := Read(s); e != fault || at != place || !sameLink(l, want) {
				t.Fatalf("P1, P6: Read(%x) = %+v, %d, %d", s, l, e, at)
			}
			if list := Salvage(s); !slices.Equal(list, modelSalvage(s)) {
				t.Fatalf("P1, P8: Salvage(%x) = %+v", s, list)
			}
			if r, e, at := Restore(s); fault != api.OK && (e != fault || at != place || !same(r, api.Replica{})) {
				t.Fatalf("P1, P7: Restore(%x) = %+v, %d, %d", s, r, e, at)
			}
		}
	}
}

// More records than a replica may have are read, and refused by Restore alone.
func TestReadOfMoreThanAReplicaHolds(t *testing.T) {
	list := []string{head}
	for k := range 3000 {
		list = append(list, "\x01"+numbers(k, k))
	}
	for k := range 3000 {
		list = append(list, "\x02"+numbers(k, k, k)+"\x00x")
	}
	for k := range 3000 {
		list = append(list, "\x03"+numbers(3000-k))
	}
	b := bundleOf(list...)
	l, e, at := Read(b)
	want := modelLinkOfRecords(list)
	if e != api.OK || at != 0 || !sameLink(l, want) {
		t.Errorf("P6: %d, %d", e, at)
	}
	if r, e, at := Restore(b); e != api.ErrMany || at != 0 || !same(r, api.Replica{}) {
		t.Errorf("P7: %d, %d", e, at)
	}
}
