package parcel

import (
	"encoding/binary"
	"hash/crc32"
	"math/bits"
	"math/rand"
	"strings"
	"testing"

	"parcel/api"
)

func example() api.Replica {
	return api.Replica{
		Clocks: []api.Clock{{Site: 1, Count: 2}, {Site: 7, Count: 1}},
		Cards:  []api.Card{{Id: 5, Site: 1, Count: 2, Text: "hi"}, {Id: 9, Site: 7, Count: 1, Gone: true}},
		Edits:  []api.Edit{{Id: 5, Text: "yo"}},
	}
}

// full has as much of everything as may be, at the greatest numbers.
func full() api.Replica {
	r := api.Replica{}
	for k := 0; k < api.MaxSites; k++ {
		r.Clocks = append(r.Clocks, api.Clock{Site: api.MaxSite - api.MaxSites + 1 + k, Count: api.MaxNumber})
	}
	for k := 0; k < api.MaxCards; k++ {
		r.Cards = append(r.Cards, api.Card{Id: api.MaxNumber - api.MaxCards + 1 + k, Site: r.Clocks[k%api.MaxSites].Site, Count: api.MaxNumber - k/api.MaxSites, Text: strings.Repeat("\xf5", api.MaxField)})
	}
	for k := 0; k < api.MaxEdits; k++ {
		r.Edits = append(r.Edits, api.Edit{Id: api.MaxNumber - k, Text: strings.Repeat("\x00", api.MaxField)})
	}
	return r
}

// turned is the document's sum, or seal, by the library.
func turned(s string, polynomial uint32) string {
	b := []byte(s)
	for i := range b {
		b[i] = bits.Reverse8(b[i])
	}
	n := bits.Reverse32(crc32.Checksum(b, crc32.MakeTable(polynomial)))
	return string(binary.BigEndian.AppendUint32(nil, n))
}

func sumOf(s string) string  { return turned(s, crc32.IEEE) }
func sealOf(s string) string { return turned(s, crc32.Castagnoli) }

// frameOf is the frame of a record, made without the program.
func frameOf(record string) string {
	body := string([]byte{byte(len(record))}) + record
	return "\xf5\x5f" + body + sumOf(body)
}

// closed puts the magic ahead of some pieces, and the seal behind, whatever they are.
func closed(pieces ...string) string {
	s := "PRC1" + strings.Join(pieces, "")
	return s + sealOf(s)
}

// bundleOf is the bundle of some records, made without the program.
func bundleOf(list ...string) string {
	frames := []string{}
	for _, record := range list {
		frames = append(frames, frameOf(record))
	}
	return closed(frames...)
}

// turnedBits turns over a bit, and of the 31 behind it those that are set in more.
func turnedBits(b string, bit int, more uint32) string {
	turned := []byte(b)
	for k := 0; k < 32 && bit+k < 8*len(b); k++ {
		if k == 0 || more>>(k-1)&1 == 1 {
			turned[(bit+k)/8] ^= 128 >> ((bit + k) % 8)
		}
	}
	return string(turned)
}

// volumeOf is a volume of some bytes, of a whole with this sum, made without the program.
func volumeOf(number, count int, whole string, part string) string {
	s := "VOL1" + string([]byte{byte(number), byte(count)}) + whole + part
	return s + sumOf(s)
}

// volumesOf are the volumes of some parts, in their order.
func volumesOf(parts ...string) []string {
	list := []string{}
	whole := sumOf(strings.Join(parts, ""))
	for i, part := range parts {
		list = append(list, volumeOf(i, len(parts), whole, part))
	}
	return list
}

// someBytes are of all values.
func someBytes(random *rand.Rand, many int) string {
	b := make([]byte, many)
	random.Read(b)
	return string(b)
}

// picked are some strings of a list, by their places.
func picked(list []string, places ...int) []string {
	out := []string{}
	for _, i := range places {
		out = append(out, list[i])
	}
	return out
}

// recordsOf are the records of a sound replica's whole bundle, made without the program.
func recordsOf(r api.Replica) []string {
	list := []string{"\x04\x00"}
	for _, c := range r.Clocks {
		list = append(list, "\x01"+numbers(c.Site, c.Count))
	}
	for _, c := range r.Cards {
		gone := "\x00"
		if c.Gone {
			gone = "\x01"
		}
		list = append(list, "\x02"+numbers(c.Id, c.Site, c.Count)+gone+c.Text)
	}
	for _, e := range r.Edits {
		list = append(list, "\x03"+numbers(e.Id)+e.Text)
	}
	return list
}

func numbers(list ...int) string {
	b := []byte{}
	for _, n := range list {
		b = binary.AppendUvarint(b, uint64(n))
	}
	return string(b)
}

// someReplica is sound: its cards have Counts that differ, below their clocks'.
func someReplica(random *rand.Rand) api.Replica {
	r := api.Replica{}
	site := 0
	for k := random.Intn(api.MaxSites + 1); k > 0; k-- {
		site += 1 + random.Intn(api.MaxSite/api.MaxSites)
		r.Clocks = append(r.Clocks, api.Clock{Site: site, Count: api.MaxNumber>>random.Intn(50) - random.Intn(50)})
	}
	id := 0
	for k := random.Intn(api.MaxCards + 1); k > 0 && len(r.Clocks) > 0; k-- {
		id += 1 + random.Intn(api.MaxNumber/api.MaxCards)>>random.Intn(56)
		c := api.Card{Id: id, Site: r.Clocks[random.Intn(len(r.Clocks))].Site, Count: k, Gone: random.Intn(3) == 0}
		if !c.Gone {
			c.Text = someText(random)
		}
		r.Cards = append(r.Cards, c)
	}
	for k := random.Intn(api.MaxEdits + 1); k > 0; k-- {
		r.Edits = append(r.Edits, api.Edit{Id: 1 + random.Intn(api.MaxNumber)>>random.Intn(62), Text: someText(random)})
	}
	return r
}

func someText(random *rand.Rand) string {
	return someBytes(random, random.Intn(api.MaxField+1))
}

// wildNumber is one that may be, one at an edge, or one far outside.
func wildNumber(random *rand.Rand) int {
	edges := []int{0, 1, 2, 127, 128, 200, 201, api.MaxNumber, api.MaxNumber + 1, 1<<63 - 1, -1 << 63, -1}
	return edges[random.Intn(len(edges))]
}

// wildReplica is seldom sound.
func wildReplica(random *rand.Rand) api.Replica {
	r := api.Replica{}
	for k := random.Intn(api.MaxSites + 3); k > 0; k-- {
		r.Clocks = append(r.Clocks, api.Clock{Site: wildNumber(random), Count: wildNumber(random)})
	}
	for k := random.Intn(api.MaxCards + 3); k > 0; k-- {
		r.Cards = append(r.Cards, api.Card{Id: wildNumber(random), Site: wildNumber(random), Count: wildNumber(random), Gone: random.Intn(2) == 0, Text: strings.Repeat("x", random.Intn(300))})
	}
	for k := random.Intn(api.MaxEdits + 3); k > 0; k-- {
		r.Edits = append(r.Edits, api.Edit{Id: wildNumber(random), Text: strings.Repeat("y", random.Intn(300))})
	}
	return r
}

func mustSplit(t *testing.T, b string, size int) []string {
	t.Helper()
	list, e := Split(b, size)
	if e != api.OK {
		t.Fatalf("P9: Split of %d bytes with size %d: %d", len(b), size, e)
	}
	return list
}

func mustExport(t *testing.T, r api.Replica) string {
	t.Helper()
	b, e := Export(r)
	if e != api.OK {
		t.Fatalf("P5: Export(%+v): %d", r, e)
	}
	return b
}

func mustExtend(t *testing.T, l []string, r api.Replica) string {
	t.Helper()
	b, e, at := Extend(l, r)
	if e != api.OK || at != 0 {
		t.Fatalf("P13: Extend(%x, %+v): %d, %d", l, r, e, at)
	}
	return b
}
