package parcel

import (
	"math/rand"
	"slices"
	"strings"
	"testing"

	"parcel/api"
)

// all are the records of the example's bundle, with their places.
func all() []api.Found {
	return []api.Found{
		{At: 4, Kind: 4},
		{At: 13, Kind: 1, Site: 1, Count: 2}, {At: 23, Kind: 1, Site: 7, Count: 1},
		{At: 33, Kind: 2, Id: 5, Site: 1, Count: 2, Text: "hi"}, {At: 47, Kind: 2, Id: 9, Site: 7, Count: 1, Gone: true},
		{At: 59, Kind: 3, Id: 5, Text: "yo"},
	}
}

// ends are the places behind these records' frames.
var ends = []int{13, 23, 33, 47, 59, 70}

func TestSalvageOfACutBundle(t *testing.T) {
	b := bundleOf(recordsOf(example())...)
	for k := range len(b) + 1 {
		left, lost := 0, 0
		for left < len(ends) && ends[left] <= k {
			left++
		}
		if list := Salvage(b[:k]); !slices.Equal(list, all()[:left]) {
			t.Errorf("P8: the first %d bytes: %+v, want %d", k, list, left)
		}
		for lost < len(ends) && all()[lost].At < k {
			lost++
		}
		want := all()[lost:]
		for i := range want {
			want[i].At -= k
		}
		if list := Salvage(b[k:]); !slices.Equal(list, want) {
			t.Errorf("P8: without the first %d bytes: %+v, want %+v", k, list, want)
		}
	}
}

func TestSalvageOfATurnedBit(t *testing.T) {
	b := bundleOf(recordsOf(example())...)
	for bit := 0; bit < 8*len(b); bit++ {
		turned := []byte(b)
		turned[bit/8] ^= 1 << (bit % 8)
		want := []api.Found{}
		for i, f := range all() {
			if bit/8 < f.At || bit/8 >= ends[i] {
				want = append(want, f)
			}
		}
		if list := Salvage(string(turned)); !slices.Equal(list, want) {
			t.Errorf("P8: bit %d turned over: %+v, want %+v", bit, list, want)
		}
	}
}

func TestSalvageOfPieces(t *testing.T) {
	inner := frameOf(yo)
	outer := frameOf("\x03\x01" + inner)
	z := strings.Repeat("z", 253)
	for _, c := range []struct {
		b    string
		list []api.Found
	}{
		{"", nil}, {"\xf5", nil}, {"\xf5\x5f", nil}, {"\xf5\x5f\x00", nil}, {"PRC1", nil}, {closed(), nil}, {strings.Repeat("\xf5\x5f", 300), nil}, {strings.Repeat("\xf5", 300), nil},
		{inner, []api.Found{{Kind: 3, Id: 5, Text: "yo"}}},
		{inner[:10], nil}, {inner[1:], nil},
		{"xyz" + inner + "!" + frameOf(gone) + inner, []api.Found{{At: 3, Kind: 3, Id: 5, Text: "yo"}, {At: 15, Kind: 2, Id: 9, Site: 7, Count: 1, Gone: true}, {At: 27, Kind: 3, Id: 5, Text: "yo"}}},
		// A frame within a found one is not found; within one that is broken it is.
		{outer, []api.Found{{Kind: 3, Id: 1, Text: inner}}},
		{outer[:len(outer)-1], []api.Found{{At: 5, Kind: 3, Id: 5, Text: "yo"}}},
		{outer[1:], []api.Found{{At: 4, Kind: 3, Id: 5, Text: "yo"}}},
		{outer[:len(outer)-1] + "\x00" + inner, []api.Found{{At: 5, Kind: 3, Id: 5, Text: "yo"}, {At: len(outer), Kind: 3, Id: 5, Text: "yo"}}},
		{"\xf5" + inner, []api.Found{{At: 1, Kind: 3, Id: 5, Text: "yo"}}}, {"\xf5\x5f" + inner, []api.Found{{At: 2, Kind: 3, Id: 5, Text: "yo"}}}, {"\xf5\x5f\x01" + inner, []api.Found{{At: 3, Kind: 3, Id: 5, Text: "yo"}}},
		// No order is asked, and records that no sound replica has are found.
		{inner + frameOf(head) + frameOf(head) + frameOf(other) + frameOf(clock), []api.Found{{Kind: 3, Id: 5, Text: "yo"}, {At: 11, Kind: 4}, {At: 20, Kind: 4}, {At: 29, Kind: 1, Site: 7, Count: 1}, {At: 39, Kind: 1, Site: 1, Count: 2}}},
		{frameOf("\x02\x00\x00\x00\x01x") + frameOf("\x01"+greatest+"\x00"), []api.Found{{Kind: 2, Gone: true, Text: "x"}, {At: 13, Kind: 1, Site: 1<<63 - 1}}},
		{frameOf("\x04\x02abcd"), []api.Found{{Kind: 4, Seq: 2, Base: 0x61626364}}},
		{frameOf("\x03\x01" + z), []api.Found{{Kind: 3, Id: 1, Text: z}}},
		{frameOf("") + frameOf("\x07") + frameOf("\x04\x00\x00") + frameOf("\x04\x01abc") + frameOf("\x01\x80\x00\x01") + frameOf("\x02\x01\x01\x01\x02"), nil},
	} {
		if list := Salvage(c.b); !slices.Equal(list, c.list) {
			t.Errorf("P8: Salvage(%x) = %+v, want %+v", c.b, list, c.list)
		}
	}
}

func TestSalvageOfManyBytes(t *testing.T) {
	random := rand.New(rand.NewSource(10))
	for k := 0; k < 3000; k++ {
		pieces := append(wildPieces(random), wildPieces(random)...)
		random.Shuffle(len(pieces), func(i, j int) { pieces[i], pieces[j] = pieces[j], pieces[i] })
		b := strings.Join(pieces, []string{"", "", "\xf5", "xy"}[random.Intn(4)])
		if len(b) > 0 && random.Intn(2) == 0 {
			b = b[random.Intn(len(b)):]
		}
		if list := Salvage(b); !slices.Equal(list, modelSalvage(b)) {
			t.Fatalf("P8: Salvage(%x) = %+v, want %+v", b, list, modelSalvage(b))
		}
	}
}

// Many places at which a frame might stand, as long as can be, are all tried (P1).
func TestSalvageEnds(t *testing.T) {
	for _, piece := range []string{"x", "\xf5", "\xf5\x5f", "\xf5\x5f\xff", "\xf5\x5f\xff\x03\x01", "\xf5\x5f\xff\x02\x01\x01\x01\x00"} {
		if list := Salvage(strings.Repeat(piece, 20000)); len(list) != 0 {
			t.Errorf("P8: %x again and again: %d found", piece, len(list))
		}
	}
	if list := Salvage(strings.Repeat(frameOf(yo), 20000)); len(list) != 20000 || list[19999].At != 19999*11 {
		t.Errorf("P8: of 20000 frames %d found", len(list))
	}
}
