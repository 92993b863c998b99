package parcel

import (
	"encoding/hex"
	"math/rand"
	"slices"
	"strings"
	"testing"

	"parcel/api"
)

func TestSplitOfTheDocument(t *testing.T) {
	b := strings.Repeat("0123456789", 10)
	l := mustSplit(t, b, 40)
	if len(l) != 4 || len(l[0]) != 40 || len(l[1]) != 40 || len(l[2]) != 40 || len(l[3]) != 36 {
		t.Fatalf("P9: example 6: %x", l)
	}
	for i, part := range []string{b[:26], b[26:52], b[52:78], b[78:]} {
		if l[i] != volumeOf(i, 4, sumOf(b), part) {
			t.Errorf("P9: example 6: volume %d is %x", i, l[i])
		}
	}
	if l := mustSplit(t, "", 40); len(l) != 1 || len(l[0]) != 14 || l[0] != volumeOf(0, 1, "\x00\x00\x00\x00", "") {
		t.Errorf("P9: example 6: the empty string: %x", l)
	}
	if l, e := Split(b, 39); e != api.ErrSize || len(l) != 0 {
		t.Errorf("P9: example 6: size 39: %x, %d", l, e)
	}
}

// The bytes themselves: the magic, number and count, the sum of all, a part, the volume's own sum.
func TestSplitOfTwo(t *testing.T) {
	l := mustSplit(t, "123456789"+strings.Repeat("\x00", 18), 40)
	if len(l) != 2 {
		t.Fatalf("P9: %x", l)
	}
	sum := hex.EncodeToString([]byte(sumOf("123456789" + strings.Repeat("\x00", 18))))
	for i, part := range []string{"313233343536373839" + strings.Repeat("00", 17), "00"} {
		ahead := "564f4c31" + []string{"00", "01"}[i] + "02" + sum + part
		raw, _ := hex.DecodeString(ahead)
		if want := ahead + hex.EncodeToString([]byte(sumOf(string(raw)))); hex.EncodeToString([]byte(l[i])) != want {
			t.Errorf("P9: volume %d: %x, want %s", i, l[i], want)
		}
	}
	if l := mustSplit(t, "123456789", 40); len(l) != 1 || l[0][:19] != "VOL1\x00\x01\xfc\x89\x19\x18123456789" {
		t.Errorf("P9: %x", l)
	}
}

// At each size the lengths at which one volume more must be, and those beside them.
func TestSplitAtTheEdges(t *testing.T) {
	random := rand.New(rand.NewSource(11))
	b := someBytes(random, api.MaxBytes)
	for _, size := range []int{40, 41, 42, 53, 54, 55, 100, 255, 256, 257, 1000, 2014, 3013, 3014, 3015, 3999, 4000} {
		lengths := []int{0, 1, 5999, 6000}
		for many := size - 14; many <= 6000; many += size - 14 {
			lengths = append(lengths, many-1, many, min(many+1, 6000))
		}
		for _, many := range lengths {
			want, _ := modelSplit(b[:many], size)
			if l := mustSplit(t, b[:many], size); !slices.Equal(l, want) {
				t.Errorf("P9: Split of %d bytes with size %d: %d volumes, want %d", many, size, len(l), len(want))
			}
		}
	}
}

func TestSplitOfEveryLength(t *testing.T) {
	b := someBytes(rand.New(rand.NewSource(12)), 300)
	for many := range len(b) + 1 {
		for size := 40; size < 60; size++ {
			want, _ := modelSplit(b[:many], size)
			if l := mustSplit(t, b[:many], size); !slices.Equal(l, want) {
				t.Errorf("P9: Split of %d bytes with size %d: %x, want %x", many, size, l, want)
			}
		}
	}
}

// As few volumes as there can be, and all but the last of the full size.
func TestSplitSizes(t *testing.T) {
	b := strings.Repeat("x", 6000)
	for _, c := range []struct{ many, size, count, last int }{
		{0, 40, 1, 14}, {0, 4000, 1, 14}, {1, 40, 1, 15}, {25, 40, 1, 39}, {26, 40, 1, 40}, {27, 40, 2, 15}, {52, 40, 2, 40}, {53, 40, 3, 15},
		{6000, 40, 231, 34}, {5980, 40, 230, 40}, {5981, 40, 231, 15}, {6000, 41, 223, 20}, {6000, 4000, 2, 2028}, {3986, 4000, 1, 4000}, {3987, 4000, 2, 15},
		{6000, 3014, 2, 3014}, {6000, 3013, 3, 16}, {6000, 2014, 3, 2014},
	} {
		l := mustSplit(t, b[:c.many], c.size)
		if len(l) != c.count {
			t.Errorf("P9: Split of %d bytes with size %d: %d volumes, want %d", c.many, c.size, len(l), c.count)
			continue
		}
		for i, s := range l {
			want := c.size
			if i == len(l)-1 {
				want = c.last
			}
			if len(s) != want {
				t.Errorf("P9: Split of %d bytes with size %d: volume %d has %d bytes, want %d", c.many, c.size, i, len(s), want)
			}
		}
	}
}

// A refusal comes without a list (P1, P9).
func TestSplitRefuses(t *testing.T) {
	full := strings.Repeat("x", api.MaxBytes)
	for _, size := range []int{-1 << 63, -1<<63 + 13, -40, -1, 0, 1, 13, 14, 15, 26, 39, 4001, 4014, 6000, 1 << 32, 1<<32 + 40, 1<<63 - 15, 1<<63 - 1} {
		for _, b := range []string{"", "a", full, full + "x"} {
			if l, e := Split(b, size); e != api.ErrSize || len(l) != 0 {
				t.Errorf("P9: Split of %d bytes with size %d: %d volumes, %d", len(b), size, len(l), e)
			}
		}
	}
	for _, b := range []string{full + "x", full + full, strings.Repeat("x", 1<<16), strings.Repeat("x", 20000000)} {
		for _, size := range []int{40, 100, 3999, 4000} {
			if l, e := Split(b, size); e != api.ErrSize || len(l) != 0 {
				t.Errorf("P9: Split of %d bytes with size %d: %d volumes, %d", len(b), size, len(l), e)
			}
		}
	}
	for _, size := range []int{40, 4000} {
		if l, e := Split(full, size); e != api.OK || len(l) == 0 {
			t.Errorf("P9: Split of %d bytes with size %d: %d volumes, %d", len(full), size, len(l), e)
		}
	}
}

// Bytes that are bundles, or volumes, or hold what these begin with, are split as any are.
func TestSplitOfWhatLooksLikeVolumes(t *testing.T) {
	for _, b := range []string{mustExport(t, example()), mustExport(t, full()), volumeOf(0, 1, sumOf(""), ""), strings.Repeat("VOL1", 100), strings.Join(mustSplit(t, mustExport(t, full()), 100)[:50], "")} {
		for _, size := range []int{40, 54, 77, 4000} {
			want, _ := modelSplit(b, size)
			l := mustSplit(t, b, size)
			if !slices.Equal(l, want) {
				t.Errorf("P9: Split(%x, %d) = %x", b, size, l)
			}
			if back, e, at := Join(l); back != b || e != api.OK || at != 0 {
				t.Errorf("P10: Join of Split(%x, %d) = %x, %d, %d", b, size, back, e, at)
			}
		}
	}
}
