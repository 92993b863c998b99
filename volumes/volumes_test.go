package volumes

import (
	"slices"
	"strings"
	"testing"

	"parcel/api"
	"parcel/sums"
)

func TestBytesThereAndBack(t *testing.T) {
	for _, v := range []volume{
		{0, 1, "\x00\x00\x00\x00", ""}, {0, 2, "abcd", "x"}, {254, 255, "\xff\xff\xff\xff", strings.Repeat("VOL1", 2000)}, {3, 200, "VOL1", "\x00"},
	} {
		s := bytesOf(v)
		if len(s) != leastLength+len(v.part) {
			t.Errorf("%+v has %d bytes", v, len(s))
		}
		if back, ok := volumeOf(s); !ok || back != v {
			t.Errorf("%+v: back %+v, %v", v, back, ok)
		}
		for _, bad := range []string{s[:len(s)-1], s[1:], s + "\x00", s + s} {
			if back, ok := volumeOf(bad); ok || back != (volume{}) {
				t.Errorf("no volume %x: %+v, %v", bad, back, ok)
			}
		}
	}
}

// The number must be below the count, whatever the sum says.
func TestNumberBelowCount(t *testing.T) {
	for number := range 256 {
		for count := range 256 {
			v := volume{byte(number), byte(count), "abcd", "x"}
			if back, ok := volumeOf(bytesOf(v)); ok != (number < count) || ok && back != v {
				t.Errorf("P10: number %d of %d: %+v, %v", number, count, back, ok)
			}
		}
	}
}

// With the bytes up to the sum each length is tried: 14 are enough, 13 are not.
func TestShortStrings(t *testing.T) {
	for k := range partAt + 1 {
		s := "VOL1\x00\x01abcd"[:k]
		s = s + sums.FourBytes(sums.Sum(s))
		if back, ok := volumeOf(s); ok != (k == partAt) {
			t.Errorf("P10: %x: %+v, %v", s, back, ok)
		}
	}
}

func TestPartsOf(t *testing.T) {
	for _, c := range []struct {
		b     string
		room  int
		parts []string
	}{
		{"", 1, []string{""}}, {"", 26, []string{""}}, {"a", 1, []string{"a"}}, {"ab", 1, []string{"a", "b"}},
		{"abc", 3, []string{"abc"}}, {"abcd", 3, []string{"abc", "d"}}, {"abcdef", 3, []string{"abc", "def"}}, {"abcdefg", 3, []string{"abc", "def", "g"}},
	} {
		if parts := partsOf(c.b, c.room); !slices.Equal(parts, c.parts) {
			t.Errorf("P9: parts of %q, %d bytes each: %q, want %q", c.b, c.room, parts, c.parts)
		}
	}
}

func TestFirstMixedAndFirstTwice(t *testing.T) {
	a := volume{0, 3, "abcd", "x"}
	b := volume{1, 3, "abcd", "y"}
	c := volume{2, 3, "abcd", "x"}
	fewer := volume{1, 2, "abcd", "y"}
	other := volume{1, 3, "abce", "y"}
	for _, k := range []struct {
		list         []volume
		mixed, twice int
	}{
		{nil, 0, 0}, {[]volume{a}, 1, 1}, {[]volume{a, b, c}, 3, 3}, {[]volume{c, a, b}, 3, 3},
		{[]volume{a, a}, 2, 1}, {[]volume{a, b, b, a}, 4, 2}, {[]volume{c, b, a, c}, 4, 3},
		{[]volume{a, fewer}, 1, 2}, {[]volume{a, other, fewer}, 1, 2}, {[]volume{b, a, other}, 2, 2}, {[]volume{other, a, c}, 1, 3},
	} {
		if mixed := firstMixed(k.list); mixed != k.mixed {
			t.Errorf("P10: first mixed of %+v: %d, want %d", k.list, mixed, k.mixed)
		}
		if twice := firstTwice(k.list); twice != k.twice {
			t.Errorf("P10: first that is twice of %+v: %d, want %d", k.list, twice, k.twice)
		}
	}
}

func TestSplitAndJoin(t *testing.T) {
	b := strings.Repeat("0123456789", 600)
	for size := api.MinVolume; size <= api.MaxVolume; size += 99 {
		l, fault := Split(b, size)
		if fault != api.OK {
			t.Fatalf("P9: size %d: %d", size, fault)
		}
		slices.Reverse(l)
		if back, fault, place := Join(l); back != b || fault != api.OK || place != 0 {
			t.Errorf("P10: size %d: %d bytes, %d, %d", size, len(back), fault, place)
		}
	}
}
