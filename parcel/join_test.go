package parcel

import (
	"math/rand"
	"slices"
	"strings"
	"testing"

	"parcel/api"
)

func TestJoinOfTheDocument(t *testing.T) {
	b := strings.Repeat("0123456789", 10)
	l := mustSplit(t, b, 40)
	for _, c := range []struct {
		l  []string
		b  string
		e  api.Errno
		at int
	}{
		{picked(l, 3, 0, 2, 1), b, api.OK, 0},
		{picked(l, 3, 0, 2), "", api.ErrMissing, 0},
		{picked(l, 3, 0, 3, 1), "", api.ErrTwice, 2},
		{nil, "", api.ErrMissing, 0}, {[]string{}, "", api.ErrMissing, 0},
	} {
		if back, e, at := Join(c.l); back != c.b || e != c.e || at != c.at {
			t.Errorf("P10: example 7: Join(%x) = %x, %d, %d, want %x, %d, %d", c.l, back, e, at, c.b, c.e, c.at)
		}
	}
}

// orders are all ways to lay some places.
func orders(many int) [][]int {
	if many == 0 {
		return [][]int{nil}
	}
	list := [][]int{}
	for _, order := range orders(many - 1) {
		for at := range many {
			list = append(list, slices.Insert(slices.Clone(order), at, many-1))
		}
	}
	return list
}

func TestJoinInAnyOrder(t *testing.T) {
	random := rand.New(rand.NewSource(13))
	for many := 1; many <= 5; many++ {
		b := someBytes(random, 26*many-random.Intn(26))
		l := mustSplit(t, b, 40)
		for _, order := range orders(many) {
			if back, e, at := Join(picked(l, order...)); back != b || e != api.OK || at != 0 {
				t.Errorf("P10: the volumes %d of %x: %x, %d, %d", order, b, back, e, at)
			}
		}
	}
}

func TestJoinOfSplit(t *testing.T) {
	random := rand.New(rand.NewSource(14))
	for k := 0; k < 400; k++ {
		b := someBytes(random, random.Intn(api.MaxBytes+1)>>random.Intn(8))
		size := api.MinVolume + random.Intn(api.MaxVolume-api.MinVolume+1)>>random.Intn(12)
		l := mustSplit(t, b, size)
		random.Shuffle(len(l), func(i, j int) { l[i], l[j] = l[j], l[i] })
		if back, e, at := Join(l); back != b || e != api.OK || at != 0 {
			t.Fatalf("P10: %d bytes, split with size %d: %d bytes, %d, %d", len(b), size, len(back), e, at)
		}
	}
	for _, size := range []int{40, 41, 3013, 3014, 4000} {
		b := someBytes(random, api.MaxBytes)
		l := mustSplit(t, b, size)
		slices.Reverse(l)
		if back, e, at := Join(l); back != b || e != api.OK || at != 0 {
			t.Errorf("P10: the most bytes, size %d: %d bytes, %d, %d", size, len(back), e, at)
		}
	}
}

// Volumes that Split would not have made are volumes too, if nothing of P10 is against them.
func TestJoinOfOtherVolumes(t *testing.T) {
	long := strings.Repeat("x", 3*api.MaxBytes)
	most := make([]string, 255)
	for i := range most {
		most[i] = string([]byte{byte(i)})
	}
	for _, parts := range [][]string{
		{""}, {"", ""}, {"", "abcd", ""}, {"ab", "cd"}, {"a", "", "bcd"}, {"abc", "d"}, {long}, {long, long}, {"a", long}, {"VOL1", "PRC1"}, most, make([]string, 255),
	} {
		l := volumesOf(parts...)
		b := strings.Join(parts, "")
		if back, e, at := Join(l); back != b || e != api.OK || at != 0 {
			t.Errorf("P10: Join of %d parts = %d bytes, %d, %d, want %d", len(parts), len(back), e, at, len(b))
		}
		slices.Reverse(l)
		if back, e, at := Join(l); back != b || e != api.OK || at != 0 {
			t.Errorf("P10: Join of %d parts, turned round = %d bytes, %d, %d, want %d", len(parts), len(back), e, at, len(b))
		}
	}
}

type noJoin struct {
	l  []string
	e  api.Errno
	at int
}

func noJoins() []noJoin {
	l := volumesOf("ab", "cd", "ef")
	o := volumesOf("ab", "cd", "eg")
	w := sumOf("abcdef")
	s := l[0]
	list := []noJoin{}
	// Strings that are no volume, each in one thing, and with its sum where it has one.
	for _, bad := range []string{
		"", "V", "VOL1", s[:10], s[:13], s[:len(s)-1], s[1:], s + "x", "x" + s, s + s, s[:len(s)-4], strings.Repeat("\x00", 14), strings.Repeat("VOL1", 4),
		"VOL1\x00\x03" + sumOf("VOL1\x00\x03"), "VOL1\x00\x03" + w[:3] + sumOf("VOL1\x00\x03"+w[:3]),
		"VOL2" + s[4:len(s)-4] + sumOf("VOL2"+s[4:len(s)-4]), "vol1" + s[4:len(s)-4] + sumOf("vol1"+s[4:len(s)-4]), "PRC1" + s[4:len(s)-4] + sumOf("PRC1"+s[4:len(s)-4]), bundleOf(head, clock),
		volumeOf(3, 3, w, "ab"), volumeOf(4, 3, w, "ab"), volumeOf(255, 3, w, "ab"), volumeOf(1, 1, w, "ab"), volumeOf(0, 0, w, "ab"), volumeOf(1, 0, w, "ab"), volumeOf(255, 255, w, "ab"),
		s[:len(s)-4] + "abcd", s[:len(s)-4] + sealOf(s[:len(s)-4]), s[:len(s)-4] + sumOf(s[4:len(s)-4]), s[:len(s)-4] + sumOf("ab"), s[:len(s)-4] + sumOf(s), s[:11] + "x" + s[12:], s[:6] + "abcd" + s[10:],
	} {
		list = append(list, noJoin{[]string{bad}, api.ErrVolume, 0}, noJoin{[]string{bad, l[1], l[2]}, api.ErrVolume, 0}, noJoin{[]string{l[0], bad, l[2]}, api.ErrVolume, 1}, noJoin{[]string{l[0], l[1], l[2], bad}, api.ErrVolume, 3}, noJoin{[]string{l[0], bad, "", l[2]}, api.ErrVolume, 1})
		// Ahead of all that is wrong with the volumes before it.
		list = append(list, noJoin{[]string{l[0], o[1], bad}, api.ErrVolume, 2}, noJoin{[]string{l[0], l[0], bad}, api.ErrVolume, 2})
	}
	list = append(list, []noJoin{
		{[]string{l[0], o[1], l[2]}, api.ErrMixed, 1}, {[]string{l[0], l[1], o[2]}, api.ErrMixed, 2}, {[]string{o[0], l[1], l[2]}, api.ErrMixed, 1}, {[]string{l[2], o[2], l[0]}, api.ErrMixed, 1},
		{[]string{l[0], volumeOf(1, 2, w, "cdef")}, api.ErrMixed, 1}, {[]string{volumeOf(0, 2, w, "ab"), l[1], l[2]}, api.ErrMixed, 1}, {[]string{l[0], l[1], l[2], volumeOf(3, 4, w, "")}, api.ErrMixed, 3},
		{[]string{l[0], volumeOf(1, 3, w[:3]+"\x00", "cd"), l[2]}, api.ErrMixed, 1}, {[]string{l[0], volumeOf(1, 3, "\x00"+w[1:], "cd"), l[2]}, api.ErrMixed, 1},
		// Of several the first; and ahead of one that is twice, or missing.
		{[]string{l[0], o[1], o[2]}, api.ErrMixed, 1}, {[]string{l[0], l[0], o[1]}, api.ErrMixed, 2}, {[]string{l[0], o[0]}, api.ErrMixed, 1}, {[]string{l[0], l[1], l[1], l[2], o[1]}, api.ErrMixed, 4},
		{[]string{l[0], l[0]}, api.ErrTwice, 1}, {[]string{l[0], l[1], l[2], l[0]}, api.ErrTwice, 3}, {[]string{l[0], l[1], l[1]}, api.ErrTwice, 2}, {[]string{l[2], l[1], l[0], l[0], l[1]}, api.ErrTwice, 3}, {[]string{l[1], l[1], l[0], l[0]}, api.ErrTwice, 1},
		{[]string{l[0], l[1], l[2], l[0], l[1], l[2]}, api.ErrTwice, 3},
		// The same number with other bytes is there twice too.
		{[]string{l[0], l[1], volumeOf(1, 3, w, "ef")}, api.ErrTwice, 2}, {[]string{l[0], volumeOf(0, 3, w, "")}, api.ErrTwice, 1},
		{l[:1], api.ErrMissing, 0}, {l[:2], api.ErrMissing, 0}, {l[1:], api.ErrMissing, 0}, {[]string{l[2], l[0]}, api.ErrMissing, 0}, {nil, api.ErrMissing, 0},
		// Ahead of another sum.
		{[]string{volumeOf(0, 2, w, "x")}, api.ErrMissing, 0}, {[]string{volumeOf(0, 2, w, "abcdef")}, api.ErrMissing, 0}, {[]string{volumeOf(254, 255, w, "abcdef")}, api.ErrMissing, 0},
		{[]string{l[0], volumeOf(1, 3, w, "ce"), l[2]}, api.ErrSum, 0}, {[]string{l[0], volumeOf(1, 3, w, "ef"), volumeOf(2, 3, w, "cd")}, api.ErrSum, 0}, {[]string{l[0], l[1], volumeOf(2, 3, w, "ef\x00")}, api.ErrSum, 0}, {[]string{l[0], l[1], volumeOf(2, 3, w, "")}, api.ErrSum, 0},
		{[]string{volumeOf(0, 1, w, "")}, api.ErrSum, 0}, {[]string{volumeOf(0, 1, sealOf("ab"), "ab")}, api.ErrSum, 0}, {[]string{volumeOf(0, 1, "\x00\x00\x00\x01", "")}, api.ErrSum, 0},
	}...)
	return list
}

// A refusal comes with the place alone (P1, P10).
func TestJoinRefuses(t *testing.T) {
	for _, c := range noJoins() {
		if b, e, at := Join(c.l); b != "" || e != c.e || at != c.at {
			t.Errorf("P10: Join(%x) = %x, %d, %d, want %d, %d", c.l, b, e, at, c.e, c.at)
		}
		if _, e, at := modelJoin(c.l); e != c.e || at != c.at {
			t.Errorf("the model refuses %x with %d, %d, want %d, %d", c.l, e, at, c.e, c.at)
		}
	}
}

// Without one volume, with one twice or with one of other bytes they are refused (P14).
func TestJoinAsksForEachOnce(t *testing.T) {
	random := rand.New(rand.NewSource(15))
	b := someBytes(random, 777)
	for _, size := range []int{40, 100, 500} {
		l := mustSplit(t, b, size)
		o := mustSplit(t, b[:776]+string([]byte{b[776] ^ 1}), size)
		for i := range l {
			without := slices.Delete(slices.Clone(l), i, i+1)
			if back, e, at := Join(without); back != "" || e != api.ErrMissing || at != 0 {
				t.Errorf("P10: without volume %d: %x, %d, %d", i, back, e, at)
			}
			at := random.Intn(len(l) + 1)
			twice := slices.Insert(slices.Clone(l), at, l[i])
			if back, e, place := Join(twice); back != "" || e != api.ErrTwice || place != max(at, i+1) {
				t.Errorf("P10: with volume %d again at %d: %x, %d, %d", i, at, back, e, place)
			}
			mixed := slices.Clone(l)
			mixed[i] = o[i]
			if back, e, place := Join(mixed); back != "" || e != api.ErrMixed || place != max(i, 1) {
				t.Errorf("P10: with another volume %d: %x, %d, %d", i, back, e, place)
			}
		}
	}
}

// A volume in which bits are turned over within four bytes is no volume (P14).
func TestJoinRefusesTurnedBits(t *testing.T) {
	random := rand.New(rand.NewSource(16))
	for _, l := range [][]string{volumesOf(""), mustSplit(t, someBytes(random, 60), 40), mustSplit(t, strings.Repeat("\x00", 50), 40)} {
		for i, s := range l {
			for bit := 0; bit < 8*len(s); bit++ {
				for _, more := range []uint32{0, 1, 1 << 30, 1<<31 - 1, random.Uint32() >> 1, random.Uint32() >> 20} {
					given := slices.Clone(l)
					given[i] = turnedBits(s, bit, more)
					if b, e, at := Join(given); b != "" || e != api.ErrVolume || at != i {
						t.Fatalf("P10: bits from %d on turned over in volume %d: %x, %d, %d", bit, i, b, e, at)
					}
				}
			}
		}
	}
}

// wildVolumes are mostly of one whole, and mostly volumes.
func wildVolumes(random *rand.Rand) []string {
	parts := []string{}
	for k := 1 + random.Intn(6); k > 0; k-- {
		parts = append(parts, someBytes(random, random.Intn(5)))
	}
	l := volumesOf(parts...)
	random.Shuffle(len(l), func(i, j int) { l[i], l[j] = l[j], l[i] })
	for k := random.Intn(4); k > 0 && len(l) > 0; k-- {
		i := random.Intn(len(l))
		switch random.Intn(8) {
		case 0:
			l[i] = turnedBits(l[i], random.Intn(8*len(l[i])), random.Uint32()>>1)
		case 1:
			l[i] = l[i][:random.Intn(len(l[i]))] + "x"
		case 2:
			l[i] = volumeOf(random.Intn(8), random.Intn(8), sumOf(strings.Join(parts, "")), parts[0])
		case 3:
			l[i] = volumeOf(random.Intn(len(parts)), len(parts), sumOf(parts[0]), parts[0])
		case 4, 5:
			l[i] = volumeOf(random.Intn(len(parts)), len(parts), sumOf(strings.Join(parts, "")), parts[random.Intn(len(parts))])
		case 6:
			l = append(l, l[i])
		default:
			l = slices.Delete(l, i, i+1)
		}
	}
	return l
}

func TestJoinOfManyLists(t *testing.T) {
	random := rand.New(rand.NewSource(17))
	answers := make([]int, api.ErrOld+1)
	for k := 0; k < 20000; k++ {
		l := wildVolumes(random)
		want, fault, place := modelJoin(l)
		if b, e, at := Join(l); b != want || e != fault || at != place {
			t.Fatalf("P10: Join(%x) = %x, %d, %d, want %x, %d, %d", l, b, e, at, want, fault, place)
		}
		answers[fault]++
	}
	for _, e := range []api.Errno{api.OK, api.ErrVolume, api.ErrMixed, api.ErrTwice, api.ErrMissing, api.ErrSum} {
		if answers[e] < 300 {
			t.Errorf("the lists are too much alike: %d", answers)
		}
	}
}

// Lists and strings of any length are answered (P1).
func TestJoinEnds(t *testing.T) {
	l := volumesOf("ab", "cd")
	for _, c := range []noJoin{
		{slices.Repeat([]string{""}, 300000), api.ErrVolume, 0},
		{append(slices.Repeat(l[:1], 300000), "x"), api.ErrVolume, 300000},
		{slices.Repeat(l[:1], 300000), api.ErrTwice, 1},
		{append(slices.Repeat(l[1:], 300000), volumesOf("a", "b")[0]), api.ErrMixed, 300000},
		{[]string{strings.Repeat("VOL1", 1000000)}, api.ErrVolume, 0},
	} {
		if b, e, at := Join(c.l); b != "" || e != c.e || at != c.at {
			t.Errorf("P1, P10: %d strings: %x, %d, %d, want %d, %d", len(c.l), b, e, at, c.e, c.at)
		}
	}
	parts := slices.Repeat([]string{strings.Repeat("y", 20000)}, 255)
	if b, e, at := Join(volumesOf(parts...)); b != strings.Join(parts, "") || e != api.OK || at != 0 {
		t.Errorf("P1, P10: 255 long volumes: %d bytes, %d, %d", len(b), e, at)
	}
}
