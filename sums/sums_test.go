package sums

import (
	"hash/crc32"
	"math/bits"
	"math/rand"
	"strings"
	"testing"
)

var (
	sumTerms  = []int{32, 26, 23, 22, 16, 12, 11, 10, 8, 7, 5, 4, 2, 1, 0}
	sealTerms = []int{32, 28, 27, 26, 25, 23, 22, 20, 19, 18, 14, 13, 11, 10, 9, 8, 6, 0}
)

// longDivision follows the document word by word: bits laid out in a list.
func longDivision(s string, terms []int) int {
	list := []int{}
	for i := 0; i < len(s); i++ {
		for bit := 7; bit >= 0; bit-- {
			list = append(list, int(s[i])>>bit&1)
		}
	}
	list = append(list, make([]int, 32)...)
	for i := 0; i < 32; i++ {
		list[i] ^= 1
	}
	for i := 0; i+32 < len(list); i++ {
		if list[i] == 1 {
			for _, k := range terms {
				list[i+32-k] ^= 1
			}
		}
	}
	left := 0
	for _, bit := range list[len(list)-32:] {
		left = left<<1 | bit ^ 1
	}
	return left
}

// turned is the same by the library, which takes each byte's lowest bit first.
func turned(s string, polynomial uint32) int {
	b := []byte(s)
	for i := range b {
		b[i] = bits.Reverse8(b[i])
	}
	return int(bits.Reverse32(crc32.Checksum(b, crc32.MakeTable(polynomial))))
}

func TestSumAndSealOfTheDocument(t *testing.T) {
	if n := Sum("123456789"); n != 0xfc891918 {
		t.Errorf("sum of 123456789: %08x", n)
	}
	if n := Seal("123456789"); n != 0x05440f15 {
		t.Errorf("seal of 123456789: %08x", n)
	}
}

func TestSumAndSealByOtherWays(t *testing.T) {
	list := []string{"", "\x00", "\xff", "\x00\x00", "a", "ab", "abc", "abcd", "abcde", "\x00\x00\x00\x00", "\xff\xff\xff\xff", "\xff\xff\xff\xff\x00"}
	random := rand.New(rand.NewSource(1))
	for n := 0; n < 300; n++ {
		b := make([]byte, n)
		random.Read(b)
		list = append(list, string(b))
	}
	list = append(list, strings.Repeat("\xf5\x5f", 3000))
	for _, s := range list {
		if n := Sum(s); n != longDivision(s, sumTerms) || n != turned(s, crc32.IEEE) {
			t.Errorf("sum of %x: %08x, want %08x, %08x", s, n, longDivision(s, sumTerms), turned(s, crc32.IEEE))
		}
		if n := Seal(s); n != longDivision(s, sealTerms) || n != turned(s, crc32.Castagnoli) {
			t.Errorf("seal of %x: %08x, want %08x, %08x", s, n, longDivision(s, sealTerms), turned(s, crc32.Castagnoli))
		}
	}
}

func TestFourBytes(t *testing.T) {
	for _, c := range []struct {
		n int
		b string
	}{
		{0, "\x00\x00\x00\x00"}, {1, "\x00\x00\x00\x01"}, {0x01020304, "\x01\x02\x03\x04"}, {4294967295, "\xff\xff\xff\xff"},
	} {
		if b := FourBytes(c.n); b != c.b {
			t.Errorf("four bytes of %d: %x, want %x", c.n, b, c.b)
		}
	}
}

func TestFourBytesThereAndBack(t *testing.T) {
	for _, n := range []int{0, 1, 255, 256, 0x01020304, 0x7fffffff, 0x80000000, 0xfffffffe, 4294967295} {
		if m := FromFourBytes(FourBytes(n)); m != n {
			t.Errorf("four bytes of %d: back %d", n, m)
		}
	}
}
