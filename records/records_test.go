package records

import (
	"encoding/binary"
	"strings"
	"testing"

	"parcel/api"
	"parcel/sums"
)

func TestNumbersOfTheDocument(t *testing.T) {
	for _, c := range []struct {
		n int
		b string
	}{
		{0, "\x00"}, {1, "\x01"}, {127, "\x7f"}, {128, "\x80\x01"}, {300, "\xac\x02"},
		{16383, "\xff\x7f"}, {16384, "\x80\x80\x01"},
		{api.MaxNumber - 1, "\xff\xff\xff\xff\xff\xff\xff\xff\x3f"},
		{api.MaxNumber, "\x80\x80\x80\x80\x80\x80\x80\x80\x40"},
		{1<<63 - 1, "\xff\xff\xff\xff\xff\xff\xff\xff\x7f"},
	} {
		if b := Number(c.n); b != c.b {
			t.Errorf("number %d: %x, want %x", c.n, b, c.b)
		}
	}
}

func TestNumbersByTheLibrary(t *testing.T) {
	for bit := 0; bit < 63; bit++ {
		for _, n := range []int{1<<bit - 1, 1 << bit, 1<<bit + 1, 1<<bit | 1<<(bit/2)} {
			if b := Number(n); b != string(binary.AppendUvarint(nil, uint64(n))) {
				t.Errorf("number %d: %x", n, b)
			}
		}
	}
}

func TestRecords(t *testing.T) {
	for _, c := range []struct{ name, got, want string }{
		{"whole head", Head(0, 0), "\x04\x00"},
		{"whole head, whatever the Base", Head(0, 7), "\x04\x00"},
		{"head 1 with Base 0", Head(1, 0), "\x04\x01\x00\x00\x00\x00"},
		{"head 15", Head(15, 0xfc891918), "\x04\x0f\xfc\x89\x19\x18"},
		{"clock", Clock(api.Clock{Site: 200, Count: 1}), "\x01\xc8\x01\x01"},
		{"card", Card(api.Card{Id: 5, Site: 1, Count: 2, Text: "hi"}), "\x02\x05\x01\x02\x00hi"},
		{"card without a text", Card(api.Card{Id: 5, Site: 1, Count: 300}), "\x02\x05\x01\xac\x02\x00"},
		{"card that is gone", Card(api.Card{Id: 9, Site: 7, Count: 1, Gone: true}), "\x02\x09\x07\x01\x01"},
		{"edit", Edit(api.Edit{Id: 5, Text: "yo"}), "\x03\x05yo"},
		{"edit without a text", Edit(api.Edit{Id: 128}), "\x03\x80\x01"},
		{"edit of bytes that are no letters", Edit(api.Edit{Id: 1, Text: "\x00\xf5\x5f\x80"}), "\x03\x01\x00\xf5\x5f\x80"},
	} {
		if c.got != c.want {
			t.Errorf("%s: %x, want %x", c.name, c.got, c.want)
		}
	}
}

func TestFrame(t *testing.T) {
	for _, c := range []struct{ record, frame string }{
		{"\x04\x00", "\xf5\x5f\x02\x04\x00\x0e\x0e\xfa\x58"},
		{"12345678", "\xf5\x5f\x0812345678" + sums.FourBytes(slowSum("\x0812345678"))},
		{strings.Repeat("x", 255), "\xf5\x5f\xff" + strings.Repeat("x", 255) + sums.FourBytes(slowSum("\xff"+strings.Repeat("x", 255)))},
	} {
		if b := Frame(c.record); b != c.frame {
			t.Errorf("frame of %x: %x, want %x", c.record, b, c.frame)
		}
	}
}

// slowSum takes one bit at a time, without the bytes' borders.
func slowSum(s string) int {
	left := uint32(0xffffffff)
	for i := 0; i < 8*len(s); i++ {
		bit := uint32(s[i/8]) >> (7 - i%8) & 1
		high := left >> 31
		left <<= 1
		if high != bit {
			left ^= 0x04c11db7
		}
	}
	return int(^left)
}
