package records

import (
	"strings"
	"testing"

	"parcel/api"
)

func TestFirstNumber(t *testing.T) {
	for _, c := range []struct {
		s         string
		n, length int
	}{
		{"", 0, 0}, {"\x00", 0, 1}, {"\x01", 1, 1}, {"\x7f", 127, 1}, {"\x80\x01", 128, 2}, {"\xac\x02", 300, 2}, {"\xc8\x01", 200, 2},
		{"\x00\x00", 0, 1}, {"\x05hi", 5, 1}, {"\xac\x02\xff\xff", 300, 2},
		{"\x80", 0, 0}, {"\xff\xff\xff", 0, 0},
		{"\x80\x00", 0, 0}, {"\x81\x00", 0, 0}, {"\xff\x80\x00", 0, 0}, {"\x80\x80\x01", 16384, 3},
		{"\xff\xff\xff\xff\xff\xff\xff\xff\x7f", 1<<63 - 1, 9},
		{"\x80\x80\x80\x80\x80\x80\x80\x80\x01", 1 << 56, 9},
		{"\x80\x80\x80\x80\x80\x80\x80\x80\x40", api.MaxNumber, 9},
		{"\x80\x80\x80\x80\x80\x80\x80\x80\x00", 0, 0},
		{"\x80\x80\x80\x80\x80\x80\x80\x80", 0, 0},
		{"\x80\x80\x80\x80\x80\x80\x80\x80\x80", 0, 0},
		{"\x80\x80\x80\x80\x80\x80\x80\x80\x80\x01", 0, 0},
		{"\xff\xff\xff\xff\xff\xff\xff\xff\xff\x00", 0, 0},
		{strings.Repeat("\xff", 300), 0, 0},
	} {
		if n, length := firstNumber(c.s); n != c.n || length != c.length {
			t.Errorf("number at the front of %x: %d of %d bytes, want %d of %d", c.s, n, length, c.n, c.length)
		}
	}
}

func TestNumbersThereAndBack(t *testing.T) {
	for bit := 0; bit < 63; bit++ {
		for _, n := range []int{1<<bit - 1, 1 << bit, 1<<bit | 1<<(bit/2), 1<<63 - 1 - 1<<bit} {
			b := Number(n)
			for _, behind := range []string{"", "\x00", "\x7f", "\xff"} {
				if m, length := firstNumber(b + behind); m != n || length != len(b) {
					t.Errorf("number %d, %x and %x: %d of %d bytes", n, b, behind, m, length)
				}
			}
			if m, length := firstNumber(b[:len(b)-1]); m != 0 || length != 0 {
				t.Errorf("number %d without its last byte: %d of %d bytes", n, m, length)
			}
		}
	}
}

const greatest = "\xff\xff\xff\xff\xff\xff\xff\xff\x7f"

func TestFoundInRecords(t *testing.T) {
	for _, c := range []struct {
		record string
		found  api.Found
	}{
		{"\x04\x00", api.Found{Kind: 4}},
		{"\x04\x01\x00\x00\x00\x00", api.Found{Kind: 4, Seq: 1}},
		{"\x04\x81\x01\xff\x00\x01\x02", api.Found{Kind: 4, Seq: 129, Base: 0xff000102}},
		{"\x04" + greatest + "\xff\xff\xff\xff", api.Found{Kind: 4, Seq: 1<<63 - 1, Base: 4294967295}},
		{"\x01\x01\x02", api.Found{Kind: 1, Site: 1, Count: 2}},
		{"\x01\x00\x00", api.Found{Kind: 1}},
		{"\x01" + greatest + greatest, api.Found{Kind: 1, Site: 1<<63 - 1, Count: 1<<63 - 1}},
		{"\x02\x05\x01\x02\x00hi", api.Found{Kind: 2, Id: 5, Site: 1, Count: 2, Text: "hi"}},
		{"\x02\x09\x07\x01\x01", api.Found{Kind: 2, Id: 9, Site: 7, Count: 1, Gone: true}},
		{"\x02\x00\x00\x00\x01x", api.Found{Kind: 2, Gone: true, Text: "x"}},
		{"\x02\xac\x02\xc8\x01\x80\x01\x00\x00", api.Found{Kind: 2, Id: 300, Site: 200, Count: 128, Text: "\x00"}},
		{"\x03\x05yo", api.Found{Kind: 3, Id: 5, Text: "yo"}},
		{"\x03\x00", api.Found{Kind: 3}},
		{"\x03\x01\x80", api.Found{Kind: 3, Id: 1, Text: "\x80"}},
	} {
		if found, ok := foundIn(c.record); !ok || found != c.found {
			t.Errorf("record %x: %+v, %v, want %+v", c.record, found, ok, c.found)
		}
	}
}

// noRecords are bytes that are no record, each in one thing.
var noRecords = []string{
	"", "\x00", "\x00\x00", "\x05\x01", "\xff\x01", "0\x01", "\x06\x01\x02", "\x84\x00",
	"\x04", "\x04\x00\x00", "\x04\x00\x00\x00\x00\x00", "\x04\x80\x00", "\x04\x80", "\x04\x81\x00abcd",
	"\x04\x01", "\x04\x01a", "\x04\x01ab", "\x04\x01abc", "\x04\x01abcde", "\x04\x01abcd\x00",
	"\x04\x80\x80\x80\x80\x80\x80\x80\x80\x80\x01abcd",
	"\x01", "\x01\x01", "\x01\x01\x80", "\x01\x80", "\x01\x01\x02\x00", "\x01\x01\x02x", "\x01\x81\x00\x02", "\x01\x01\x82\x00",
	"\x01\x01\x80\x80\x80\x80\x80\x80\x80\x80\x80\x01", "\x01\x80\x80\x80\x80\x80\x80\x80\x80\x80\x01\x01",
	"\x02", "\x02\x01", "\x02\x01\x01", "\x02\x01\x01\x01", "\x02\x01\x01\x01\x02", "\x02\x01\x01\x01\x80", "\x02\x01\x01\x01\xff", "\x02\x01\x01\x01\x02hi",
	"\x02\x81\x00\x01\x01\x00", "\x02\x01\x81\x00\x01\x00", "\x02\x01\x01\x81\x00\x00", "\x02\x01\x01\x80",
	"\x03", "\x03\x80", "\x03\x85\x00yo", "\x03\x80\x80\x80\x80\x80\x80\x80\x80\x80\x01yo",
}

func TestNoRecords(t *testing.T) {
	for _, record := range noRecords {
		if found, ok := foundIn(record); ok || found != (api.Found{}) {
			t.Errorf("no record %x: %+v, %v", record, found, ok)
		}
		if found, length := FrameAt(Frame(record), 0); length != 0 || found != (api.Found{}) {
			t.Errorf("frame of no record %x: %+v, %d", record, found, length)
		}
	}
}

func TestFrameAt(t *testing.T) {
	long := "\x03\x01" + strings.Repeat("z", 253)
	for _, c := range []struct {
		record string
		found  api.Found
	}{
		{"\x04\x00", api.Found{Kind: 4}},
		{"\x01\x01\x02", api.Found{Kind: 1, Site: 1, Count: 2}},
		{"\x02\x05\x01\x02\x00hi", api.Found{Kind: 2, Id: 5, Site: 1, Count: 2, Text: "hi"}},
		{"\x03\x05yo", api.Found{Kind: 3, Id: 5, Text: "yo"}},
		{long, api.Found{Kind: 3, Id: 1, Text: long[2:]}},
	} {
		frame := Frame(c.record)
		for _, ahead := range []string{"", "x", "\xf5", frame} {
			want := c.found
			want.At = len(ahead)
			for _, behind := range []string{"", "x", "\xf5\x5f", frame} {
				if found, length := FrameAt(ahead+frame+behind, len(ahead)); found != want || length != len(frame) {
					t.Errorf("frame of %x, %x ahead: %+v of %d bytes", c.record, ahead, found, length)
				}
			}
			for k := range frame {
				if found, length := FrameAt(ahead+frame[:k], len(ahead)); length != 0 || found != (api.Found{}) {
					t.Errorf("the first %d bytes of %x: %+v of %d bytes", k, frame, found, length)
				}
			}
		}
	}
}

// A frame in which any one bit is turned over does not stand.
func TestFrameAtRefusesTurnedBits(t *testing.T) {
	frame := Frame("\x02\x05\x01\x02\x00" + strings.Repeat("hi", 30))
	for bit := 0; bit < 8*len(frame); bit++ {
		b := []byte(frame)
		b[bit/8] ^= 1 << (bit % 8)
		s := string(b) + strings.Repeat("\x00", 300)
		if found, length := FrameAt(s, 0); length != 0 || found != (api.Found{}) {
			t.Errorf("bit %d turned over: %+v of %d bytes", bit, found, length)
		}
	}
}

func TestFrameAtNoPlace(t *testing.T) {
	frame := Frame("\x04\x00")
	for _, at := range []int{-1 << 63, -1, 1, 8, 9, 10, 100, 1<<63 - 1} {
		if found, length := FrameAt(frame, at); length != 0 || found != (api.Found{}) {
			t.Errorf("at %d: %+v of %d bytes", at, found, length)
		}
	}
}
