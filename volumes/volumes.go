// Package volumes: bytes cut into volumes and joined again, of DOC.md.
package volumes

import "parcel/sums"

// magic is what a volume begins with.
const magic = "VOL1"

// Where the things of a volume stand, and how few bytes it has: one without
// any of the bytes that were split.
const (
	numberAt    = 4
	countAt     = 5
	wholeAt     = 6
	partAt      = 10
	sumLength   = 4
	leastLength = partAt + sumLength
)

// volume is what a volume holds: its number, how many there are, the four
// bytes of the sum of all that was split, and its own part of that.
type volume struct {
	number, count byte
	whole, part   string
}

func bytesOf(v volume) string {
	body := magic + string([]byte{v.number, v.count}) + v.whole + v.part
	sum := sums.Sum(body)
	end := sums.FourBytes(sum)
	return body + end
}

// volumeOf is the volume with these bytes, and whether they are one.
func volumeOf(s string) (volume, bool) {
	if len(s) < leastLength || s[:numberAt] != magic || s[numberAt] >= s[countAt] {
		return volume{}, false
	}
	end := len(s) - sumLength
	sum := sums.Sum(s[:end])
	if s[end:] != sums.FourBytes(sum) {
		return volume{}, false
	}
	return volume{number: s[numberAt], count: s[countAt], whole: s[wholeAt:partAt], part: s[partAt:end]}, true
}
