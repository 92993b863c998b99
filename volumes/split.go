package volumes

import (
	"parcel/api"
	"parcel/sums"
)

// Split cuts bytes into as few volumes of a size as there can be (P9). Even of
// the most bytes, at the least size, there are no more than 231: the numbers
// fit into a byte.
func Split(b string, size int) ([]string, api.Errno) {
	if size < api.MinVolume || size > api.MaxVolume || len(b) > api.MaxBytes {
		return nil, api.ErrSize
	}
	sum := sums.Sum(b)
	whole := sums.FourBytes(sum)
	parts := partsOf(b, size-leastLength)
	list := []string{}
	for i := 0; i < len(parts); i++ {
		s := bytesOf(volume{number: byte(i), count: byte(len(parts)), whole: whole, part: parts[i]})
		list = append(list, s)
	}
	return list, api.OK
}

// partsOf cuts b into parts of room bytes, 1 or more; the last has what is
// left, so that the empty string too has one part.
func partsOf(b string, room int) []string {
	parts := []string{}
	for len(b) > room {
		parts = append(parts, b[:room])
		b = b[room:]
	}
	parts = append(parts, b)
	return parts
}
