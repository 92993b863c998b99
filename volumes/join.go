package volumes

import (
	"parcel/api"
	"parcel/sums"
)

// most is how many numbers a volume can have: as many as a byte has values.
const most = 256

// Join makes of volumes the bytes that were split; or a fault, and which
// volume has it (P10).
func Join(l []string) (string, api.Errno, int) {
	list := volumesOf(l)
	if len(list) < len(l) {
		return "", api.ErrVolume, len(list)
	}
	place := firstMixed(list)
	if place < len(list) {
		return "", api.ErrMixed, place
	}
	place = firstTwice(list)
	if place < len(list) {
		return "", api.ErrTwice, place
	}
	if len(list) == 0 || len(list) != int(list[0].count) {
		return "", api.ErrMissing, 0
	}
	b := joined(list)
	sum := sums.Sum(b)
	if list[0].whole != sums.FourBytes(sum) {
		return "", api.ErrSum, 0
	}
	return b, api.OK, 0
}

// volumesOf are the volumes up to the first string that is none.
func volumesOf(l []string) []volume {
	list := []volume{}
	for i := 0; i < len(l); i++ {
		v, ok := volumeOf(l[i])
		if !ok {
			return list
		}
		list = append(list, v)
	}
	return list
}

// firstMixed is the place of the first volume that is not of the same bytes as
// volume 0, or the end.
func firstMixed(list []volume) int {
	for i := 0; i < len(list); i++ {
		if list[i].count != list[0].count || list[i].whole != list[0].whole {
			return i
		}
	}
	return len(list)
}

// firstTwice is the place of the first volume whose number was there already,
// or the end.
func firstTwice(list []volume) int {
	seen := [most]bool{}
	for i := 0; i < len(list); i++ {
		if seen[list[i].number] {
			return i
		}
		seen[list[i].number] = true
	}
	return len(list)
}

// joined lays the parts in the order of their numbers, no two of which are the same.
func joined(list []volume) string {
	parts := [most]string{}
	for i := 0; i < len(list); i++ {
		parts[list[i].number] = list[i].part
	}
	// A list of bytes grows by its end; a string would be copied with each part.
	out := []byte{}
	for i := 0; i < len(parts); i++ {
		out = append(out, parts[i]...)
	}
	return string(out)
}
