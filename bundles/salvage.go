package bundles

import (
	"parcel/api"
	"parcel/records"
)

// Salvage is all that is found in some bytes, whatever they are (P8).
func Salvage(b string) []api.Found {
	list := []api.Found{}
	at := 0
	for at < len(b) {
		found, length := records.FrameAt(b, at)
		if length == 0 {
			at = at + 1
			continue
		}
		list = append(list, found)
		at = at + length
	}
	return list
}
