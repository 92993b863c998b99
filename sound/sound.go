// Package sound: which replicas are sound, of DOC.md.
package sound

import "parcel/api"

// Check is the first fault of a replica in the document's order, or OK (P3).
// Each question is asked only when the ones ahead of it are answered well, and
// may count on that.
func Check(r api.Replica) api.Errno {
	if TooMany(r) {
		return api.ErrMany
	}
	if wrongNumber(r) {
		return api.ErrNumber
	}
	if wrongText(r) {
		return api.ErrText
	}
	if notRising(r) {
		return api.ErrRise
	}
	if uncovered(r) {
		return api.ErrStamp
	}
	if clashing(r.Cards) {
		return api.ErrClash
	}
	return api.OK
}

// TooMany tells whether a replica has more of something than it may.
func TooMany(r api.Replica) bool {
	return len(r.Clocks) > api.MaxSites || len(r.Cards) > api.MaxCards || len(r.Edits) > api.MaxEdits
}

func notRising(r api.Replica) bool {
	for i := 1; i < len(r.Clocks); i++ {
		if r.Clocks[i].Site <= r.Clocks[i-1].Site {
			return true
		}
	}
	for i := 1; i < len(r.Cards); i++ {
		if r.Cards[i].Id <= r.Cards[i-1].Id {
			return true
		}
	}
	return false
}
