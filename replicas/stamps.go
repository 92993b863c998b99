// Package replicas: what one replica has and another has not, of DOC.md.
package replicas

import "parcel/api"

// SameStamp tells whether two cards were last written by the same write.
func SameStamp(a api.Card, b api.Card) bool {
	return a.Site == b.Site && a.Count == b.Count
}

// later tells whether a's stamp is later than b's.
func later(a api.Card, b api.Card) bool {
	if a.Count != b.Count {
		return a.Count > b.Count
	}
	return a.Site > b.Site
}

func sameCard(a api.Card, b api.Card) bool {
	return a.Id == b.Id && SameStamp(a, b) && a.Gone == b.Gone && a.Text == b.Text
}

// Clashing tells whether one write has left two cards that are not the same,
// one in each of two lists.
func Clashing(a []api.Card, b []api.Card) bool {
	for i := 0; i < len(a); i++ {
		for k := 0; k < len(b); k++ {
			if SameStamp(a[i], b[k]) && !sameCard(a[i], b[k]) {
				return true
			}
		}
	}
	return false
}
