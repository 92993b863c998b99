package sound

import (
	"parcel/api"
	"parcel/replicas"
)

func uncovered(r api.Replica) bool {
	for i := 0; i < len(r.Cards); i++ {
		known := replicas.CountOf(r.Clocks, r.Cards[i].Site)
		if known < r.Cards[i].Count {
			return true
		}
	}
	return false
}

func clashing(cards []api.Card) bool {
	for i := 1; i < len(cards); i++ {
		for k := 0; k < i; k++ {
			if replicas.SameStamp(cards[i], cards[k]) {
				return true
			}
		}
	}
	return false
}
