package sound

import "parcel/api"

func uncovered(r api.Replica) bool {
	for i := 0; i < len(r.Cards); i++ {
		known := countOf(r.Clocks, r.Cards[i].Site)
		if known < r.Cards[i].Count {
			return true
		}
	}
	return false
}

// countOf answers 0 for a site without a clock: no card's Count is so low, so
// such a site covers none.
func countOf(clocks []api.Clock, site int) int {
	for i := 0; i < len(clocks); i++ {
		if clocks[i].Site == site {
			return clocks[i].Count
		}
	}
	return 0
}

func clashing(cards []api.Card) bool {
	for i := 1; i < len(cards); i++ {
		for k := 0; k < i; k++ {
			if sameStamp(cards[i], cards[k]) {
				return true
			}
		}
	}
	return false
}

func sameStamp(a api.Card, b api.Card) bool {
	return a.Site == b.Site && a.Count == b.Count
}
