package sound

import "parcel/api"

func wrongNumber(r api.Replica) bool {
	for i := 0; i < len(r.Clocks); i++ {
		if wrongSiteOrCount(r.Clocks[i].Site, r.Clocks[i].Count) {
			return true
		}
	}
	for i := 0; i < len(r.Cards); i++ {
		if wrongSiteOrCount(r.Cards[i].Site, r.Cards[i].Count) {
			return true
		}
		if outOfRange(r.Cards[i].Id, api.MaxNumber) {
			return true
		}
	}
	for i := 0; i < len(r.Edits); i++ {
		if outOfRange(r.Edits[i].Id, api.MaxNumber) {
			return true
		}
	}
	return false
}

func wrongSiteOrCount(site int, count int) bool {
	if outOfRange(site, api.MaxSite) {
		return true
	}
	return outOfRange(count, api.MaxNumber)
}

func outOfRange(n int, most int) bool {
	return n < 1 || n > most
}

func wrongText(r api.Replica) bool {
	for i := 0; i < len(r.Cards); i++ {
		if len(r.Cards[i].Text) > api.MaxField {
			return true
		}
		if r.Cards[i].Gone && r.Cards[i].Text != "" {
			return true
		}
	}
	for i := 0; i < len(r.Edits); i++ {
		if len(r.Edits[i].Text) > api.MaxField {
			return true
		}
	}
	return false
}
