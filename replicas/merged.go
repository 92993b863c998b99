package replicas

import "parcel/api"

// Merged is what two sound replicas know together (P11). It is asked of
// replicas that do not clash, so of two cards with the same Id one is later,
// or they are the same.
func Merged(a api.Replica, b api.Replica) api.Replica {
	clocks := NewerClocks(a.Clocks, b.Clocks)
	cards := NewerCards(a.Cards, b.Cards)
	edits := mergedEdits(a.Edits, b.Edits)
	return Over(a, api.Replica{Clocks: clocks, Cards: cards, Edits: edits})
}

// mergedEdits leaves a's edits as they are, even if some are equal; of b's it
// takes none that is there already, be it from a or from b.
func mergedEdits(a []api.Edit, b []api.Edit) []api.Edit {
	list := append([]api.Edit{}, a...)
	for i := 0; i < len(b); i++ {
		if !hasEdit(list, b[i]) {
			list = append(list, b[i])
		}
	}
	return list
}

func hasEdit(list []api.Edit, e api.Edit) bool {
	for i := 0; i < len(list); i++ {
		if list[i].Id == e.Id && list[i].Text == e.Text {
			return true
		}
	}
	return false
}
