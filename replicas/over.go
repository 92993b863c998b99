package replicas

import "parcel/api"

// Over is a replica with another one laid over it, whose clocks and cards take
// the place of those with the same Site or Id, or join them, and whose edits
// take the place of all edits (P12). The Sites and Ids of both rise; nothing
// else is asked, so there may be more of them than a sound replica has.
func Over(under api.Replica, over api.Replica) api.Replica {
	clocks := clocksOver(under.Clocks, over.Clocks)
	cards := cardsOver(under.Cards, over.Cards)
	edits := append([]api.Edit{}, over.Edits...)
	return api.Replica{Clocks: clocks, Cards: cards, Edits: edits}
}

func clocksOver(under []api.Clock, over []api.Clock) []api.Clock {
	list := []api.Clock{}
	next := 0
	for i := 0; i < len(over); i++ {
		for next < len(under) && under[next].Site < over[i].Site {
			list = append(list, under[next])
			next = next + 1
		}
		if next < len(under) && under[next].Site == over[i].Site {
			next = next + 1
		}
		list = append(list, over[i])
	}
	return append(list, under[next:]...)
}

func cardsOver(under []api.Card, over []api.Card) []api.Card {
	list := []api.Card{}
	next := 0
	for i := 0; i < len(over); i++ {
		for next < len(under) && under[next].Id < over[i].Id {
			list = append(list, under[next])
			next = next + 1
		}
		if next < len(under) && under[next].Id == over[i].Id {
			next = next + 1
		}
		list = append(list, over[i])
	}
	return append(list, under[next:]...)
}
