package bundles

import "parcel/api"

// outOfOrder is the place of the first frame that cannot stand where it does,
// or of the first one if there is none; 0, if all can. No frame of a bundle
// stands at 0.
func outOfOrder(list []api.Found) int {
	if len(list) == 0 || list[0].Kind != api.HeadKind {
		return len(magic)
	}
	for i := 1; i < len(list); i++ {
		if !mayFollow(list[i-1], list[i]) {
			return list[i].At
		}
	}
	return 0
}

// mayFollow asks the neighbour ahead alone: those ahead of that one are in
// order already, so it has the latest kind and the greatest Site or Id of them.
func mayFollow(last api.Found, next api.Found) bool {
	if next.Kind == api.HeadKind {
		return false
	}
	if last.Kind == api.HeadKind {
		return true
	}
	if next.Kind != last.Kind {
		// Behind the head the kinds' numbers rise as their order in a bundle does.
		return next.Kind > last.Kind
	}
	switch next.Kind {
	case api.ClockKind:
		return next.Site > last.Site
	case api.CardKind:
		return next.Id > last.Id
	}
	return true
}
