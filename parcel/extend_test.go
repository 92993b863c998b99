package parcel

import (
	"math/rand"
	"slices"
	"strings"
	"testing"

	"parcel/api"
)

func TestExtendOfTheDocument(t *testing.T) {
	b := mustExport(t, example())
	merged, e := Merge(example(), third())
	if e != api.OK {
		t.Fatalf("P11: example 8: %d", e)
	}
	want := bundleOf("\x04\x01\x25\xe1\x03\xe3", "\x01\x01\x03", "\x02\x05\x01\x03\x00ho", yo)
	if c := mustExtend(t, []string{b}, merged); c != want {
		t.Errorf("P13: example 9: %x, want %x", c, want)
	}
}

// following are the links that one replica after the other comes to, begun with the whole bundle of the first.
func following(t *testing.T, list ...api.Replica) []string {
	t.Helper()
	l := []string{mustExport(t, list[0])}
	for _, r := range list[1:] {
		l = append(l, mustExtend(t, l, r))
	}
	return l
}

// turnedTo is the example with something changed.
func turnedTo(turn func(r *api.Replica)) api.Replica {
	r := example()
	turn(&r)
	return r
}

// Only what is new of clocks and cards is in a link, in order, and all edits.
func TestExtendByWhatIsNew(t *testing.T) {
	for _, c := range []struct {
		r       api.Replica
		records []string
	}{
		{example(), []string{yo}},
		{turnedTo(func(r *api.Replica) { r.Edits = nil }), nil},
		{turnedTo(func(r *api.Replica) { r.Edits = edited("ba").Edits }), []string{"\x03\x01b", "\x03\x01a"}},
		{turnedTo(func(r *api.Replica) { r.Edits = append(r.Edits, r.Edits[0]) }), []string{yo, yo}},
		{turnedTo(func(r *api.Replica) { r.Clocks[1].Count = 300 }), []string{"\x01\x07\xac\x02", yo}},
		{turnedTo(func(r *api.Replica) { r.Clocks = ticked(1, 2, 2, 5, 7, 1, 200, 6).Clocks }), []string{"\x01\x02\x05", "\x01\xc8\x01\x06", yo}},
		{turnedTo(func(r *api.Replica) { r.Clocks = ticked(1, 3, 7, 2).Clocks }), []string{"\x01\x01\x03", "\x01\x07\x02", yo}},
		// A card of a write that the clocks had seen already is new all the same.
		{turnedTo(func(r *api.Replica) {
			r.Cards = slices.Insert(r.Cards, 1, api.Card{Id: 6, Site: 1, Count: 1, Text: "new"})
		}), []string{"\x02\x06\x01\x01\x00new", yo}},
		{turnedTo(func(r *api.Replica) {
			r.Clocks[1].Count = 2
			r.Cards[0] = api.Card{Id: 5, Site: 7, Count: 2, Gone: true}
		}), []string{"\x01\x07\x02", "\x02\x05\x07\x02\x01", yo}},
		// Of equal Counts the greater Site is the later.
		{turnedTo(func(r *api.Replica) {
			r.Clocks = ticked(1, 2, 7, 1, 8, 1).Clocks
			r.Cards[1] = api.Card{Id: 9, Site: 8, Count: 1, Text: "back"}
		}), []string{"\x01\x08\x01", "\x02\x09\x08\x01\x00back", yo}},
		{turnedTo(func(r *api.Replica) {
			r.Clocks[0].Count = 4
			r.Cards = []api.Card{{Id: 1, Site: 1, Count: 4}, {Id: 5, Site: 1, Count: 3, Text: "ho"}, r.Cards[1], {Id: 10, Site: 1, Count: 1, Gone: true}}
		}), []string{"\x01\x01\x04", "\x02\x01\x01\x04\x00", "\x02\x05\x01\x03\x00ho", "\x02\x0a\x01\x01\x01", yo}},
		// The same stamp that another card of the chain has, while that card has a later one.
		{turnedTo(func(r *api.Replica) {
			r.Clocks[0].Count = 3
			r.Cards = []api.Card{{Id: 5, Site: 1, Count: 3, Text: "ho"}, {Id: 6, Site: 1, Count: 2, Text: "hi"}, r.Cards[1]}
		}), []string{"\x01\x01\x03", "\x02\x05\x01\x03\x00ho", "\x02\x06\x01\x02\x00hi", yo}},
	} {
		b := mustExport(t, example())
		want := bundleOf(append([]string{"\x04\x01" + b[len(b)-4:]}, c.records...)...)
		s := mustExtend(t, []string{b}, c.r)
		if s != want {
			t.Errorf("P13: Extend by %+v = %x, want %x", c.r, s, want)
		}
		if r, e, at := Replay([]string{s, b}); e != api.OK || at != 0 || !same(r, c.r) {
			t.Errorf("P12: Replay of Extend by %+v = %+v, %d, %d", c.r, r, e, at)
		}
	}
}

// The Seq is the number of bundles, the Base the seal of the last in the chain, wherever that one stands in the list.
func TestExtendOfOrders(t *testing.T) {
	l := following(t, api.Replica{}, example(), newer(), newer())
	last := newer()
	last.Edits = nil
	want := bundleOf("\x04\x04" + l[3][len(l[3])-4:])
	for _, order := range orders(len(l)) {
		if s := mustExtend(t, picked(l, order...), last); s != want {
			t.Errorf("P13: Extend of the links %d = %x, want %x", order, s, want)
		}
	}
	if s := mustExtend(t, l[:1], full()); s != linkBundle(1, l[0][len(l[0])-4:], full()) {
		t.Errorf("P13: Extend of nothing by a full replica: %x", s)
	}
}

type noExtend struct {
	l []string
	r api.Replica
	e api.Errno
}

func noExtends(t *testing.T) []noExtend {
	b := mustExport(t, example())
	l := []string{b}
	list := []noExtend{}
	for _, turn := range []func(r *api.Replica){
		func(r *api.Replica) { *r = api.Replica{} },
		// A clock that is not there, or with a lesser Count.
		func(r *api.Replica) { r.Clocks, r.Cards = r.Clocks[:1], r.Cards[:1] },
		func(r *api.Replica) {
			r.Clocks[0] = api.Clock{Site: 2, Count: 9}
			r.Cards[0].Site, r.Cards[0].Count = 2, 9
		},
		func(r *api.Replica) {
			r.Clocks = ticked(1, 2, 6, 9).Clocks
			r.Cards[1].Site, r.Cards[1].Count = 6, 9
		},
		func(r *api.Replica) {
			r.Clocks = ticked(1, 1, 7, 9).Clocks
			r.Cards[0].Site, r.Cards[0].Count = 7, 9
		},
		// A card that is not there.
		func(r *api.Replica) { r.Cards = r.Cards[:1] }, func(r *api.Replica) { r.Cards = r.Cards[1:] }, func(r *api.Replica) { r.Cards = nil },
		func(r *api.Replica) { r.Cards[0].Id = 6 }, func(r *api.Replica) { r.Cards[1].Id = 8 },
		// An earlier stamp, by the Count or by the Site.
		func(r *api.Replica) { r.Cards[0].Count = 1 }, func(r *api.Replica) { r.Cards[1].Site = 1 },
		func(r *api.Replica) {
			r.Clocks[1].Count, r.Cards[0].Site, r.Cards[0].Count = 3, 7, 1
			r.Cards[1].Count = 3
		},
		// The same stamp, and not the same card.
		func(r *api.Replica) { r.Cards[0].Text = "ho" }, func(r *api.Replica) { r.Cards[0].Text = "" }, func(r *api.Replica) { r.Cards[0].Text, r.Cards[0].Gone = "", true }, func(r *api.Replica) { r.Cards[1].Gone = false }, func(r *api.Replica) { r.Cards[1].Gone, r.Cards[1].Text = false, "x" },
	} {
		list = append(list, noExtend{l, turnedTo(turn), api.ErrOld})
		// One thing that is old is enough, however much else is new.
		r := turnedTo(turn)
		r.Clocks = append(r.Clocks, api.Clock{Site: 200, Count: 1})
		r.Cards = append(r.Cards, api.Card{Id: 77, Site: 200, Count: 1})
		r.Edits = edited("abc").Edits
		list = append(list, noExtend{l, r, api.ErrOld})
	}
	// What is not sound is named ahead of what is old.
	for i, turn := range []func(r *api.Replica){
		func(r *api.Replica) { r.Edits = make([]api.Edit, 17) }, func(r *api.Replica) { r.Clocks[0].Count = 0 }, func(r *api.Replica) { r.Cards[1].Text = "x" }, func(r *api.Replica) { r.Clocks[0].Site = 8 }, func(r *api.Replica) { r.Clocks[0].Count = 1 }, func(r *api.Replica) { r.Cards[1].Site, r.Cards[1].Count = 1, 2 },
	} {
		e := []api.Errno{api.ErrMany, api.ErrNumber, api.ErrText, api.ErrRise, api.ErrStamp, api.ErrClash}[i]
		list = append(list, noExtend{l, turnedTo(turn), e}, noExtend{following(t, example(), newer()), turnedTo(turn), e})
	}
	// A chain that is as long as may be is named ahead of both.
	long := following(t, slices.Repeat([]api.Replica{example()}, api.MaxLinks)...)
	for _, r := range []api.Replica{example(), newer(), {}, ticked(1, 0), {Cards: []api.Card{{Id: 1, Site: 1, Count: 1}}}} {
		list = append(list, noExtend{long, r, api.ErrMany})
	}
	both := following(t, example(), newer())
	return append(list, noExtend{both, example(), api.ErrOld}, noExtend{picked(both, 1, 0), example(), api.ErrOld}, noExtend{both, third(), api.ErrOld})
}

// A refusal comes alone, with 0 (P1, P13).
func TestExtendRefuses(t *testing.T) {
	for _, c := range noExtends(t) {
		if s, e, at := Extend(c.l, c.r); e != c.e || at != 0 || s != "" {
			t.Errorf("P13: Extend(%x, %+v) = %x, %d, %d, want %d", c.l, c.r, s, e, at, c.e)
		}
		if _, e, at := modelExtend(c.l, c.r); e != c.e || at != 0 {
			t.Errorf("the model refuses %x and %+v with %d, %d, want %d", c.l, c.r, e, at, c.e)
		}
	}
	long := following(t, slices.Repeat([]api.Replica{example()}, api.MaxLinks)...)
	if s := mustExtend(t, long[:api.MaxLinks-1], example()); s != long[api.MaxLinks-1] {
		t.Errorf("P13: the last link that may be: %x", s)
	}
}

// nextReplica is mostly one that follows.
func nextReplica(random *rand.Rand, old api.Replica) api.Replica {
	r := copyOf(old)
	for k := random.Intn(5); k > 0; k-- {
		i := random.Intn(len(r.Clocks) + 1)
		if i == len(r.Clocks) {
			r = writtenBy(r, 1+random.Intn(9), 1+random.Intn(7), strings.Repeat("t", random.Intn(60)))
			continue
		}
		switch random.Intn(12) {
		case 0:
			r.Clocks[i].Count = max(1, r.Clocks[i].Count-1)
		case 1:
			r.Clocks = slices.Delete(r.Clocks, i, i+1)
		case 2:
			if len(r.Cards) > 0 {
				i := random.Intn(len(r.Cards))
				r.Cards[i].Text = []string{"", "a", r.Cards[i].Text}[random.Intn(3)]
				r.Cards[i].Gone = random.Intn(2) == 0
			}
		case 3:
			if len(r.Cards) > 0 {
				i := random.Intn(len(r.Cards))
				r.Cards[i].Count = max(1, r.Cards[i].Count-1)
			}
		default:
			r = writtenBy(r, r.Clocks[i].Site, 1+random.Intn(7), strings.Repeat("t", random.Intn(60)))
		}
	}
	if random.Intn(3) == 0 {
		r.Edits = edited("abcdefghijklmnopq"[:random.Intn(17)+random.Intn(20)/19]).Edits
	}
	return r
}

// writtenBy is the replica with one write more of a site, that is later than all others.
func writtenBy(r api.Replica, site, id int, text string) api.Replica {
	count := 1
	counts, cards := map[int]int{}, map[int]api.Card{}
	for _, c := range r.Clocks {
		counts[c.Site] = c.Count
		count = max(count, c.Count+1)
	}
	for _, c := range r.Cards {
		cards[c.Id] = c
	}
	counts[site] = count
	cards[id] = api.Card{Id: id, Site: site, Count: count, Text: text, Gone: text == ""}
	return modelReplica(counts, cards, slices.Clone(r.Edits))
}

func TestExtendOfManyChains(t *testing.T) {
	random := rand.New(rand.NewSource(22))
	answers := make([]int, api.ErrOld+1)
	for k := 0; k < 1500; k++ {
		now := api.Replica{}
		l := following(t, now)
		for range random.Intn(20) {
			r := nextReplica(random, now)
			given := l
			if random.Intn(20) == 0 {
				given = wildChain(random)
			}
			want, fault, place := modelExtend(given, r)
			s, e, at := Extend(given, r)
			if s != want || e != fault || at != place {
				t.Fatalf("P13: Extend(%x, %+v) = %x, %d, %d, want %x, %d, %d", given, r, s, e, at, want, fault, place)
			}
			answers[e]++
			if e == api.OK && len(given) == len(l) && given[0] == l[0] {
				l, now = append(l, s), r
				random.Shuffle(len(l), func(i, j int) { l[i], l[j] = l[j], l[i] })
			}
		}
	}
	for _, e := range []api.Errno{api.OK, api.ErrOld, api.ErrMany, api.ErrText, api.ErrStamp, api.ErrTwice, api.ErrMissing, api.ErrBase} {
		if answers[e] < 15 {
			t.Errorf("the chains are too much alike: %d", answers)
		}
	}
}

// Replicas and bytes of any kind are answered (P1).
func TestExtendOfWildArguments(t *testing.T) {
	random := rand.New(rand.NewSource(23))
	lists := [][]string{nil, {""}, following(t, example(), newer()), following(t, api.Replica{}), following(t, full())}
	for k := 0; k < 40; k++ {
		lists = append(lists, wildChain(random), []string{someBytes(random, random.Intn(60)), "PRC1" + someBytes(random, random.Intn(60))})
	}
	list := []api.Replica{{}, example(), newer(), full(), {Clocks: make([]api.Clock, 100000), Cards: make([]api.Card, 100000), Edits: make([]api.Edit, 100000)}}
	for k := 0; k < 40; k++ {
		list = append(list, wildReplica(random), someReplica(random))
	}
	for _, l := range lists {
		for _, r := range list {
			want, fault, place := modelExtend(l, r)
			if s, e, at := Extend(l, r); s != want || e != fault || at != place {
				t.Fatalf("P1, P13: Extend(%x, %+v) = %x, %d, %d, want %x, %d, %d", l, r, s, e, at, want, fault, place)
			}
		}
		want, fault, place := modelReplay(l)
		if r, e, at := Replay(l); e != fault || at != place || !same(r, want) {
			t.Fatalf("P1, P12: Replay(%x) = %+v, %d, %d, want %+v, %d, %d", l, r, e, at, want, fault, place)
		}
	}
}
