package parcel

import (
	"math/rand"
	"slices"
	"strings"
	"testing"

	"parcel/api"
)

// third is what example 8 merges with the example, newer what comes of it.
func third() api.Replica {
	return api.Replica{Clocks: []api.Clock{{Site: 1, Count: 3}}, Cards: []api.Card{{Id: 5, Site: 1, Count: 3, Text: "ho"}}}
}

func newer() api.Replica {
	r := example()
	r.Clocks[0].Count = 3
	r.Cards[0] = api.Card{Id: 5, Site: 1, Count: 3, Text: "ho"}
	return r
}

// written has one card, and the clock that covers it.
func written(c api.Card) api.Replica {
	return api.Replica{Clocks: []api.Clock{{Site: c.Site, Count: c.Count}}, Cards: []api.Card{c}}
}

// ticked has clocks alone, by their Sites and Counts.
func ticked(l ...int) api.Replica {
	r := api.Replica{}
	for i := 0; i < len(l); i += 2 {
		r.Clocks = append(r.Clocks, api.Clock{Site: l[i], Count: l[i+1]})
	}
	return r
}

// edited has edits alone, of one letter each.
func edited(texts string) api.Replica {
	r := api.Replica{}
	for _, text := range strings.Split(texts, "") {
		r.Edits = append(r.Edits, api.Edit{Id: 1, Text: text})
	}
	return r
}

// counted has the cards with the Ids from first to last, each by a write of its own of one site.
func counted(site, first, last int) api.Replica {
	r := ticked(site, last)
	for id := first; id <= last; id++ {
		r.Cards = append(r.Cards, api.Card{Id: id, Site: site, Count: id})
	}
	return r
}

type merging struct {
	a, b, want api.Replica
	e          api.Errno
}

func mergings() []merging {
	a := api.Card{Id: 1, Site: 3, Count: 4, Text: "a"}
	list := []merging{
		{example(), third(), newer(), api.OK}, {third(), example(), newer(), api.OK},
		{api.Replica{}, api.Replica{}, api.Replica{}, api.OK}, {example(), api.Replica{}, example(), api.OK}, {api.Replica{}, example(), example(), api.OK}, {example(), example(), example(), api.OK},
		{full(), full(), full(), api.OK}, {full(), api.Replica{}, full(), api.OK}, {api.Replica{}, full(), full(), api.OK},
		// Clocks: the greater Count, be it a's or b's, and the Sites rise.
		{ticked(1, 5), ticked(1, 6), ticked(1, 6), api.OK}, {ticked(1, 6), ticked(1, 5), ticked(1, 6), api.OK}, {ticked(1, api.MaxNumber), ticked(1, api.MaxNumber-1), ticked(1, api.MaxNumber), api.OK},
		{ticked(2, 1, 4, 1), ticked(1, 9, 3, 9, 5, 9), ticked(1, 9, 2, 1, 3, 9, 4, 1, 5, 9), api.OK}, {ticked(1, 9, 3, 9, 5, 9), ticked(2, 1, 4, 1), ticked(1, 9, 2, 1, 3, 9, 4, 1, 5, 9), api.OK},
		{ticked(1, 1, 2, 9, 200, 3), ticked(1, 2, 2, 8, 200, 3), ticked(1, 2, 2, 9, 200, 3), api.OK},
		// Cards: the later stamp, by the Count and then by the Site, whichever of a and b has it.
		{written(a), written(api.Card{Id: 1, Site: 2, Count: 5, Text: "b"}), api.Replica{Clocks: ticked(2, 5, 3, 4).Clocks, Cards: []api.Card{{Id: 1, Site: 2, Count: 5, Text: "b"}}}, api.OK},
		{written(api.Card{Id: 1, Site: 2, Count: 4, Text: "b"}), written(a), api.Replica{Clocks: ticked(2, 4, 3, 4).Clocks, Cards: []api.Card{a}}, api.OK},
		{written(a), written(api.Card{Id: 1, Site: 2, Count: 4, Text: "b"}), api.Replica{Clocks: ticked(2, 4, 3, 4).Clocks, Cards: []api.Card{a}}, api.OK},
		{written(a), written(api.Card{Id: 1, Site: 4, Count: 3, Text: "b"}), api.Replica{Clocks: ticked(3, 4, 4, 3).Clocks, Cards: []api.Card{a}}, api.OK},
		{written(a), written(api.Card{Id: 1, Site: 3, Count: 5, Gone: true}), written(api.Card{Id: 1, Site: 3, Count: 5, Gone: true}), api.OK},
		{written(api.Card{Id: 1, Site: 3, Count: 3, Gone: true}), written(a), written(a), api.OK},
		{written(a), written(a), written(a), api.OK},
		{counted(1, 2, 3), counted(2, 1, 4), api.Replica{Clocks: ticked(1, 3, 2, 4).Clocks, Cards: counted(2, 1, 4).Cards}, api.OK},
		// A card that one has not is taken, though the other has seen as many writes of its site.
		{written(a), ticked(3, 9), api.Replica{Clocks: ticked(3, 9).Clocks, Cards: []api.Card{a}}, api.OK}, {ticked(3, 9), written(a), api.Replica{Clocks: ticked(3, 9).Clocks, Cards: []api.Card{a}}, api.OK},
		// Edits: all of a's, and of b's each that is not there, once.
		{edited("aba"), edited("bccad"), edited("abacd"), api.OK}, {api.Replica{}, edited("cc"), edited("c"), api.OK}, {edited("cc"), api.Replica{}, edited("cc"), api.OK}, {edited("ba"), edited("ab"), edited("ba"), api.OK},
		{api.Replica{Edits: []api.Edit{{Id: 1, Text: "a"}}}, api.Replica{Edits: []api.Edit{{Id: 2, Text: "a"}}}, api.Replica{Edits: []api.Edit{{Id: 1, Text: "a"}, {Id: 2, Text: "a"}}}, api.OK},
		// As much as may be of each, and one more.
		{ticked(1, 1, 3, 1, 5, 1, 7, 1), ticked(2, 1, 4, 1, 6, 1, 8, 1), ticked(1, 1, 2, 1, 3, 1, 4, 1, 5, 1, 6, 1, 7, 1, 8, 1), api.OK},
		{ticked(1, 1, 3, 1, 5, 1, 7, 1), ticked(2, 1, 4, 1, 6, 1, 8, 1, 9, 1), api.Replica{}, api.ErrMany},
		{counted(1, 1, 20), counted(2, 21, 40), api.Replica{Clocks: ticked(1, 20, 2, 40).Clocks, Cards: append(counted(1, 1, 20).Cards, counted(2, 21, 40).Cards...)}, api.OK},
		{counted(1, 1, 20), counted(2, 21, 41), api.Replica{}, api.ErrMany}, {counted(1, 1, 40), written(api.Card{Id: 41, Site: 2, Count: 1}), api.Replica{}, api.ErrMany},
		{edited("abcdefgh"), edited("ijklmnop"), edited("abcdefghijklmnop"), api.OK}, {edited("abcdefgh"), edited("ijklmnopq"), api.Replica{}, api.ErrMany}, {edited("abcdefghijklmnop"), edited("apapapapap"), edited("abcdefghijklmnop"), api.OK}, {edited("abcdefghijklmnop"), edited("aq"), api.Replica{}, api.ErrMany}, {edited("aaaaaaaaaaaaaaaa"), edited("aaaaaaaaaaaaaaaa"), edited("aaaaaaaaaaaaaaaa"), api.OK}, {edited("aaaaaaaaaaaaaaaa"), edited("b"), api.Replica{}, api.ErrMany},
		// One stamp, and another Id, text or Gone.
		{written(a), written(api.Card{Id: 2, Site: 3, Count: 4, Text: "a"}), api.Replica{}, api.ErrClash}, {written(a), written(api.Card{Id: 1, Site: 3, Count: 4, Text: "b"}), api.Replica{}, api.ErrClash}, {written(a), written(api.Card{Id: 1, Site: 3, Count: 4}), api.Replica{}, api.ErrClash}, {written(api.Card{Id: 1, Site: 3, Count: 4}), written(api.Card{Id: 1, Site: 3, Count: 4, Gone: true}), api.Replica{}, api.ErrClash},
		// They clash even where neither card would be taken.
		{api.Replica{Clocks: ticked(3, 9).Clocks, Cards: []api.Card{a, {Id: 2, Site: 3, Count: 9}}}, api.Replica{Clocks: ticked(3, 8).Clocks, Cards: []api.Card{{Id: 1, Site: 3, Count: 8}, {Id: 2, Site: 3, Count: 4, Text: "a"}}}, api.Replica{}, api.ErrClash},
		{counted(1, 1, 40), counted(1, 1, 40), counted(1, 1, 40), api.OK},
	}
	clash := counted(1, 1, 40)
	clash.Cards[39].Text = "x"
	list = append(list, merging{counted(1, 1, 40), clash, api.Replica{}, api.ErrClash})
	// A clash is named ahead of too many.
	last := written(api.Card{Id: 41, Site: 1, Count: 40})
	last.Edits = edited("b").Edits
	list = append(list, merging{counted(1, 1, 40), last, api.Replica{}, api.ErrClash})
	return append(list, unsoundMergings()...)
}

// unsoundMergings have a fault of Check in a, in b, or another one in each.
func unsoundMergings() []merging {
	wrong := []api.Replica{
		{Clocks: make([]api.Clock, api.MaxSites+1)}, ticked(1, 0), {Edits: []api.Edit{{Id: 1, Text: strings.Repeat("x", api.MaxField+1)}}}, ticked(2, 1, 1, 1), {Cards: []api.Card{{Id: 5, Site: 1, Count: 2}}},
		{Clocks: ticked(1, 2).Clocks, Cards: []api.Card{{Id: 5, Site: 1, Count: 2}, {Id: 6, Site: 1, Count: 2}}},
	}
	list := []merging{}
	for i, r := range wrong {
		e := []api.Errno{api.ErrMany, api.ErrNumber, api.ErrText, api.ErrRise, api.ErrStamp, api.ErrClash}[i]
		for _, sound := range []api.Replica{{}, example(), full()} {
			list = append(list, merging{r, sound, api.Replica{}, e}, merging{sound, r, api.Replica{}, e})
		}
		for _, other := range wrong {
			list = append(list, merging{r, other, api.Replica{}, e})
		}
	}
	// A clash is named behind the faults of both.
	mixed := example()
	mixed.Cards[0].Text, mixed.Edits[0].Id = "ho", 0
	return append(list, merging{example(), mixed, api.Replica{}, api.ErrNumber}, merging{mixed, example(), api.Replica{}, api.ErrNumber})
}

// A refusal comes without a replica (P1, P11).
func TestMergeOfReplicas(t *testing.T) {
	for _, c := range mergings() {
		if r, e := Merge(c.a, c.b); e != c.e || !same(r, c.want) {
			t.Errorf("P11: Merge(%+v, %+v) = %+v, %d, want %+v, %d", c.a, c.b, r, e, c.want, c.e)
		}
		if r, e := modelMerge(c.a, c.b); e != c.e || !same(r, c.want) {
			t.Errorf("the model merges %+v and %+v to %+v, %d, want %+v, %d", c.a, c.b, r, e, c.want, c.e)
		}
	}
}

// closeReplica is sound, and of few sites, cards, Counts and texts, so that two are much alike.
func closeReplica(random *rand.Rand) api.Replica {
	r := api.Replica{}
	most := 2 + random.Intn(10)
	for site := 1; site <= most && len(r.Clocks) < api.MaxSites; site++ {
		if random.Intn(3) > 0 {
			r.Clocks = append(r.Clocks, api.Clock{Site: site, Count: 1 + random.Intn(30)})
		}
	}
	most = random.Intn(60) >> random.Intn(5)
	for id := 1; id <= most && len(r.Cards) < api.MaxCards && len(r.Clocks) > 0; id++ {
		site := random.Intn(len(r.Clocks))
		c := api.Card{Id: id, Site: r.Clocks[site].Site, Count: 1 + random.Intn(r.Clocks[site].Count)}
		// Mostly what a write has made hangs on its stamp, as it should.
		switch (7*c.Site + c.Count + random.Intn(60)/59) % 3 {
		case 0:
			c.Gone = true
		case 1:
			c.Text = "x"
		}
		if random.Intn(20) > 0 {
			c.Id = 1 + (c.Count+11*c.Site)%most
		}
		if !slices.ContainsFunc(r.Cards, func(d api.Card) bool { return d.Id == c.Id || modelSameStamp(c, d) }) {
			r.Cards = append(r.Cards, c)
		}
	}
	slices.SortFunc(r.Cards, func(a, b api.Card) int { return a.Id - b.Id })
	for k := random.Intn(api.MaxEdits+1) >> random.Intn(3); k > 0; k-- {
		r.Edits = append(r.Edits, api.Edit{Id: 1 + random.Intn(3), Text: "abcdefgh"[:random.Intn(8)]})
	}
	return r
}

func TestMergeOfManyReplicas(t *testing.T) {
	random := rand.New(rand.NewSource(18))
	answers := make([]int, api.ErrOld+1)
	for k := 0; k < 20000; k++ {
		a, b := closeReplica(random), closeReplica(random)
		switch random.Intn(20) {
		case 0:
			a = wildReplica(random)
		case 1:
			b = wildReplica(random)
		}
		want, fault := modelMerge(a, b)
		r, e := Merge(a, b)
		if e != fault || !same(r, want) {
			t.Fatalf("P11: Merge(%+v, %+v) = %+v, %d, want %+v, %d", a, b, r, e, want, fault)
		}
		if wrong := Check(r); wrong != api.OK {
			t.Fatalf("P11: Merge(%+v, %+v) = %+v, which is not sound: %d", a, b, r, wrong)
		}
		answers[e]++
	}
	if answers[api.OK] < 1000 || answers[api.ErrClash] < 1000 || answers[api.ErrMany] < 300 {
		t.Errorf("the replicas are too much alike: %d", answers)
	}
}

// Replicas of any kind are answered (P1).
func TestMergeOfWildReplicas(t *testing.T) {
	random := rand.New(rand.NewSource(19))
	list := []api.Replica{{}, example(), full(), {Clocks: make([]api.Clock, 100000), Cards: make([]api.Card, 100000), Edits: make([]api.Edit, 100000)}}
	for k := 0; k < 60; k++ {
		list = append(list, wildReplica(random), someReplica(random))
	}
	for _, a := range list {
		for _, b := range list {
			want, fault := modelMerge(a, b)
			if r, e := Merge(a, b); e != fault || !same(r, want) {
				t.Fatalf("P1, P11: Merge(%+v, %+v) = %+v, %d, want %+v, %d", a, b, r, e, want, fault)
			}
		}
	}
}
