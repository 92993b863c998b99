package sound

import (
	"strings"
	"testing"

	"parcel/api"
)

func example() api.Replica {
	return api.Replica{
		Clocks: []api.Clock{{Site: 1, Count: 2}, {Site: 7, Count: 1}},
		Cards:  []api.Card{{Id: 5, Site: 1, Count: 2, Text: "hi"}, {Id: 9, Site: 7, Count: 1, Gone: true}},
		Edits:  []api.Edit{{Id: 5, Text: "yo"}},
	}
}

// full has as much of everything as may be, at the greatest numbers.
func full() api.Replica {
	r := api.Replica{}
	for k := 0; k < api.MaxSites; k++ {
		r.Clocks = append(r.Clocks, api.Clock{Site: api.MaxSite - api.MaxSites + 1 + k, Count: api.MaxNumber})
	}
	for k := 0; k < api.MaxCards; k++ {
		r.Cards = append(r.Cards, api.Card{Id: api.MaxNumber - api.MaxCards + 1 + k, Site: r.Clocks[k%api.MaxSites].Site, Count: api.MaxNumber - k/api.MaxSites, Text: strings.Repeat("\xff", api.MaxField)})
	}
	for k := 0; k < api.MaxEdits; k++ {
		r.Edits = append(r.Edits, api.Edit{Id: api.MaxNumber, Text: strings.Repeat("\x00", api.MaxField)})
	}
	return r
}

func TestSoundReplicas(t *testing.T) {
	least := api.Replica{Clocks: []api.Clock{{Site: 1, Count: 1}}, Cards: []api.Card{{Id: 1, Site: 1, Count: 1}}, Edits: []api.Edit{{Id: 1}}}
	sparse := example()
	sparse.Cards[1] = api.Card{Id: 6, Site: 1, Count: 1}
	foreign := example()
	foreign.Edits = []api.Edit{{Id: 77, Text: "a"}, {Id: 5, Text: "a"}, {Id: 77, Text: "a"}}
	quiet := example()
	quiet.Clocks = append(quiet.Clocks, api.Clock{Site: 200, Count: 9})
	crossed := example()
	crossed.Cards[1] = api.Card{Id: 9, Site: 7, Count: 2, Gone: true}
	crossed.Clocks[1].Count = 2
	for name, r := range map[string]api.Replica{"example": example(), "nothing": {}, "full": full(), "least": least, "two cards of a site": sparse, "edits in any order, of any card, twice": foreign, "a clock without a card": quiet, "one Count at two sites": crossed} {
		if e := Check(r); e != api.OK {
			t.Errorf("P3: Check of %s: %d", name, e)
		}
	}
}

type fault struct {
	name string
	do   func(r *api.Replica)
	e    api.Errno
}

// faults are each laid upon the full replica, and touch different places of it,
// so that any two may be laid upon it together. They go by the document's order.
func faults() []fault {
	return []fault{
		{"a clock too many", func(r *api.Replica) { r.Clocks = append(r.Clocks, api.Clock{Site: 1, Count: 1}) }, api.ErrMany},
		{"a card too many", func(r *api.Replica) { r.Cards = append(r.Cards, api.Card{Id: 1, Site: 200, Count: 1}) }, api.ErrMany},
		{"an edit too many", func(r *api.Replica) { r.Edits = append(r.Edits, api.Edit{Id: 1}) }, api.ErrMany},
		{"a clock's Site 0", func(r *api.Replica) { r.Clocks[0].Site = 0 }, api.ErrNumber},
		{"a clock's Site below 0", func(r *api.Replica) { r.Clocks[0].Site = -1 << 63 }, api.ErrNumber},
		{"a clock's Site too great", func(r *api.Replica) { r.Clocks[7].Site = api.MaxSite + 1 }, api.ErrNumber},
		{"a clock's Count 0", func(r *api.Replica) { r.Clocks[1].Count = 0 }, api.ErrNumber},
		{"a clock's Count too great", func(r *api.Replica) { r.Clocks[2].Count = api.MaxNumber + 1 }, api.ErrNumber},
		{"a card's Site 0", func(r *api.Replica) { r.Cards[3].Site = 0 }, api.ErrNumber},
		{"a card's Site too great", func(r *api.Replica) { r.Cards[39].Site = api.MaxSite + 1 }, api.ErrNumber},
		{"a card's Count 0", func(r *api.Replica) { r.Cards[4].Count = 0 }, api.ErrNumber},
		{"a card's Count too great", func(r *api.Replica) { r.Cards[5].Count = 1<<63 - 1 }, api.ErrNumber},
		{"a card's Id 0", func(r *api.Replica) { r.Cards[0].Id = 0 }, api.ErrNumber},
		{"a card's Id too great", func(r *api.Replica) { r.Cards[39].Id = api.MaxNumber + 1 }, api.ErrNumber},
		{"an edit's Id 0", func(r *api.Replica) { r.Edits[0].Id = 0 }, api.ErrNumber},
		{"an edit's Id too great", func(r *api.Replica) { r.Edits[15].Id = api.MaxNumber + 1 }, api.ErrNumber},
		{"a card's text too long", func(r *api.Replica) { r.Cards[39].Text += "x" }, api.ErrText},
		{"the first card's text too long", func(r *api.Replica) { r.Cards[0].Text += "x" }, api.ErrText},
		{"the first edit's text too long", func(r *api.Replica) { r.Edits[0].Text += "x" }, api.ErrText},
		{"an edit's text too long", func(r *api.Replica) { r.Edits[15].Text += "x" }, api.ErrText},
		{"a text of a card that is gone", func(r *api.Replica) { r.Cards[38].Gone = true }, api.ErrText},
		{"one clock's Site twice", func(r *api.Replica) { r.Clocks[4].Site = r.Clocks[3].Site }, api.ErrRise},
		{"the first clock's Site twice", func(r *api.Replica) { r.Clocks[1].Site = r.Clocks[0].Site }, api.ErrRise},
		{"the first card's Id twice", func(r *api.Replica) { r.Cards[1].Id = r.Cards[0].Id }, api.ErrRise},
		{"clocks that fall", func(r *api.Replica) { r.Clocks[6].Site = 1 }, api.ErrRise},
		{"one card's Id twice", func(r *api.Replica) { r.Cards[20].Id = r.Cards[19].Id }, api.ErrRise},
		{"cards that fall", func(r *api.Replica) { r.Cards[37].Id = 1 }, api.ErrRise},
		{"a card's Site without a clock", func(r *api.Replica) { r.Cards[10].Site = 1 }, api.ErrStamp},
		{"the first card's Site without a clock", func(r *api.Replica) { r.Cards[0].Site = 1 }, api.ErrStamp},
		{"the last card's Site without a clock", func(r *api.Replica) { r.Cards[39].Site = 1 }, api.ErrStamp},
		{"a clock of another Site than the cards'", func(r *api.Replica) { r.Clocks[0].Site = 2 }, api.ErrStamp},
		{"a clock's Count too little", func(r *api.Replica) { r.Clocks[5].Count = api.MaxNumber - 1 }, api.ErrStamp},
		{"neighbours of one stamp", func(r *api.Replica) {
			r.Cards[26].Site, r.Cards[26].Count = r.Cards[25].Site, r.Cards[25].Count
		}, api.ErrClash},
		{"first and last of one stamp", func(r *api.Replica) {
			r.Cards[39].Site, r.Cards[39].Count = r.Cards[0].Site, r.Cards[0].Count
		}, api.ErrClash},
	}
}

func TestEachFault(t *testing.T) {
	for _, f := range faults() {
		r := full()
		f.do(&r)
		if e := Check(r); e != f.e {
			t.Errorf("P3: %s: %d, want %d", f.name, e, f.e)
		}
	}
}

// Of two faults the one named first is answered, wherever they are.
func TestTwoFaults(t *testing.T) {
	list := faults()
	for i, f := range list {
		for _, g := range list[i+1:] {
			if f.e == g.e {
				continue
			}
			r := full()
			g.do(&r)
			f.do(&r)
			if e := Check(r); e != f.e {
				t.Errorf("P1, P3: %s, with %s: %d, want %d", f.name, g.name, e, f.e)
			}
		}
	}
}

func TestExamplesOfTheDocument(t *testing.T) {
	for _, f := range []fault{
		{"as it is", func(r *api.Replica) {}, api.OK},
		{"second clock's Count 0", func(r *api.Replica) { r.Clocks[1].Count = 0 }, api.ErrNumber},
		{"without the second clock", func(r *api.Replica) { r.Clocks = r.Clocks[:1] }, api.ErrStamp},
		{"card 9's text x", func(r *api.Replica) { r.Cards[1].Text = "x" }, api.ErrText},
		{"card 9 with card 5's stamp", func(r *api.Replica) { r.Cards[1].Site, r.Cards[1].Count = 1, 2 }, api.ErrClash},
		{"cards the other way round", func(r *api.Replica) { r.Cards[0], r.Cards[1] = r.Cards[1], r.Cards[0] }, api.ErrRise},
	} {
		r := example()
		f.do(&r)
		if e := Check(r); e != f.e {
			t.Errorf("P3: example 1, %s: %d, want %d", f.name, e, f.e)
		}
	}
}

// One thing too many is refused even where all else is empty; as many as may be are not.
func TestManyAlone(t *testing.T) {
	for _, c := range []struct{ clocks, cards, edits int }{{9, 0, 0}, {0, 41, 0}, {0, 0, 17}, {100000, 100000, 100000}} {
		r := api.Replica{Clocks: make([]api.Clock, c.clocks), Cards: make([]api.Card, c.cards), Edits: make([]api.Edit, c.edits)}
		if e := Check(r); e != api.ErrMany {
			t.Errorf("P3: %+v: %d", c, e)
		}
	}
	for _, c := range []struct{ clocks, cards, edits int }{{8, 0, 0}, {0, 40, 0}, {0, 0, 16}, {8, 40, 16}} {
		r := api.Replica{Clocks: make([]api.Clock, c.clocks), Cards: make([]api.Card, c.cards), Edits: make([]api.Edit, c.edits)}
		if e := Check(r); e != api.ErrNumber {
			t.Errorf("P3: %+v: %d", c, e)
		}
	}
}
