package replicas

import (
	"slices"
	"testing"

	"parcel/api"
)

func clocks(l ...int) []api.Clock {
	list := []api.Clock{}
	for i := 0; i < len(l); i += 2 {
		list = append(list, api.Clock{Site: l[i], Count: l[i+1]})
	}
	return list
}

func cards(l ...int) []api.Card {
	list := []api.Card{}
	for i := 0; i < len(l); i += 3 {
		list = append(list, api.Card{Id: l[i], Site: l[i+1], Count: l[i+2]})
	}
	return list
}

func edits(texts string) []api.Edit {
	list := []api.Edit{}
	for _, c := range texts {
		list = append(list, api.Edit{Id: 1, Text: string(c)})
	}
	return list
}

func TestLater(t *testing.T) {
	rising := []api.Card{{Site: 1, Count: 1}, {Site: 2, Count: 1}, {Site: 200, Count: 1}, {Site: 1, Count: 2}, {Site: 3, Count: 2}, {Site: 1, Count: api.MaxNumber - 1}, {Site: 1, Count: api.MaxNumber}, {Site: 2, Count: api.MaxNumber}}
	for i, a := range rising {
		for k, b := range rising {
			// What a card is beside its stamp makes it neither later nor another stamp.
			a.Id, b.Id, a.Text = 9-i, 9-k, "x"
			if later(a, b) != (i > k) || SameStamp(a, b) != (i == k) {
				t.Errorf("stamps %d and %d: later %v, the same %v", i, k, later(a, b), SameStamp(a, b))
			}
		}
	}
}

func TestClashing(t *testing.T) {
	card := api.Card{Id: 5, Site: 1, Count: 2, Text: "hi"}
	for _, c := range []struct {
		other api.Card
		clash bool
	}{
		{card, false},
		{api.Card{Id: 6, Site: 1, Count: 2, Text: "hi"}, true}, {api.Card{Id: 5, Site: 1, Count: 2, Text: "ho"}, true}, {api.Card{Id: 5, Site: 1, Count: 2}, true}, {api.Card{Id: 5, Site: 1, Count: 2, Gone: true}, true}, {api.Card{Id: 5, Site: 1, Count: 2, Gone: true, Text: "hi"}, true},
		{api.Card{Id: 5, Site: 1, Count: 3, Text: "ho"}, false}, {api.Card{Id: 5, Site: 2, Count: 2, Text: "ho"}, false}, {api.Card{Id: 5, Site: 2, Count: 1, Text: "ho"}, false},
	} {
		a := append(cards(1, 9, 9, 2, 9, 8), card)
		b := append([]api.Card{c.other}, cards(7, 9, 7, 8, 9, 6)...)
		if Clashing(a, b) != c.clash || Clashing(b, a) != c.clash {
			t.Errorf("P11: %+v and %+v: clash is not %v", card, c.other, c.clash)
		}
		if Clashing(a, nil) || Clashing(nil, b) {
			t.Errorf("P11: %+v or %+v clashes with nothing", a, b)
		}
	}
}

func TestOver(t *testing.T) {
	for _, c := range []struct{ under, over, want []int }{
		{nil, nil, nil}, {[]int{1, 5}, nil, []int{1, 5}}, {nil, []int{1, 5}, []int{1, 5}},
		{[]int{1, 5}, []int{1, 4}, []int{1, 4}}, {[]int{1, 5}, []int{1, 6}, []int{1, 6}}, {[]int{1, 5}, []int{1, 0}, []int{1, 0}},
		{[]int{2, 5}, []int{1, 6}, []int{1, 6, 2, 5}}, {[]int{1, 5}, []int{2, 6}, []int{1, 5, 2, 6}},
		{[]int{1, 1, 3, 1, 5, 1}, []int{0, 2, 2, 2, 3, 2, 4, 2, 6, 2}, []int{0, 2, 1, 1, 2, 2, 3, 2, 4, 2, 5, 1, 6, 2}},
		{[]int{1, 1, 2, 1, 3, 1}, []int{3, 2}, []int{1, 1, 2, 1, 3, 2}}, {[]int{1, 1, 2, 1, 3, 1}, []int{1, 2}, []int{1, 2, 2, 1, 3, 1}},
		{[]int{7, 1}, []int{1, 2, 2, 2, 3, 2}, []int{1, 2, 2, 2, 3, 2, 7, 1}}, {[]int{1, 1, 2, 1, 3, 1}, []int{7, 2}, []int{1, 1, 2, 1, 3, 1, 7, 2}},
	} {
		under := api.Replica{Clocks: clocks(c.under...), Edits: edits("ab")}
		over := api.Replica{Clocks: clocks(c.over...), Edits: edits("c")}
		for _, x := range under.Clocks {
			under.Cards = append(under.Cards, api.Card{Id: x.Site, Count: x.Count, Text: "under"})
		}
		for _, x := range over.Clocks {
			over.Cards = append(over.Cards, api.Card{Id: x.Site, Count: x.Count, Gone: true})
		}
		r := Over(under, over)
		if !slices.Equal(r.Clocks, clocks(c.want...)) || !slices.Equal(r.Edits, edits("c")) {
			t.Errorf("P12: %d over %d: %+v", c.over, c.under, r)
		}
		// A card goes as the clock with that Site does.
		for i, card := range r.Cards {
			if len(r.Cards) != len(r.Clocks) || card.Id != r.Clocks[i].Site || card.Count != r.Clocks[i].Count || card.Gone != slices.Contains(over.Cards, card) {
				t.Errorf("P12: cards %d over %d: %+v", c.over, c.under, r.Cards)
			}
		}
	}
	if r := Over(api.Replica{Edits: edits("ab")}, api.Replica{}); len(r.Edits) != 0 {
		t.Errorf("P12: no edits over some: %+v", r.Edits)
	}
}

func TestNewer(t *testing.T) {
	for _, c := range []struct{ old, r, want []int }{
		{nil, nil, nil}, {[]int{1, 5}, nil, nil}, {nil, []int{1, 5, 7, 1}, []int{1, 5, 7, 1}},
		{[]int{1, 5}, []int{1, 5}, nil}, {[]int{1, 5}, []int{1, 6}, []int{1, 6}}, {[]int{1, 5}, []int{1, 4}, nil},
		{[]int{2, 5, 4, 5}, []int{1, 1, 2, 6, 3, 1, 4, 5, 5, 1}, []int{1, 1, 2, 6, 3, 1, 5, 1}},
	} {
		if list := NewerClocks(clocks(c.old...), clocks(c.r...)); !slices.Equal(list, clocks(c.want...)) {
			t.Errorf("clocks of %d that are newer than %d: %+v", c.r, c.old, list)
		}
	}
	for _, c := range []struct{ old, r, want []int }{
		{nil, nil, nil}, {[]int{1, 5, 5}, nil, nil}, {nil, []int{1, 5, 5, 2, 5, 4}, []int{1, 5, 5, 2, 5, 4}},
		{[]int{1, 5, 5}, []int{1, 5, 5}, nil}, {[]int{1, 5, 5}, []int{1, 5, 6}, []int{1, 5, 6}}, {[]int{1, 5, 5}, []int{1, 6, 5}, []int{1, 6, 5}}, {[]int{1, 5, 5}, []int{1, 4, 6}, []int{1, 4, 6}},
		{[]int{1, 5, 5}, []int{1, 4, 5}, nil}, {[]int{1, 5, 5}, []int{1, 6, 4}, nil}, {[]int{1, 5, 5}, []int{2, 5, 4}, []int{2, 5, 4}},
		{[]int{2, 1, 1, 4, 1, 2}, []int{1, 1, 9, 2, 1, 8, 3, 1, 7, 4, 1, 2}, []int{1, 1, 9, 2, 1, 8, 3, 1, 7}},
	} {
		if list := NewerCards(cards(c.old...), cards(c.r...)); !slices.Equal(list, cards(c.want...)) {
			t.Errorf("cards of %d that are newer than %d: %+v", c.r, c.old, list)
		}
	}
}

func TestMergedEdits(t *testing.T) {
	for _, c := range []struct{ a, b, want string }{
		{"", "", ""}, {"ab", "", "ab"}, {"", "ab", "ab"}, {"aa", "", "aa"}, {"", "aa", "a"}, {"aba", "bccad", "abacd"}, {"a", "ba", "ab"}, {"ba", "ab", "ba"},
	} {
		if list := mergedEdits(edits(c.a), edits(c.b)); !slices.Equal(list, edits(c.want)) {
			t.Errorf("P11: the edits %s and %s: %+v", c.a, c.b, list)
		}
	}
	if list := mergedEdits([]api.Edit{{Id: 1, Text: "a"}}, []api.Edit{{Id: 2, Text: "a"}, {Id: 1, Text: "a"}, {Id: 2}}); !slices.Equal(list, []api.Edit{{Id: 1, Text: "a"}, {Id: 2, Text: "a"}, {Id: 2}}) {
		t.Errorf("P11: edits that are alike by halves: %+v", list)
	}
}
