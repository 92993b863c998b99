package parcel

import (
	"math/rand"
	"slices"
	"strings"
	"testing"

	"parcel/api"
)

func TestReplayOfTheDocument(t *testing.T) {
	b := mustExport(t, example())
	c := mustExtend(t, []string{b}, newer())
	for _, l := range [][]string{{b, c}, {c, b}} {
		if r, e, at := Replay(l); e != api.OK || at != 0 || !same(r, newer()) {
			t.Errorf("P12: example 10: %+v, %d, %d", r, e, at)
		}
	}
	if r, e, at := Replay([]string{c}); e != api.ErrMissing || at != 0 || !same(r, api.Replica{}) {
		t.Errorf("P12: example 10, the second alone: %+v, %d, %d", r, e, at)
	}
	if r, e, at := Restore(c); e != api.ErrDelta || at != 0 || !same(r, api.Replica{}) {
		t.Errorf("P7: example 10, Restore of the second: %+v, %d, %d", r, e, at)
	}
	if s, e, at := Extend([]string{b, c}, example()); e != api.ErrOld || at != 0 || s != "" {
		t.Errorf("P13: example 10, Extend of both with the older one: %x, %d, %d", s, e, at)
	}
}

// States are laid one over the other whatever they are; what comes of all must be sound.
func TestReplayLaysStates(t *testing.T) {
	a := api.Card{Id: 1, Site: 3, Count: 4, Text: "a"}
	clash := api.Card{Id: 2, Site: 3, Count: 4}
	for _, c := range []struct {
		states []api.Replica
		want   api.Replica
		e      api.Errno
	}{
		{[]api.Replica{{}}, api.Replica{}, api.OK}, {[]api.Replica{example()}, example(), api.OK}, {[]api.Replica{full()}, full(), api.OK}, {[]api.Replica{{}, full()}, full(), api.OK}, {[]api.Replica{full(), full()}, full(), api.OK},
		{[]api.Replica{{}, {}, {}}, api.Replica{}, api.OK}, {[]api.Replica{example(), third()}, api.Replica{Clocks: newer().Clocks, Cards: newer().Cards}, api.OK},
		// Clocks and cards stay, or join, or are taken the place of; edits are those of the last.
		{[]api.Replica{ticked(2, 1, 4, 1), ticked(1, 9, 3, 9, 5, 9), ticked(4, 7)}, ticked(1, 9, 2, 1, 3, 9, 4, 7, 5, 9), api.OK},
		{[]api.Replica{counted(1, 4, 6), counted(2, 1, 3), counted(3, 5, 5)}, api.Replica{Clocks: ticked(1, 6, 2, 3, 3, 5).Clocks, Cards: slices.Concat(counted(2, 1, 3).Cards, counted(1, 4, 4).Cards, counted(3, 5, 5).Cards, counted(1, 6, 6).Cards)}, api.OK},
		{[]api.Replica{edited("ab"), edited("c")}, edited("c"), api.OK}, {[]api.Replica{edited("ab"), {}}, api.Replica{}, api.OK}, {[]api.Replica{edited("ab"), {}, edited("bb")}, edited("bb"), api.OK}, {[]api.Replica{edited("ab"), edited("ab")}, edited("ab"), api.OK},
		// Nothing asks which is the later.
		{[]api.Replica{ticked(1, 5), ticked(1, 4)}, ticked(1, 4), api.OK},
		{[]api.Replica{written(a), {Cards: []api.Card{{Id: 1, Site: 3, Count: 2, Text: "b"}}}}, api.Replica{Clocks: ticked(3, 4).Clocks, Cards: []api.Card{{Id: 1, Site: 3, Count: 2, Text: "b"}}}, api.OK},
		{[]api.Replica{written(a), {Cards: []api.Card{{Id: 1, Site: 3, Count: 4, Gone: true}}}}, written(api.Card{Id: 1, Site: 3, Count: 4, Gone: true}), api.OK},
		{[]api.Replica{written(a), ticked(3, 3)}, api.Replica{}, api.ErrStamp},
		// What is wrong with a State may be put right by a later one.
		{[]api.Replica{{Cards: []api.Card{a}}, ticked(3, 4)}, written(a), api.OK}, {[]api.Replica{{Cards: []api.Card{a}}, {}}, api.Replica{}, api.ErrStamp},
		{[]api.Replica{ticked(1, 0), ticked(1, 1)}, ticked(1, 1), api.OK}, {[]api.Replica{ticked(1, 1), ticked(1, 0)}, api.Replica{}, api.ErrNumber}, {[]api.Replica{ticked(0, 1), ticked(1, 1)}, api.Replica{}, api.ErrNumber}, {[]api.Replica{ticked(1, 1), ticked(201, 1), ticked(2, 1)}, api.Replica{}, api.ErrNumber},
		{[]api.Replica{edited("abcdefghijklmnopq"), edited("a")}, edited("a"), api.OK}, {[]api.Replica{edited("a"), edited("abcdefghijklmnop")}, edited("abcdefghijklmnop"), api.OK}, {[]api.Replica{edited("a"), edited("abcdefghijklmnopq")}, api.Replica{}, api.ErrMany},
		{[]api.Replica{{Edits: []api.Edit{{Id: 0, Text: strings.Repeat("x", 61)}}}, {}}, api.Replica{}, api.OK}, {[]api.Replica{{}, {Edits: []api.Edit{{Id: 1, Text: strings.Repeat("x", 61)}}}}, api.Replica{}, api.ErrText}, {[]api.Replica{{}, {Edits: []api.Edit{{}}}}, api.Replica{}, api.ErrNumber},
		{[]api.Replica{written(api.Card{Id: 1, Site: 3, Count: 4, Gone: true, Text: "a"}), {Cards: []api.Card{a}}}, written(a), api.OK}, {[]api.Replica{written(api.Card{Id: 1, Site: 3, Count: 4, Gone: true, Text: "a"})}, api.Replica{}, api.ErrText},
		{[]api.Replica{written(a), {Cards: []api.Card{clash}}}, api.Replica{}, api.ErrClash}, {[]api.Replica{{Clocks: ticked(3, 5).Clocks, Cards: []api.Card{a, clash}}, {Cards: []api.Card{{Id: 2, Site: 3, Count: 5}}}}, api.Replica{Clocks: ticked(3, 5).Clocks, Cards: []api.Card{a, {Id: 2, Site: 3, Count: 5}}}, api.OK},
		// As much as may be, by several, and one more.
		{[]api.Replica{counted(1, 1, 20), counted(2, 21, 40)}, api.Replica{Clocks: ticked(1, 20, 2, 40).Clocks, Cards: append(counted(1, 1, 20).Cards, counted(2, 21, 40).Cards...)}, api.OK}, {[]api.Replica{counted(1, 1, 20), counted(2, 21, 41)}, api.Replica{}, api.ErrMany},
		{[]api.Replica{ticked(1, 1, 3, 1, 5, 1, 7, 1), ticked(2, 1, 4, 1, 6, 1, 8, 1)}, ticked(1, 1, 2, 1, 3, 1, 4, 1, 5, 1, 6, 1, 7, 1, 8, 1), api.OK}, {[]api.Replica{ticked(1, 1, 3, 1, 5, 1, 7, 1), ticked(2, 1, 4, 1, 6, 1, 8, 1, 9, 1)}, api.Replica{}, api.ErrMany},
	} {
		l := chainBundles(c.states...)
		for _, order := range orders(len(l)) {
			if r, e, at := Replay(picked(l, order...)); e != c.e || at != 0 || !same(r, c.want) {
				t.Errorf("P12: Replay of %+v, in the order %d: %+v, %d, %d, want %+v, %d", c.states, order, r, e, at, c.want, c.e)
			}
		}
	}
}

type noReplay struct {
	l  []string
	e  api.Errno
	at int
}

func noReplays() []noReplay {
	l := chainBundles(example(), third(), edited("a"), api.Replica{})
	o := chainBundles(newer(), third(), edited("b"), api.Replica{})
	far := bundleOf("\x04" + greatest + "abcd")
	loose := func(seq int) string { return linkBundle(seq, "abcd", api.Replica{}) }
	list := []noReplay{
		{slices.Repeat([]string{""}, 17), api.ErrMany, 0}, {slices.Repeat([]string{"x"}, 100000), api.ErrMany, 0}, {slices.Repeat(l[:1], 17), api.ErrMany, 0}, {slices.Repeat(l[:1], 16), api.ErrTwice, 1}, {slices.Repeat([]string{""}, 16), api.ErrMagic, 0},
		{[]string{l[0], l[0]}, api.ErrTwice, 1}, {[]string{l[0], o[0]}, api.ErrTwice, 1}, {[]string{l[0], l[1], l[2], l[3], l[1]}, api.ErrTwice, 4}, {[]string{l[2], l[1], l[1], l[2]}, api.ErrTwice, 2}, {[]string{l[1], o[1]}, api.ErrTwice, 1}, {[]string{far, l[0], far}, api.ErrTwice, 2},
		{nil, api.ErrMissing, 0}, {[]string{}, api.ErrMissing, 0}, {l[1:], api.ErrMissing, 0}, {l[1:2], api.ErrMissing, 0}, {[]string{l[0], l[2]}, api.ErrMissing, 0}, {[]string{l[3], l[1], l[0]}, api.ErrMissing, 0}, {[]string{far}, api.ErrMissing, 0}, {[]string{l[0], far, l[1]}, api.ErrMissing, 0},
		{[]string{l[0], loose(1)}, api.ErrBase, 1}, {[]string{loose(1), l[0]}, api.ErrBase, 0}, {[]string{o[0], l[1]}, api.ErrBase, 1}, {[]string{l[1], l[2], o[0]}, api.ErrBase, 0},
		{[]string{l[0], l[1], o[2]}, api.ErrBase, 2}, {[]string{l[0], o[1], l[2]}, api.ErrBase, 1}, {[]string{l[2], o[1], o[0]}, api.ErrBase, 0}, {[]string{l[3], o[2], o[1], o[0]}, api.ErrBase, 0},
		// Of several the first in the list, not the first in the chain.
		{[]string{loose(3), l[0], loose(2), loose(1)}, api.ErrBase, 0}, {[]string{l[0], loose(3), loose(1), loose(2)}, api.ErrBase, 1}, {[]string{l[1], loose(2), l[0], loose(3)}, api.ErrBase, 1},
		// The Base is the seal, not another number of the bundle's.
		{[]string{l[0], linkBundle(1, sumOf(l[0][:len(l[0])-4]), third())}, api.ErrBase, 1}, {[]string{l[0], linkBundle(1, sealOf(l[0]), third())}, api.ErrBase, 1}, {[]string{l[0], l[1], linkBundle(2, l[0][len(l[0])-4:], third())}, api.ErrBase, 2}, {[]string{l[0], linkBundle(1, "\x00\x00\x00\x00", third())}, api.ErrBase, 1},
	}
	for _, c := range []struct {
		bad string
		e   api.Errno
	}{
		{"", api.ErrMagic}, {"x", api.ErrMagic}, {"VOL1" + l[0][4:], api.ErrMagic}, {l[0][1:], api.ErrMagic}, {volumesOf(l[1])[0], api.ErrMagic}, {"PRC1", api.ErrSum}, {l[1][:len(l[1])-1], api.ErrSum}, {l[0] + l[1], api.ErrSum},
		{closed("\x00"), api.ErrFrame}, {closed(frameOf(head), frameOf(clock), "x"), api.ErrFrame}, {closed(), api.ErrOrder}, {bundleOf(clock), api.ErrOrder}, {bundleOf(head, other, clock), api.ErrOrder}, {bundleOf("\x04\x01"+l[0][len(l[0])-4:], gone, hi), api.ErrOrder},
	} {
		// With the number of the bundle, not the place in it; ahead of all that is wrong with links.
		list = append(list, noReplay{[]string{c.bad}, c.e, 0}, noReplay{[]string{l[0], c.bad, l[1]}, c.e, 1}, noReplay{[]string{l[1], l[0], c.bad, "", closed()}, c.e, 2}, noReplay{append(slices.Repeat(l[:1], 15), c.bad), c.e, 15})
		list = append(list, noReplay{[]string{loose(1), l[0], c.bad}, c.e, 2}, noReplay{[]string{far, c.bad}, c.e, 1}, noReplay{append(slices.Repeat([]string{c.bad}, 16), l[0]), api.ErrMany, 0})
	}
	// What is twice is named ahead of what is missing, that ahead of another Base, that ahead of Check's errors.
	return append(list, []noReplay{
		{[]string{l[1], l[3], l[3]}, api.ErrTwice, 2}, {[]string{l[0], loose(1), loose(1)}, api.ErrTwice, 2}, {[]string{loose(1), l[0], o[0]}, api.ErrTwice, 2},
		{[]string{l[0], loose(1), loose(3)}, api.ErrMissing, 0}, {[]string{loose(1)}, api.ErrMissing, 0},
		{[]string{bundleOf(head, "\x01\x00\x00"), loose(1)}, api.ErrBase, 1}, {[]string{bundleOf(head, hi), loose(1)}, api.ErrBase, 1}, {append(chainBundles(ticked(1, 0), ticked(2, 0)), loose(2)), api.ErrBase, 2},
		{[]string{bundleOf(head, hi)}, api.ErrStamp, 0}, {[]string{bundleOf(head, "\x01\x00\x00")}, api.ErrNumber, 0}, {[]string{bundleOf(head, "\x03"+greatest)}, api.ErrNumber, 0}, {[]string{bundleOf(head, "\x03\x01"+strings.Repeat("x", 61))}, api.ErrText, 0}, {[]string{bundleOf(head, clock, hi, "\x02\x06\x01\x02\x00")}, api.ErrClash, 0}, {[]string{closed(frameOf(head), strings.Repeat(frameOf(yo), 17))}, api.ErrMany, 0},
	}...)
}

// A refusal of Replay is Extend's too, whatever the replica is, and comes with the number alone (P1, P12, P13).
func TestReplayRefuses(t *testing.T) {
	for _, c := range noReplays() {
		if r, e, at := Replay(c.l); e != c.e || at != c.at || !same(r, api.Replica{}) {
			t.Errorf("P12: Replay(%x) = %+v, %d, %d, want %d, %d", c.l, r, e, at, c.e, c.at)
		}
		for _, r := range []api.Replica{{}, newer(), full(), ticked(1, 0), {Edits: make([]api.Edit, 17)}} {
			if s, e, at := Extend(c.l, r); e != c.e || at != c.at || s != "" {
				t.Errorf("P13: Extend(%x, %+v) = %x, %d, %d, want %d, %d", c.l, r, s, e, at, c.e, c.at)
			}
		}
		if _, e, at := modelReplay(c.l); e != c.e || at != c.at {
			t.Errorf("the model refuses %x with %d, %d, want %d, %d", c.l, e, at, c.e, c.at)
		}
	}
}

// As many links as may be, in some orders.
func TestReplayOfTheLongestChain(t *testing.T) {
	random := rand.New(rand.NewSource(20))
	states := []api.Replica{}
	for k := range api.MaxLinks {
		states = append(states, ticked(1+k%8, 10+k))
	}
	l := chainBundles(states...)
	for range 20 {
		if r, e, at := Replay(l); e != api.OK || at != 0 || !same(r, ticked(1, 18, 2, 19, 3, 20, 4, 21, 5, 22, 6, 23, 7, 24, 8, 25)) {
			t.Errorf("P12: %+v, %d, %d", r, e, at)
		}
		if s, e, at := Extend(l, full()); e != api.ErrMany || at != 0 || s != "" {
			t.Errorf("P13: Extend of %d links: %x, %d, %d", len(l), s, e, at)
		}
		random.Shuffle(len(l), func(i, j int) { l[i], l[j] = l[j], l[i] })
	}
}

// wildState is mostly part of a replica, with numbers that often come twice.
func wildState(random *rand.Rand) api.Replica {
	r := api.Replica{}
	seldom := func() bool { return random.Intn(40) == 0 }
	for site := range 5 {
		if site == 0 && seldom() || site > 0 && random.Intn(3) == 0 {
			r.Clocks = append(r.Clocks, api.Clock{Site: site, Count: 6 + random.Intn(5)})
		}
	}
	for id := 1; id < 8; id++ {
		if random.Intn(5) > 0 {
			continue
		}
		c := api.Card{Id: id, Site: 1 + random.Intn(4), Count: 1 + random.Intn(6), Gone: seldom(), Text: strings.Repeat("t", random.Intn(60))}
		if seldom() {
			c.Text = strings.Repeat("t", 61)
		}
		if seldom() {
			c.Site = 5
		}
		r.Cards = append(r.Cards, c)
	}
	edits := random.Intn(4)
	if seldom() {
		edits = 17
	}
	for range edits {
		r.Edits = append(r.Edits, api.Edit{Id: 1 + random.Intn(3), Text: "e"})
	}
	return r
}

// wildChain is mostly a chain, in any order, whose first State has all clocks.
func wildChain(random *rand.Rand) []string {
	states := []api.Replica{ticked(1, 6, 2, 6, 3, 6, 4, 6)}
	for k := random.Intn(6); k > 0; k-- {
		states = append(states, wildState(random))
	}
	l := chainBundles(states...)
	random.Shuffle(len(l), func(i, j int) { l[i], l[j] = l[j], l[i] })
	for k := random.Intn(3) * random.Intn(2); k > 0 && len(l) > 0; k-- {
		i := random.Intn(len(l))
		switch random.Intn(8) {
		case 0:
			l[i] = turnedBits(l[i], random.Intn(8*len(l[i])), random.Uint32()>>1)
		case 1:
			l[i] = closed(wildPieces(random)...)
		case 2, 3:
			l[i] = linkBundle(random.Intn(len(l)), l[random.Intn(len(l))][:4], wildState(random))
		case 4:
			l = append(l, l[i])
		case 5:
			l = slices.Delete(l, i, i+1)
		case 6:
			l = append(l, linkBundle(len(l), l[i][max(0, len(l[i])-4):], wildState(random)))
		default:
			l = slices.Repeat(l, 3)
		}
		if len(l) > 0 && slices.ContainsFunc(l, func(b string) bool { return len(b) < 4 }) {
			break
		}
	}
	return l
}

func TestReplayOfManyLists(t *testing.T) {
	random := rand.New(rand.NewSource(21))
	answers := make([]int, api.ErrOld+1)
	for k := 0; k < 12000; k++ {
		l := wildChain(random)
		want, fault, place := modelReplay(l)
		if r, e, at := Replay(l); e != fault || at != place || !same(r, want) {
			t.Fatalf("P12: Replay(%x) = %+v, %d, %d, want %+v, %d, %d", l, r, e, at, want, fault, place)
		}
		answers[fault]++
	}
	for _, e := range []api.Errno{api.OK, api.ErrMany, api.ErrNumber, api.ErrText, api.ErrStamp, api.ErrClash, api.ErrMagic, api.ErrSum, api.ErrFrame, api.ErrOrder, api.ErrTwice, api.ErrMissing, api.ErrBase} {
		if answers[e] < 10 {
			t.Errorf("the lists are too much alike: %d", answers)
		}
	}
	if answers[api.OK] < 1000 {
		t.Errorf("too few chains: %d", answers)
	}
}

// Bundles of any length are laid one over the other (P1).
func TestReplayEnds(t *testing.T) {
	many := api.Replica{}
	for k := range 3000 {
		many.Clocks = append(many.Clocks, api.Clock{Site: k, Count: k})
		many.Cards = append(many.Cards, api.Card{Id: k, Site: k, Count: k, Text: "x"})
		many.Edits = append(many.Edits, api.Edit{Id: 3000 - k})
	}
	l := chainBundles(slices.Repeat([]api.Replica{many}, api.MaxLinks)...)
	if r, e, at := Replay(l); e != api.ErrMany || at != 0 || !same(r, api.Replica{}) {
		t.Errorf("P1, P12: long links: %+v, %d, %d", r, e, at)
	}
	if s, e, at := Extend(l, example()); e != api.ErrMany || at != 0 || s != "" {
		t.Errorf("P1, P13: long links: %x, %d, %d", s, e, at)
	}
	edits := api.Replica{Edits: many.Edits}
	l = chainBundles(edits, edits, edits, edited("a"))
	if r, e, at := Replay(l); e != api.OK || at != 0 || !same(r, edited("a")) {
		t.Errorf("P1, P12: many edits, and then one: %+v, %d, %d", r, e, at)
	}
}
