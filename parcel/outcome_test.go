package parcel

import (
	"fmt"
	"math/rand"
	"slices"
	"testing"

	"parcel/api"
)

// The sentences of P14, one after the other.

func TestBundlesAreOneToOne(t *testing.T) {
	random := rand.New(rand.NewSource(24))
	list := []api.Replica{{}, example(), newer(), third(), full()}
	for k := 0; k < 300; k++ {
		list = append(list, someReplica(random), closeReplica(random))
	}
	// Replicas by their bundles; two with the same bundle must be the same.
	seen := map[string]api.Replica{}
	for _, r := range list {
		b := mustExport(t, r)
		if back, e, at := Restore(b); e != api.OK || at != 0 || !same(back, r) {
			t.Fatalf("P14: Restore of Export(%+v) = %+v, %d, %d", r, back, e, at)
		}
		if there, ok := seen[b]; ok && !same(there, r) {
			t.Fatalf("P14: %+v and %+v have the same bundle", there, r)
		}
		seen[b] = r
	}
	if len(seen) < 400 {
		t.Errorf("only %d replicas are unlike", len(seen))
	}
}

func TestVolumesOfBundlesAreJoined(t *testing.T) {
	random := rand.New(rand.NewSource(25))
	for k := 0; k < 200; k++ {
		b := mustExport(t, someReplica(random))
		size := api.MinVolume + random.Intn(300)
		l := mustSplit(t, b, size)
		random.Shuffle(len(l), func(i, j int) { l[i], l[j] = l[j], l[i] })
		if back, e, at := Join(l); back != b || e != api.OK || at != 0 {
			t.Fatalf("P14: %d volumes in some order: %d bytes, %d, %d", len(l), len(back), e, at)
		}
		i := random.Intn(len(l))
		foreign := mustSplit(t, b[:len(b)-1]+string([]byte{b[len(b)-1] ^ 1}), size)
		swapped := slices.Clone(l)
		swapped[i] = foreign[random.Intn(len(foreign))]
		for _, c := range []struct {
			l []string
			e api.Errno
		}{
			{slices.Delete(slices.Clone(l), i, i+1), api.ErrMissing}, {slices.Insert(slices.Clone(l), random.Intn(len(l)+1), l[i]), api.ErrTwice}, {append(slices.Clone(l), foreign[0]), api.ErrMixed},
		} {
			if back, e, _ := Join(c.l); back != "" || e != c.e {
				t.Fatalf("P14: %d of %d volumes: %x, %d, want %d", len(c.l), len(l), back, e, c.e)
			}
		}
		if back, e, _ := Join(swapped); len(l) > 1 && (back != "" || e != api.ErrMixed) {
			t.Fatalf("P14: with a volume of other bytes: %x, %d", back, e)
		}
	}
}

// Links, too, are refused with turned bits, and with them the chains that they are in.
func TestTurnedBitsOfLinksAreRefused(t *testing.T) {
	random := rand.New(rand.NewSource(26))
	l := following(t, example(), newer(), newer())
	for i, b := range l {
		for bit := 0; bit < 8*len(b); bit++ {
			for _, more := range []uint32{0, 1, 1 << 30, 1<<31 - 1, random.Uint32() >> 1, random.Uint32() >> 20} {
				given := slices.Clone(l)
				given[i] = turnedBits(b, bit, more)
				want := api.ErrSum
				if bit < 32 {
					want = api.ErrMagic
				}
				if link, e, at := Read(given[i]); e != want || at != 0 || !sameLink(link, api.Link{}) {
					t.Fatalf("P14: bits from %d on turned over in link %d: %+v, %d, %d", bit, i, link, e, at)
				}
				if r, e, at := Replay(given); e != want || at != i || !same(r, api.Replica{}) {
					t.Fatalf("P12: bits from %d on turned over in link %d: %+v, %d, %d", bit, i, r, e, at)
				}
			}
		}
	}
}

// Texts may hold frames: of one that is cut, they are found behind the records that are left whole.
func TestCutBundlesAreSalvaged(t *testing.T) {
	r := example()
	r.Cards[0].Text = frameOf(yo) + frameOf(gone)
	r.Edits = []api.Edit{{Id: 1, Text: frameOf(clock)}, {Id: 2, Text: "\xf5\x5f"}}
	next := copyOf(r)
	next.Clocks[0].Count = 3
	next.Cards[0].Count, next.Cards[0].Text = 3, frameOf(hi)
	for _, b := range following(t, r, next) {
		all := modelSalvage(b)
		for cut := range len(b) + 1 {
			left := 0
			for left < len(all) && all[left].At+lengthAt(b, all[left].At) <= cut {
				left++
			}
			list := Salvage(b[:cut])
			if len(list) < left || !slices.Equal(list[:left], all[:left]) {
				t.Fatalf("P14: cut behind %d bytes: %+v, want first %+v", cut, list, all[:left])
			}
			for _, f := range list[left:] {
				if left < len(all) && f.At <= all[left].At {
					t.Fatalf("P14: cut behind %d bytes: %+v, of the frame that was cut", cut, f)
				}
			}
		}
	}
}

// lengthAt is how many bytes the frame at a place has.
func lengthAt(b string, at int) int {
	return 7 + int(b[at+2])
}

// history is what each site has written, one card after the other.
type history [api.MaxSites][]api.Card

func someHistory(random *rand.Rand) history {
	h := history{}
	sites := 1 + random.Intn(api.MaxSites)
	cards := 1 + random.Intn(api.MaxCards)
	for site := range sites {
		writes := random.Intn(30)
		for count := 1; count <= writes; count++ {
			c := api.Card{Id: 1 + random.Intn(cards), Site: site*25 + 1, Count: count, Gone: random.Intn(4) == 0}
			if !c.Gone {
				c.Text = someText(random)
			}
			h[site] = append(h[site], c)
		}
	}
	return h
}

// seenBy is the replica that has seen some first writes of each site.
func (h history) seenBy(many [api.MaxSites]int) api.Replica {
	counts, cards := map[int]int{}, map[int]api.Card{}
	for site, writes := range h {
		for _, c := range writes[:many[site]] {
			counts[c.Site] = c.Count
			if there, ok := cards[c.Id]; !ok || modelLater(c, there) {
				cards[c.Id] = c
			}
		}
	}
	return modelReplica(counts, cards, nil)
}

func TestReplicasOfOneHistoryAreMerged(t *testing.T) {
	random := rand.New(rand.NewSource(27))
	for k := 0; k < 3000; k++ {
		h := someHistory(random)
		var first, second, both [api.MaxSites]int
		for site, writes := range h {
			first[site], second[site] = random.Intn(len(writes)+1), random.Intn(len(writes)+1)
			both[site] = max(first[site], second[site])
		}
		a, b, want := h.seenBy(first), h.seenBy(second), h.seenBy(both)
		if r, e := Merge(a, b); e != api.OK || !same(r, want) {
			t.Fatalf("P14: Merge(%+v, %+v) = %+v, %d, want %+v", a, b, r, e, want)
		}
		if r, e := Merge(b, a); e != api.OK || !same(r, want) {
			t.Fatalf("P14: Merge(%+v, %+v) = %+v, %d, want %+v", b, a, r, e, want)
		}
		// What has seen more follows, so a chain takes the one upon the other.
		l := following(t, a, want)
		if r, e, at := Replay(l); e != api.OK || at != 0 || !same(r, want) {
			t.Fatalf("P14: Replay(%x) = %+v, %d, %d, want %+v", l, r, e, at, want)
		}
	}
}

func TestChainsAreReplayed(t *testing.T) {
	random := rand.New(rand.NewSource(28))
	for k := 0; k < 400; k++ {
		now := closeReplica(random)
		list := []api.Replica{now}
		links := 1 + random.Intn(api.MaxLinks)
		for len(list) < links {
			now = writtenBy(now, []int{1, 2, 3}[random.Intn(3)], 1+random.Intn(50), someText(random))
			now.Edits = closeReplica(random).Edits
			if Check(now) != api.OK {
				break
			}
			list = append(list, now)
		}
		l := following(t, list...)
		for many := 1; many <= len(l); many++ {
			part := slices.Clone(l[:many])
			random.Shuffle(len(part), func(i, j int) { part[i], part[j] = part[j], part[i] })
			if r, e, at := Replay(part); e != api.OK || at != 0 || !same(r, list[many-1]) {
				t.Fatalf("P14: Replay(%x) = %+v, %d, %d, want %+v", part, r, e, at, list[many-1])
			}
		}
	}
	l := following(t, example(), newer(), newer(), newer())
	for _, order := range orders(len(l)) {
		if r, e, at := Replay(picked(l, order...)); e != api.OK || at != 0 || !same(r, newer()) {
			t.Errorf("P14: Replay of the links %d: %+v, %d, %d", order, r, e, at)
		}
	}
}

// Another bundle in the place of one: the link that was made upon that one is refused.
func TestLinksUponOtherBundlesAreRefused(t *testing.T) {
	random := rand.New(rand.NewSource(29))
	l := following(t, api.Replica{}, example(), newer(), newer(), newer())
	for i := range len(l) - 1 {
		link, _, _ := Read(l[i])
		link.State.Edits = append(link.State.Edits, api.Edit{Id: 77, Text: "another"})
		base := "\x00\x00\x00\x00"
		if i > 0 {
			base = l[i-1][len(l[i-1])-4:]
		}
		changed := slices.Clone(l)
		changed[i] = linkBundle(i, base, link.State)
		for range 20 {
			order := random.Perm(len(l))
			given := picked(changed, order...)
			want := slices.Index(order, i+1)
			name := fmt.Sprintf("the links %d with another at %d", order, i)
			if r, e, at := Replay(given); e != api.ErrBase || at != want || !same(r, api.Replica{}) {
				t.Errorf("P14: %s: Replay = %+v, %d, %d, want %d", name, r, e, at, want)
			}
			if s, e, at := Extend(given, newer()); e != api.ErrBase || at != want || s != "" {
				t.Errorf("P14: %s: Extend = %x, %d, %d, want %d", name, s, e, at, want)
			}
		}
		// Without the links upon it the other bundle may stand.
		if _, e, at := Replay(changed[:i+1]); e != api.OK || at != 0 {
			t.Errorf("P14: another bundle at %d, the last one: %d, %d", i, e, at)
		}
	}
}
