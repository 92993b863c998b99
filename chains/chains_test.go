package chains

import (
	"testing"

	"parcel/api"
	"parcel/bundles"
)

// links have these Seqs, and each has its Seq plus 100 as seal, and what the
// one ahead of it has as Base.
func links(seqs ...int) []sealed {
	list := []sealed{}
	for _, seq := range seqs {
		list = append(list, sealed{link: api.Link{Seq: seq, Base: seq + 99}, seal: seq + 100})
	}
	return list
}

func TestFirstTwiceAndInOrder(t *testing.T) {
	const far = 1<<63 - 1
	for _, c := range []struct {
		seqs         []int
		twice, order int
	}{
		{nil, 0, 0}, {[]int{0}, 1, 1}, {[]int{1}, 1, 0}, {[]int{far}, 1, 0}, {[]int{0, 1}, 2, 2}, {[]int{1, 0}, 2, 2}, {[]int{2, 0, 1}, 3, 3}, {[]int{0, 2}, 2, 1}, {[]int{1, 2}, 2, 1}, {[]int{0, 1, far}, 3, 2}, {[]int{3, 4, 5}, 3, 0},
		{[]int{0, 0}, 1, 1}, {[]int{0, 1, 1, 0}, 2, 2}, {[]int{far, 3, far}, 2, 0}, {[]int{2, 1, 0, 3, 2}, 4, 4},
	} {
		list := links(c.seqs...)
		if twice := firstTwice(list); twice != c.twice {
			t.Errorf("P12: the first Seq of %d that is twice: %d, want %d", c.seqs, twice, c.twice)
		}
		order := inOrder(list)
		if len(order) != c.order {
			t.Errorf("P12: %d in order: %+v", c.seqs, order)
		}
		for i := 1; i < len(order); i++ {
			if order[i].link.Seq <= order[i-1].link.Seq {
				t.Errorf("P12: %d in order: %+v", c.seqs, order)
			}
		}
	}
}

func TestFirstLoose(t *testing.T) {
	for _, seqs := range [][]int{{0}, {0, 1, 2, 3}, {3, 2, 1, 0}, {2, 0, 3, 1}} {
		list := links(seqs...)
		if at := firstLoose(list, inOrder(list)); at != len(list) {
			t.Errorf("P12: the first loose link of %d: %d", seqs, at)
		}
		for i := range list {
			list := links(seqs...)
			list[i].link.Base++
			want := i
			if seqs[i] == 0 {
				want = len(list)
			}
			if at := firstLoose(list, inOrder(list)); at != want {
				t.Errorf("P12: the first loose link of %d, with another Base at %d: %d", seqs, i, at)
			}
		}
	}
	// Asked of any lists it stays within them.
	if at := firstLoose(links(0, 1<<63-1), links(0)); at != 1 {
		t.Errorf("P12: a link far behind: %d", at)
	}
}

func TestLinksOf(t *testing.T) {
	whole := bundles.Bundle(api.Link{})
	next := bundles.Bundle(api.Link{Seq: 1, Base: bundles.SealOf(whole)})
	list, fault := linksOf([]string{next, whole, "PRC1", ""})
	if fault != api.ErrSum || len(list) != 2 || list[0].link.Seq != 1 || list[0].link.Base != list[1].seal || list[0].seal != bundles.SealOf(next) {
		t.Errorf("P12: %+v, %d", list, fault)
	}
	if list, fault := linksOf(nil); fault != api.OK || len(list) != 0 {
		t.Errorf("P12: the links of nothing: %+v, %d", list, fault)
	}
}
