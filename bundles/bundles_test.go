package bundles

import (
	"encoding/hex"
	"testing"

	"parcel/api"
)

func state() api.Replica {
	return api.Replica{
		Clocks: []api.Clock{{Site: 1, Count: 2}, {Site: 7, Count: 1}},
		Cards:  []api.Card{{Id: 5, Site: 1, Count: 2, Text: "hi"}, {Id: 9, Site: 7, Count: 1, Gone: true}},
		Edits:  []api.Edit{{Id: 5, Text: "yo"}},
	}
}

func TestBundle(t *testing.T) {
	for _, c := range []struct {
		name string
		l    api.Link
		want string
	}{
		{"of nothing", api.Link{}, "50524331f55f0204000e0efa584e1e194a"},
		{"of the document's replica", api.Link{State: state()},
			"50524331f55f0204000e0efa58f55f0301010282cfc6dff55f030107016a5a5fa0" +
				"f55f070205010200686969afc729f55f050209070101d6432d4cf55f040305796f43d953c825e103e3"},
		{"with a Base", api.Link{Seq: 1, Base: 0x25e103e3, State: api.Replica{
			Clocks: []api.Clock{{Site: 1, Count: 3}},
			Cards:  []api.Card{{Id: 5, Site: 1, Count: 3, Text: "ho"}},
			Edits:  []api.Edit{{Id: 5, Text: "yo"}},
		}},
			"50524331f55f06040125e103e3aca49812f55f03010103860edb68" +
				"f55f070205010300686faf44102cf55f040305796f43d953c8fb4de881"},
	} {
		if b := hex.EncodeToString([]byte(Bundle(c.l))); b != c.want {
			t.Errorf("P4: bundle %s: %s, want %s", c.name, b, c.want)
		}
	}
}

func TestBundleKeepsTheOrderOfEdits(t *testing.T) {
	for _, texts := range []string{"ab", "ba", "aa"} {
		l := api.Link{State: api.Replica{Edits: []api.Edit{{Id: 2, Text: texts[:1]}, {Id: 1, Text: texts[1:]}}}}
		list := recordsOf(l)
		if len(list) != 3 || list[1] != "\x03\x02"+texts[:1] || list[2] != "\x03\x01"+texts[1:] {
			t.Errorf("P4: records of %+v: %x", l, list)
		}
	}
}
