package node

import (
	"slices"

	"cenotaph/api"
	"cenotaph/id"
	"cenotaph/item"
	"cenotaph/know"
	"cenotaph/store"
	"cenotaph/zone"
)

// Read is the text under a key.
func Read(s State, key int) (string, api.Errno) {
	if e := reach(s, key); e != api.OK {
		return "", e
	}
	x, found := store.Get(s.Store, key)
	switch {
	case !found || x.Dead:
		return "", api.ErrNone
	case !zone.Has(s.Zone, x.Spot):
		return "", api.ErrHidden
	case !x.Held:
		return "", api.ErrPending
	}
	return x.Text, api.OK
}

// reach: may its user do anything with the key?
func reach(s State, key int) api.Errno {
	switch {
	case s.How != Live:
		return api.ErrState
	case key < 0 || key >= api.MaxKeys:
		return api.ErrKey
	}
	return api.OK
}

// Wants is what it should have, and hasn't.
func Wants(s State) []item.Item {
	var l []item.Item
	for _, x := range s.Store {
		if wanted(x, s.Zone) {
			l = append(l, x)
		}
	}
	return l
}

// wanted: is it a stub of a text that one with this zone reads?
func wanted(x item.Item, z zone.Zone) bool { return !x.Dead && !x.Held && zone.Has(z, x.Spot) }

// Write is s with a text under the key, at a place.
func Write(s State, key int, spot complex128, text string) (State, api.Errno) {
	if e := mayWrite(s, key, spot, text); e != api.OK {
		return clone(s), e
	}
	return happen(s, item.Item{Key: key, Spot: spot, Text: text, Held: true}), api.OK
}

func mayWrite(s State, key int, spot complex128, text string) api.Errno {
	if e := reach(s, key); e != api.OK {
		return e
	}
	switch {
	case !zone.Whole(spot):
		return api.ErrSpot
	case !zone.Has(s.Zone, spot):
		return api.ErrZone
	case len(text) > api.MaxText:
		return api.ErrText
	case spent(s):
		return api.ErrSeq
	}
	return api.OK
}

// spent: is there no further event? The last number stays free, since a certificate has one more than the events.
func spent(s State) bool { return s.Seq >= api.MaxSeq-1 || s.Clock >= api.MaxSeq-1 }

// Delete is s without a text under the key. It leaves a tombstone, so that what is older doesn't come back.
func Delete(s State, key int) (State, api.Errno) {
	if e := mayDelete(s, key); e != api.OK {
		return clone(s), e
	}
	return happen(s, item.Item{Key: key, Dead: true}), api.OK
}

func mayDelete(s State, key int) api.Errno {
	if e := reach(s, key); e != api.OK {
		return e
	}
	x, found := store.Get(s.Store, key)
	switch {
	case !found || x.Dead:
		return api.ErrNone
	case spent(s):
		return api.ErrSeq
	}
	return api.OK
}

// happen is s behind its next event, by which x comes.
func happen(s State, x item.Item) State {
	s.Seq++
	s.Clock++
	x.Ver = item.Version{Id: s.Id, Seq: s.Seq, Stamp: s.Clock}
	s.Store, _ = store.Put(s.Store, x)
	return Settle(Learn(s, know.Add(nil, s.Id, s.Seq)))
}

// SetZone is s when it wants to read another part of the plane. The root reads all, so that no text is left to nobody.
func SetZone(s State, z zone.Zone) (State, api.Errno) {
	switch {
	case s.How != Live:
		return clone(s), api.ErrState
	case s.Id == id.Root:
		return clone(s), api.ErrRoot
	case !zone.Right(z):
		return clone(s), api.ErrZone
	}
	s.Zone = slices.Clone(z)
	return Settle(s), api.OK
}
