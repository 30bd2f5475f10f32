package node

import (
	"cenotaph/api"
	"cenotaph/cert"
	"cenotaph/id"
	"cenotaph/item"
	"cenotaph/know"
	"cenotaph/matrix"
	"cenotaph/store"
	"cenotaph/vec"
)

// Child is s, and a new one that comes from it.
func Child(s State) (State, State, api.Errno) {
	if s.How != Live {
		return clone(s), State{}, api.ErrState
	}
	name, e := id.Child(s.Id, s.Kids+1)
	if e != api.OK {
		return clone(s), State{}, api.ErrFull
	}
	s.Kids++
	s.Members = id.Add(s.Members, name)
	s.Rows = matrix.Put(s.Rows, name, know.Firsts(All(s)))
	child := s
	child.Id, child.Kids, child.Seq = name, 0, 0
	return Settle(s), Settle(child), api.OK
}

// Retire is x when it went, and the heir, to whom it left all.
func Retire(x, heir State) (State, State, api.Errno) {
	if e := mayRetire(x, heir); e != api.OK {
		return clone(x), clone(heir), e
	}
	heir.Store = inherit(heir, x.Store)
	heir.Clock = max(heir.Clock, x.Clock)
	heir = Learn(heir, All(x))
	heir = Meta(heir, x.Members, cert.Put(x.Certs, x.Id, x.Seq), x.Rows)
	x.How = Retired
	return Settle(x), Settle(heir), api.OK
}

func mayRetire(x, heir State) api.Errno {
	switch {
	case x.How != Live || heir.How != Live:
		return api.ErrState
	case x.Id == heir.Id:
		return api.ErrArg
	case x.Id == id.Root:
		return api.ErrRoot
	case !knowsFloor(heir, x.Floor) || !knowsFloor(x, heir.Floor):
		return api.ErrStale
	case wouldLack(heir, x.Store):
		return api.ErrHeld
	}
	return api.OK
}

// knowsFloor: does s know of all that was let go there? Else it may have what those tombstones would take away.
func knowsFloor(s State, floor vec.Vec) bool { return know.Within(know.From(floor), All(s)) }

// wouldLack: would the heir come to know of a text that it should read, and not have it? Who goes may have been the one
// that would have told others of it.
func wouldLack(heir State, left store.Store) bool {
	for _, x := range store.Unknown(left, All(heir)) {
		if wanted(x, heir.Zone) {
			return true
		}
	}
	return false
}

// inherit is the heir's Store with what is left to it. What it knows, and hasn't, was overwritten or let go: of that
// only a text that it lacks may come.
func inherit(heir State, left store.Store) store.Store {
	known, all := All(heir), heir.Store
	for _, x := range left {
		if !know.Has(known, x.Ver.Id, x.Ver.Seq) || lacksText(all, x) {
			all, _ = store.Put(all, x)
		}
	}
	return all
}

// lacksText: has x the text of a stub there?
func lacksText(s store.Store, x item.Item) bool {
	own, found := store.Get(s, x.Key)
	return found && own.Ver == x.Ver && !own.Held && x.Held
}

// Expel is s when it says that another one is no member any more.
func Expel(s State, a id.Id) (State, api.Errno) {
	if e := mayExpel(s, a); e != api.OK {
		return clone(s), e
	}
	s.Certs = cert.Put(s.Certs, a, know.Of(All(s), a).Upto)
	return Settle(s), api.OK
}

func mayExpel(s State, a id.Id) api.Errno {
	switch {
	case s.How != Live:
		return api.ErrState
	case a == id.Root:
		return api.ErrRoot
	case a == s.Id:
		return api.ErrArg
	case !id.Has(s.Members, a):
		return api.ErrId
	case cert.Gone(s.Certs, a):
		return api.ErrKnown
	}
	return api.OK
}
