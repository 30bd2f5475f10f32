package audit

import (
	"cenotaph/api"
	"cenotaph/cert"
	"cenotaph/id"
	"cenotaph/item"
	"cenotaph/know"
	"cenotaph/matrix"
	"cenotaph/mesh"
	"cenotaph/node"
	"cenotaph/store"
	"cenotaph/vec"
)

// Check is the word for what is wrong first; an empty text: nothing is. Each word may count on it that those ahead of it
// aren't so: where a Know is asked for a number, all Knows are Right.
func Check(m mesh.Mesh) string {
	switch {
	case len(m.Nodes) == 0:
		return "empty"
	case !named(m.Nodes):
		return "ids"
	case anyOf(m.Nodes, wrongKnow):
		return "know"
	case anyOf(m.Nodes, wrongSeq):
		return "seq"
	case anyOf(m.Nodes, wrongStore):
		return "store"
	case tooFar(m.Nodes):
		return "rows"
	case wrongCerts(m.Nodes):
		return "certs"
	case clash(m.Nodes):
		return "clash"
	}
	return ""
}

func anyOf(l []node.State, wrong func(node.State) bool) bool {
	for _, s := range l {
		if wrong(s) {
			return true
		}
	}
	return false
}

// named: has each replica an Id of its own?
func named(l []node.State) bool {
	seen := map[id.Id]bool{}
	for _, s := range l {
		if !id.Right(s.Id) || seen[s.Id] {
			return false
		}
		seen[s.Id] = true
	}
	return true
}

func wrongKnow(s node.State) bool {
	switch {
	case !know.Right(s.Know) || !vec.Right(s.Gone) || !vec.Right(s.Floor):
		return true
	case !vec.Right(s.Certs) || !matrix.Right(s.Rows):
		return true
	}
	for _, x := range s.Know {
		if vec.Of(s.Gone, x.Id) > 0 {
			return true
		}
	}
	return !know.Within(know.From(s.Floor), node.All(s))
}

func wrongSeq(s node.State) bool {
	own := know.Of(node.All(s), s.Id)
	return !counts(s.Seq) || !counts(s.Clock) || own.Upto != s.Seq || len(own.Extra) > 0
}

func counts(n int) bool { return n >= 0 && n <= api.MaxSeq }

func wrongStore(s node.State) bool {
	all := node.All(s)
	for _, x := range s.Store {
		if !know.Has(all, x.Ver.Id, x.Ver.Seq) || x.Ver.Stamp > s.Clock {
			return true
		}
	}
	return !store.Right(s.Store)
}

// tooFar: is anybody said to be farther than it is? Whom no replica is is nowhere.
func tooFar(l []node.State) bool {
	far := map[id.Id]vec.Vec{}
	for _, s := range l {
		far[s.Id] = know.Firsts(node.All(s))
	}
	return anyOf(l, func(s node.State) bool {
		for _, x := range s.Rows {
			if !vec.Within(x.Vec, far[x.Id]) {
				return true
			}
		}
		return false
	})
}

// wrongCerts: is there a certificate of nobody, or of one that made fewer events?
func wrongCerts(l []node.State) bool {
	made := map[id.Id]int{}
	for _, s := range l {
		made[s.Id] = s.Seq
	}
	return anyOf(l, func(s node.State) bool {
		for _, x := range s.Certs {
			if n, found := made[x.Id]; !found || cert.Last(s.Certs, x.Id) > n {
				return true
			}
		}
		return false
	})
}

// event is who, and its how-manieth.
type event struct {
	id  id.Id
	seq int
}

// clash: do two items tell of one event different things? All that tell of it are held against one of them, that is
// Held, once one is: what agrees with that one agrees with all.
func clash(l []node.State) bool {
	told := map[event]item.Item{}
	return anyOf(l, func(s node.State) bool {
		for _, x := range s.Store {
			e := event{x.Ver.Id, x.Ver.Seq}
			y, found := told[e]
			if found && differ(x, y) {
				return true
			}
			if !found || x.Held {
				told[e] = x
			}
		}
		return false
	})
}

// differ: do two items of one event tell different things? A stub doesn't tell its text.
func differ(x, y item.Item) bool {
	if x.Key != y.Key || x.Ver != y.Ver || x.Dead != y.Dead || x.Spot != y.Spot {
		return true
	}
	return x.Held && y.Held && x.Text != y.Text
}
