package audit_test

import (
	"slices"

	"cenotaph/id"
	"cenotaph/item"
	"cenotaph/know"
	"cenotaph/matrix"
	"cenotaph/mesh"
	"cenotaph/node"
	"cenotaph/store"
	"cenotaph/vec"
)

// event is who, and its how-manieth.
type event struct {
	id  id.Id
	seq int
}

func eventOf(x item.Item) event { return event{x.Ver.Id, x.Ver.Seq} }

// events is which events it knows, as a set; of great numbers it would be too long.
func events(s node.State) map[event]bool {
	l := map[event]bool{}
	for _, x := range s.Know {
		for n := 1; n <= x.Span.Upto; n++ {
			l[event{x.Id, n}] = true
		}
		for _, n := range x.Span.Extra {
			l[event{x.Id, n}] = true
		}
	}
	for _, x := range s.Gone {
		for n := 1; n <= x.N; n++ {
			l[event{x.Id, n}] = true
		}
	}
	return l
}

// lacks: is there an event, of those that one knows who is as far as v says, that l hasn't?
func lacks(l map[event]bool, v vec.Vec) bool {
	for _, x := range v {
		for n := 1; n <= x.N; n++ {
			if !l[event{x.Id, n}] {
				return true
			}
		}
	}
	return false
}

// wrong is what Check should say, by the chapter's table, word by word, of each replica.
func wrong(m mesh.Mesh) string {
	for _, w := range words() {
		for i := range m.Nodes {
			if isWrong(m, i, w) {
				return w
			}
		}
		if w == "empty" && len(m.Nodes) == 0 {
			return w
		}
	}
	return ""
}

// isWrong: is it so of the replica in that place? The words ahead of it aren't so of any.
func isWrong(m mesh.Mesh, i int, word string) bool {
	s := m.Nodes[i]
	switch word {
	case "ids":
		return !id.Right(s.Id) || slices.ContainsFunc(m.Nodes[:i], func(x node.State) bool { return x.Id == s.Id })
	case "know":
		return !know.Right(s.Know) || !vec.Right(s.Gone) || !vec.Right(s.Floor) || !vec.Right(s.Certs) || !matrix.Right(s.Rows) ||
			slices.ContainsFunc(s.Know, func(x know.Row) bool { return vec.Of(s.Gone, x.Id) > 0 }) || lacks(events(s), s.Floor)
	case "seq":
		return s.Seq < 0 || s.Seq > 1048576 || s.Clock < 0 || s.Clock > 1048576 || !made(s)
	case "store":
		l := events(s)
		return !store.Right(s.Store) || slices.ContainsFunc(s.Store, func(x item.Item) bool { return !l[eventOf(x)] || x.Ver.Stamp > s.Clock })
	case "rows":
		return slices.ContainsFunc(s.Rows, func(x matrix.Row) bool { return lacks(events(named(m, x.Id)), x.Vec) })
	case "certs":
		return slices.ContainsFunc(s.Certs, func(x vec.At) bool { return named(m, x.Id).Id != x.Id || x.N-1 > named(m, x.Id).Seq })
	case "clash":
		for _, y := range m.Nodes {
			for _, a := range s.Store {
				if slices.ContainsFunc(y.Store, func(b item.Item) bool { return eventOf(a) == eventOf(b) && isOther(a, b) }) {
					return true
				}
			}
		}
	}
	return false
}

// made: are those of its own events just 1 to Seq?
func made(s node.State) bool {
	l, n := events(s), 0
	for e := range l {
		if e.id == s.Id {
			n++
		}
	}
	for seq := 1; seq <= n; seq++ {
		if !l[event{s.Id, seq}] {
			return false
		}
	}
	return n == s.Seq
}

// named is the replica of that Id; there may be none.
func named(m mesh.Mesh, a id.Id) node.State {
	for _, s := range m.Nodes {
		if s.Id == a {
			return s
		}
	}
	return node.State{}
}

func isOther(a, b item.Item) bool {
	return a.Key != b.Key || a.Ver.Stamp != b.Ver.Stamp || a.Dead != b.Dead || a.Spot != b.Spot || a.Held && b.Held && a.Text != b.Text
}
