// Package sample has what tests are written with: items, Rows, States and Ops in few words. The program itself doesn't call it.
package sample

import (
	"bytes"
	"math"
	"slices"
	"strings"

	"cenotaph/id"
	"cenotaph/item"
	"cenotaph/know"
	"cenotaph/matrix"
	"cenotaph/mesh"
	"cenotaph/node"
	"cenotaph/span"
	"cenotaph/store"
	"cenotaph/vec"
	"cenotaph/zone"
)

// At is how far a is.
func At(a id.Id, n int) vec.At { return vec.At{Id: a, N: n} }

// Row is how far a is as to some.
func Row(a id.Id, v ...vec.At) matrix.Row { return matrix.Row{Id: a, Vec: slices.Clone(v)} }

// Knows is which of a's events are known.
func Knows(a id.Id, upto int, extra ...int) know.Row {
	return know.Row{Id: a, Span: span.Span{Upto: upto, Extra: slices.Clone(extra)}}
}

// Version is a's event of that number.
func Version(a id.Id, seq, stamp int) item.Version {
	return item.Version{Id: a, Seq: seq, Stamp: stamp}
}

// Dead is a tombstone.
func Dead(key int, v item.Version) item.Item { return item.Item{Key: key, Ver: v, Dead: true} }

// Stub is an item whose text isn't there.
func Stub(key int, v item.Version, spot complex128) item.Item {
	return item.Item{Key: key, Ver: v, Spot: spot}
}

// Held is an item whose text is there.
func Held(key int, v item.Version, spot complex128, text string) item.Item {
	return item.Item{Key: key, Ver: v, Spot: spot, Text: text, Held: true}
}

// Zone is the zone of that text; of a text that is none's it is nothing, which isn't a zone.
func Zone(text string) zone.Zone {
	z, _ := zone.Parse(text)
	return z
}

// Same: is all in both States the same? Nil and empty lists are one.
func Same(a, b node.State) bool {
	switch {
	case a.Id != b.Id || a.How != b.How || a.Kids != b.Kids || a.Seq != b.Seq || a.Clock != b.Clock:
		return false
	case !know.Same(a.Know, b.Know) || !vec.Same(a.Gone, b.Gone) || !vec.Same(a.Floor, b.Floor):
		return false
	case !store.Same(a.Store, b.Store) || !zone.Same(a.Zone, b.Zone):
		return false
	}
	return slices.Equal(a.Members, b.Members) && vec.Same(a.Certs, b.Certs) && matrix.Same(a.Rows, b.Rows)
}

// SameMesh: is all in both Meshes the same?
func SameMesh(a, b mesh.Mesh) bool {
	return slices.EqualFunc(a.Nodes, b.Nodes, Same) && slices.EqualFunc(a.Bag, b.Bag, bytes.Equal) && a.Most == b.Most
}

// Overfull is o with what can't be in all that its Kind doesn't have.
func Overfull(o mesh.Op) mesh.Op {
	full := mesh.Op{
		Kind: o.Kind, Who: "no id", Other: "no id", Key: -7, At: -7, Spot: complex(math.Inf(1), math.NaN()),
		Text: strings.Repeat("a", 101), Zone: zone.Zone{{Op: 99}},
	}
	switch o.Kind {
	case mesh.Deliver, mesh.Drop, mesh.Double:
		full.At = o.At
		return full
	case mesh.Write:
		full.Key, full.Spot, full.Text = o.Key, o.Spot, o.Text
	case mesh.Delete:
		full.Key = o.Key
	case mesh.SetZone:
		full.Zone = o.Zone
	case mesh.Send, mesh.Retire, mesh.Expel:
		full.Other = o.Other
	}
	full.Who = o.Who
	return full
}

// WrongStates is s with one thing at a time that can't be; and some that can't be at all.
func WrongStates(s node.State) []node.State {
	all := []node.State{{}, {Id: "no id"}, {Id: "01", Kids: -1 << 63, Seq: -1 << 63, Clock: -1 << 63}, {Id: "01", How: -1}}
	for _, spoil := range []func(*node.State){
		func(s *node.State) {
			s.Know = know.Know{Knows("02", -5, 9, 3, 3, -1), Knows("01", 1<<62), Knows("", 0)}
		},
		func(s *node.State) { s.Gone = wrongVec() },
		func(s *node.State) { s.Gone = know.Firsts(s.Know) },
		func(s *node.State) { s.Floor = wrongVec() },
		func(s *node.State) { s.Store = wrongStore() },
		func(s *node.State) { s.Zone = zone.Zone{{Op: zone.And}, {Op: 99}} },
		func(s *node.State) { s.Members = []id.Id{"09", "", "0", "0", "no id"} },
		func(s *node.State) { s.Certs = wrongVec() },
		func(s *node.State) { s.Certs = vec.Vec{At(s.Id, 2)} },
		func(s *node.State) {
			s.Rows = matrix.Matrix{Row("02", wrongVec()...), {}, Row("01"), Row("01", wrongVec()...)}
		},
	} {
		x := node.Learn(s, nil)
		spoil(&x)
		all = append(all, x)
	}
	return all
}

func wrongVec() vec.Vec { return vec.Vec{At("02", -1), At("01", 1<<62), At("01", 0), At("no id", 5)} }

func wrongStore() store.Store {
	return store.Store{
		Dead(9, Version("", -1, -1)), {Key: 3, Dead: true, Held: true}, {Key: -1, Text: "a"}, Stub(3, Version("0", 1, 1), 0.5),
	}
}
