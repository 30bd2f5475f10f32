package audit_test

import (
	"slices"
	"testing"

	"cenotaph/api"
	"cenotaph/audit"
	"cenotaph/id"
	"cenotaph/item"
	"cenotaph/know"
	"cenotaph/matrix"
	"cenotaph/mesh"
	"cenotaph/node"
	"cenotaph/sample"
	"cenotaph/store"
	"cenotaph/vec"
	"cenotaph/zone"
)

// The names by which the tests speak of what package sample has.
var (
	at, row, knows, version  = sample.At, sample.Row, sample.Knows, sample.Version
	deadOne, stubOf, heldOne = sample.Dead, sample.Stub, sample.Held
)

// sound is a Mesh in which all is as it should be, though no calls brought it about: of two that are Live one has a hole,
// and left out whom the other one didn't; 02 is Expelled, 03 Retired.
func sound() mesh.Mesh {
	return mesh.Mesh{Most: 3, Nodes: []node.State{
		{
			Id: "0", Kids: 3, Seq: 3, Clock: 7, Zone: sample.Zone("disc 0 0 5"),
			Know: know.Know{knows("0", 3), knows("01", 1, 3)}, Gone: vec.Vec{at("03", 2)}, Floor: vec.Vec{at("03", 1)},
			Store: store.Store{heldOne(0, version("0", 1, 1), 1+1i, "a"), deadOne(1, version("0", 2, 2)), heldOne(2, version("0", 3, 6), 5, "c"),
				heldOne(3, version("01", 3, 5), 2i, "e"), stubOf(4, version("03", 2, 7), 9)},
			Members: []id.Id{"0", "01", "02", "03"}, Certs: vec.Vec{at("03", 3)},
			Rows: matrix.Matrix{row("0", at("0", 3), at("01", 1), at("03", 2)), row("01", at("0", 2), at("01", 3))},
		},
		{
			Id: "01", Seq: 3, Clock: 7, Zone: sample.Zone("half 1 0 9"),
			Know: know.Know{knows("0", 2), knows("01", 3), knows("03", 2)},
			Store: store.Store{stubOf(0, version("0", 1, 1), 1+1i), deadOne(1, version("0", 2, 2)), heldOne(3, version("01", 3, 5), 2i, "e"),
				heldOne(4, version("03", 2, 7), 9, "f")},
			Members: []id.Id{"0", "01", "03"}, Rows: matrix.Matrix{row("01", at("0", 2), at("01", 3), at("03", 2)), row("03", at("03", 2))},
		},
		{Id: "02", How: node.Expelled, Zone: zone.Everywhere(), Members: []id.Id{"0", "02"}, Certs: vec.Vec{at("01", 1)}},
		{
			Id: "03", How: node.Retired, Seq: 2, Clock: 7, Zone: zone.Everywhere(), Know: know.Know{knows("03", 2)},
			Store: store.Store{heldOne(4, version("03", 2, 7), 9, "f")}, Rows: matrix.Matrix{row("03", at("03", 2))},
		},
	}}
}

// fault is something that is done to a sound Mesh, and the word for it.
type fault struct {
	word string
	make func(*mesh.Mesh)
}

// of is a fault of the replica in that place.
func of(word string, i int, change func(*node.State)) fault {
	return fault{word, func(m *mesh.Mesh) { change(&m.Nodes[i]) }}
}

// words is Check's words in their order; the last one is that there is nothing to say.
func words() []string {
	return []string{"empty", "ids", "know", "seq", "store", "rows", "certs", "clash", ""}
}

func faults() []fault {
	return slices.Concat(wrongIds(), wrongKnows(), wrongSeqs(), wrongStores(), wrongRows(), wrongCerts(), clashes())
}

func wrongIds() []fault {
	var l []fault
	for i := range 4 {
		for _, a := range []id.Id{"", "1", "00", "010", "0123456", "no id", []id.Id{"03", "0", "01", "02"}[i]} {
			l = append(l, of("ids", i, func(s *node.State) { s.Id = a }))
		}
	}
	return append(l, fault{"ids", func(m *mesh.Mesh) { m.Nodes = append(m.Nodes, node.Root()) }})
}

func wrongKnows() []fault {
	var l []fault
	wrongVecs := []vec.Vec{{at("0", 0)}, {at("0", -1)}, {at("01", 1), at("0", 1)}, {at("0", 1), at("0", 2)}, {at("1", 1)}, {at("", 1)}, {at("0", 1048577)}}
	for i := range 4 {
		for _, v := range wrongVecs {
			l = append(l, of("know", i, func(s *node.State) { s.Gone = v }), of("know", i, func(s *node.State) { s.Floor = v }),
				of("know", i, func(s *node.State) { s.Certs = v }), of("know", i, func(s *node.State) { s.Rows = matrix.Matrix{{Id: "0", Vec: v}} }))
		}
		for _, k := range []know.Know{{knows("0", 0)}, {knows("0", -1)}, {knows("01", 1), knows("0", 1)}, {knows("0", 1), knows("0", 1)}, {knows("1", 1)},
			{knows("0", 1048577)}, {knows("0", 1, 2)}, {knows("0", 1, 5, 5)}, {knows("0", 1, 5, 4)}, {knows("0", 1, 1048577)}, {knows("0", 0, 1)}} {
			l = append(l, of("know", i, func(s *node.State) { s.Know = k }))
		}
		for _, m := range []matrix.Matrix{{row("0")}, {row("", at("0", 1))}, {row("01", at("0", 1)), row("0", at("0", 1))}, {row("0", at("0", 1)), row("0", at("0", 1))}} {
			l = append(l, of("know", i, func(s *node.State) { s.Rows = m }))
		}
		l = append(l, of("know", i, func(s *node.State) { s.Floor = vec.Vec{at("04", 1)} }), of("know", i, func(s *node.State) { s.Floor = vec.Vec{at("03", 3)} }))
	}
	return append(l,
		of("know", 0, func(s *node.State) { s.Gone = vec.Vec{at("0", 3), at("03", 2)} }), of("know", 0, func(s *node.State) { s.Gone = vec.Vec{at("01", 1)} }),
		of("know", 1, func(s *node.State) { s.Gone = vec.Vec{at("03", 2)} }), of("know", 3, func(s *node.State) { s.Gone = vec.Vec{at("03", 3)} }),
		of("know", 0, func(s *node.State) { s.Floor = vec.Vec{at("01", 2)} }), of("know", 0, func(s *node.State) { s.Floor = vec.Vec{at("01", 3)} }),
		of("know", 0, func(s *node.State) { s.Floor = vec.Vec{at("0", 4)} }), of("know", 2, func(s *node.State) { s.Floor = vec.Vec{at("0", 1)} }))
}

func wrongSeqs() []fault {
	var l []fault
	for i, seq := range []int{3, 3, 0, 2} {
		for _, n := range []int{-1, seq - 1, seq + 1, 1048576, 1048577, -1 << 63, 1<<63 - 1} {
			l = append(l, of("seq", i, func(s *node.State) { s.Seq = n }))
		}
		for _, n := range []int{-1, 1048577, -1 << 63, 1<<63 - 1} {
			l = append(l, of("seq", i, func(s *node.State) { s.Clock = n }))
		}
	}
	// so many as it made, but with a hole
	for _, n := range []int{1, 2, 3} {
		l = append(l, of("seq", 1, func(s *node.State) { s.Seq = n; s.Know = know.Know{knows("0", 2), knows("01", 1, 3), knows("03", 2)} }))
	}
	return append(l,
		of("seq", 2, func(s *node.State) { s.Know = know.Know{knows("02", 1)} }), of("seq", 2, func(s *node.State) { s.Gone = vec.Vec{at("02", 1)} }),
		of("seq", 3, func(s *node.State) { s.Know = nil }), of("seq", 3, func(s *node.State) { s.Know, s.Gone = nil, vec.Vec{at("03", 1)} }))
}

// under is s, in which x stands under its key.
func under(s store.Store, x item.Item) store.Store {
	l := slices.DeleteFunc(slices.Clone(s), func(y item.Item) bool { return y.Key == x.Key })
	i := slices.IndexFunc(append(l, item.Item{Key: x.Key}), func(y item.Item) bool { return y.Key >= x.Key })
	return slices.Insert(l, i, x)
}

func wrongStores() []fault {
	v := version("03", 1, 1)
	var l []fault
	for _, i := range []int{0, 1, 3} {
		for _, x := range []item.Item{heldOne(32, v, 0, "a"), heldOne(9, v, 0.5, "a"), heldOne(9, v, 1001, "a"), heldOne(9, v, 0, "seventeen bytes !"), {Key: 9, Ver: v, Text: "a"},
			{Key: 9, Ver: v, Dead: true, Spot: 1}, {Key: 9, Ver: v, Dead: true, Held: true}, deadOne(9, version("03", 1, 0)), stubOf(9, version("04", 1, 1), 0),
			deadOne(9, version("03", 0, 1)), deadOne(9, version("03", 3, 1)), stubOf(9, version("02", 1, 1), 0), heldOne(9, v, 0, "")} {
			if item.Right(x) && x.Ver == v {
				x.Ver.Stamp = 8
			}
			l = append(l, of("store", i, func(s *node.State) { s.Store = append(s.Store, x) }))
		}
		l = append(l, of("store", i, func(s *node.State) { s.Store = append(store.Store{deadOne(-1, v)}, s.Store...) }),
			of("store", i, func(s *node.State) { s.Store = append(s.Store, deadOne(9, v), deadOne(9, v)) }),
			of("store", i, func(s *node.State) { s.Store = append(s.Store, deadOne(0, v)) }), of("store", i, func(s *node.State) { s.Clock = 6 }))
	}
	return append(l,
		of("store", 0, func(s *node.State) { s.Store = append(s.Store, heldOne(5, version("01", 2, 4), 0, "")) }), // it stands in a hole
		of("store", 1, func(s *node.State) { s.Store = append(s.Store, heldOne(5, version("0", 3, 6), 0, "")) }),
		of("store", 2, func(s *node.State) { s.Store = store.Store{deadOne(1, version("0", 2, 2))} }),
		of("store", 1, func(s *node.State) { s.Know = know.Drop(s.Know, "03") }))
}

func wrongRows() []fault {
	var l []fault
	for i := range 4 {
		for _, x := range []matrix.Row{row("04", at("0", 1)), row("0", at("0", 4)), row("0", at("01", 2)), row("0", at("01", 3)), row("0", at("02", 1)), row("0", at("03", 3)),
			row("01", at("0", 3)), row("01", at("01", 4)), row("01", at("0", 2), at("04", 1)), row("02", at("0", 1)), row("02", at("02", 1)), row("03", at("0", 1)), row("03", at("03", 3))} {
			l = append(l, of("rows", i, func(s *node.State) { s.Rows = matrix.Merge(s.Rows, matrix.Matrix{x}) }))
		}
	}
	// of whom the Rows tell
	return append(l, fault{"rows", func(m *mesh.Mesh) {
		m.Nodes[3] = node.State{Id: "04", Seq: 2, Know: know.Know{knows("04", 2)}}
	}})
}

func wrongCerts() []fault {
	var l []fault
	for i := range 4 {
		for _, c := range []vec.At{at("04", 1), at("012345", 1), at("0", 5), at("01", 5), at("02", 2), at("03", 4), at("03", 1048576)} {
			l = append(l, of("certs", i, func(s *node.State) { s.Certs = vec.Join(s.Certs, vec.Vec{c}) }))
		}
	}
	return l
}

func clashes() []fault {
	var l []fault
	for _, x := range []item.Item{stubOf(2, version("0", 1, 1), 1+1i), stubOf(0, version("0", 1, 2), 1+1i), deadOne(0, version("0", 1, 1)), stubOf(0, version("0", 1, 1), 1+2i),
		stubOf(0, version("0", 1, 1), 1), heldOne(0, version("0", 1, 1), 1+1i, "b"), heldOne(0, version("0", 1, 1), 1+1i, ""), stubOf(1, version("0", 2, 2), 0), deadOne(5, version("0", 2, 2)),
		deadOne(1, version("0", 2, 3)), heldOne(3, version("01", 3, 5), 2i, "x"), heldOne(4, version("03", 2, 7), 9, "g"), heldOne(4, version("03", 2, 7), 8, "f"), deadOne(9, version("03", 2, 7))} {
		l = append(l, of("clash", 1, func(s *node.State) { s.Store = under(s.Store, x) }))
	}
	return append(l,
		// of one replica alone, and of one that isn't Live; two texts beside a stub that comes first
		of("clash", 0, func(s *node.State) { s.Store = append(s.Store, heldOne(5, version("0", 3, 6), 5, "c")) }),
		of("clash", 3, func(s *node.State) { s.Store = store.Store{heldOne(4, version("03", 2, 7), 9, "g")} }),
		of("clash", 3, func(s *node.State) { s.Store = store.Store{stubOf(5, version("03", 2, 7), 9)} }),
		of("clash", 3, func(s *node.State) { s.Store = append(s.Store, deadOne(5, version("03", 2, 7))) }))
}

func TestCheckOfSoundMeshes(t *testing.T) {
	for i, change := range []func(*mesh.Mesh){
		func(*mesh.Mesh) {}, func(m *mesh.Mesh) { m.Most = -1; m.Bag = [][]byte{nil, {9}} },
		func(m *mesh.Mesh) {
			m.Nodes[2].How = 7
			m.Nodes[1].Kids = -5
			m.Nodes[0].Members = []id.Id{"no id", ""}
			m.Nodes[1].Zone = nil
		},
		func(m *mesh.Mesh) { m.Nodes[0].Floor = vec.Vec{at("0", 3), at("01", 1), at("03", 2)} },
		func(m *mesh.Mesh) { m.Nodes[0].Clock = 1048576; m.Nodes[2].Clock = 1048576 },
		func(m *mesh.Mesh) { m.Nodes[3].Know, m.Nodes[3].Gone = nil, vec.Vec{at("03", 2)} },
		func(m *mesh.Mesh) { m.Nodes[2].Certs = vec.Vec{at("0", 4), at("01", 4), at("02", 1), at("03", 3)} },
		func(m *mesh.Mesh) { m.Nodes[2].Rows = m.Nodes[0].Rows },
		func(m *mesh.Mesh) { m.Nodes[1].Store[0] = heldOne(0, version("0", 1, 1), 1+1i, "a") },
		func(m *mesh.Mesh) { m.Nodes[3].Store[0] = stubOf(4, version("03", 2, 7), 9) },
		func(m *mesh.Mesh) { m.Nodes = []node.State{node.Root()} },
		func(m *mesh.Mesh) { m.Nodes = []node.State{{Id: "012345", How: node.Retired}} },
		// what one wrote under one key, and another one under another one, may be of one stamp
		func(m *mesh.Mesh) { m.Nodes[3].Store = append(m.Nodes[3].Store, deadOne(5, version("03", 1, 7))) },
	} {
		m := sound()
		if change(&m); audit.Check(m) != "" {
			t.Errorf("%d: %q", i, audit.Check(m))
		}
	}
	for _, most := range []int{1, 32} {
		if m, _ := mesh.New(most); audit.Check(m) != "" || !audit.Calm(m) || !audit.Floors(m) || len(audit.Newest(m)) > 0 {
			t.Error(audit.Check(m))
		}
	}
}

func TestCheckOfNobody(t *testing.T) {
	for _, m := range []mesh.Mesh{{}, {Nodes: []node.State{}, Most: 3, Bag: [][]byte{{1}}}} {
		if w := audit.Check(m); w != "empty" || audit.Calm(m) || !audit.Floors(m) || len(audit.Newest(m)) > 0 {
			t.Error(w)
		}
	}
}

// Each fault has its word, also where the others are told of by nobody.
func TestCheck(t *testing.T) {
	for i, f := range faults() {
		m := sound()
		if f.make(&m); audit.Check(m) != f.word {
			t.Errorf("%d: %q, not %q: %v", i, audit.Check(m), f.word, m.Nodes)
		}
		if w := wrong(m); w != f.word {
			t.Errorf("%d: the words say %q, not %q", i, w, f.word)
		}
	}
}

// Of two faults that word counts that comes first, in whatever replica; what both say together the model tells.
func TestCheckOfTwoFaults(t *testing.T) {
	all := faults()
	seen := map[[2]string]int{}
	for i, a := range all {
		for j, b := range all {
			if (i+j)%3 != 0 {
				continue
			}
			m := sound()
			a.make(&m)
			b.make(&m)
			w := audit.Check(m)
			if want := wrong(m); w != want {
				t.Fatalf("%d, %d: %q, not %q", i, j, w, want)
			}
			if k := slices.Index(words(), w); k <= slices.Index(words(), a.word) && k <= slices.Index(words(), b.word) {
				seen[[2]string{a.word, b.word}]++
			}
		}
	}
	for _, a := range words()[1:8] {
		for _, b := range words()[1:8] {
			if seen[[2]string{a, b}] < 5 {
				t.Errorf("%q and %q are tried too rarely", a, b)
			}
		}
	}
}

// A stub may stand ahead of two texts of one event, between them, or behind.
func TestClashOfThree(t *testing.T) {
	v := version("03", 2, 7)
	for n := range 27 {
		kinds := []int{n % 3, n / 3 % 3, n / 9}
		m := sound()
		m.Nodes[2].Know, m.Nodes[2].Clock = know.Know{knows("03", 2)}, 7
		for i, kind := range kinds {
			x := []item.Item{stubOf(4, v, 9), heldOne(4, v, 9, "f"), heldOne(4, v, 9, "g")}[kind]
			m.Nodes[i+1].Store = under(m.Nodes[i+1].Store, x)
		}
		want := ""
		if slices.Contains(kinds, 1) && slices.Contains(kinds, 2) {
			want = "clash"
		}
		if w := audit.Check(m); w != want {
			t.Errorf("%v: %q, not %q", kinds, w, want)
		}
	}
}

// As far as numbers go.
func TestGreatMeshes(t *testing.T) {
	s := node.State{Id: "0", Seq: api.MaxSeq, Clock: api.MaxSeq, Know: know.Know{knows("0", api.MaxSeq)}, Zone: zone.Everywhere(),
		Floor: vec.Vec{at("0", api.MaxSeq)}, Rows: matrix.Matrix{row("0", at("0", api.MaxSeq))}, Certs: vec.Vec{at("0", api.MaxSeq)},
		Store: store.Store{heldOne(31, version("0", api.MaxSeq, api.MaxSeq), complex(-1000, 1000), "sixteen bytes !!")}}
	m := mesh.Mesh{Nodes: []node.State{s}}
	if w := audit.Check(m); w != "" || !audit.Calm(m) || !audit.Floors(m) {
		t.Error(w)
	}
	m.Nodes[0].Seq--
	if w := audit.Check(m); w != "seq" {
		t.Error(w)
	}
	// many that are all named by one, though none could be
	m = sound()
	for i := range 9999 {
		m.Nodes = append(m.Nodes, node.State{Id: id.Id([]byte{'0', '5' + byte(i%5), '1' + byte(i/5%9), '1' + byte(i/45%9), '1' + byte(i/405%9), '1' + byte(i/3645)})})
	}
	if w := audit.Check(m); w != "" {
		t.Error(w)
	}
	m.Nodes = append(m.Nodes, m.Nodes[0])
	if w := audit.Check(m); w != "ids" {
		t.Error(w)
	}
}
