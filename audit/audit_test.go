package audit_test

import (
	"math"
	"math/rand/v2"
	"slices"
	"testing"

	"cenotaph/api"
	"cenotaph/audit"
	"cenotaph/id"
	"cenotaph/item"
	"cenotaph/know"
	"cenotaph/mesh"
	"cenotaph/node"
	"cenotaph/sample"
	"cenotaph/store"
	"cenotaph/vec"
)

// The chapter's example.
func TestExample(t *testing.T) {
	m, _ := mesh.New(1)
	if audit.Check(m) != "" || !audit.Calm(m) {
		t.Error(audit.Check(m), audit.Calm(m))
	}
}

func TestFloors(t *testing.T) {
	for i, c := range []struct {
		change func(l []node.State)
		want   bool
	}{
		{func([]node.State) {}, true},
		{func(l []node.State) { l[0].Floor = nil }, true},
		{func(l []node.State) { l[0].Floor = vec.Vec{at("0", 2), at("01", 1), at("03", 2)} }, true},
		{func(l []node.State) { l[0].Floor = vec.Vec{at("0", 3)} }, false}, // 01 doesn't know of that
		{func(l []node.State) { l[0].Floor = vec.Vec{at("03", 3)} }, false},
		{func(l []node.State) { l[0].Floor = vec.Vec{at("0", 1), at("02", 1)} }, false},
		{func(l []node.State) { l[1].Floor = vec.Vec{at("0", 2), at("01", 1), at("03", 2)} }, true},
		{func(l []node.State) { l[1].Floor = vec.Vec{at("01", 2)} }, false}, // the root has a hole there
		{func(l []node.State) { l[1].Floor = vec.Vec{at("01", 3)} }, false},
		{func(l []node.State) { l[2].Floor = vec.Vec{at("0", 2)} }, true}, // it doesn't know of that itself
		{func(l []node.State) { l[2].Floor = vec.Vec{at("01", 2)} }, false},
		{func(l []node.State) { l[3].Floor = vec.Vec{at("03", 2)} }, true},
		{func(l []node.State) { l[3].Floor = vec.Vec{at("03", 3)} }, false},
		{func(l []node.State) { l[0].Floor, l[1].How = vec.Vec{at("0", 3)}, node.Retired }, true},
		{func(l []node.State) { l[0].Floor, l[1].How = vec.Vec{at("0", 3)}, node.Expelled }, true},
		{func(l []node.State) { l[1].Floor, l[0].How = vec.Vec{at("01", 3)}, node.Expelled }, true},
		{func(l []node.State) { l[1].Floor, l[0].How = vec.Vec{at("01", 4)}, node.Expelled }, false},
		{func(l []node.State) { l[0].How, l[1].How, l[3].Floor = 1, 2, vec.Vec{at("09", 9)} }, true}, // nobody is Live
		{func(l []node.State) { l[2].How = node.Live }, false},
		{func(l []node.State) { l[3].How = node.Live }, true},
		{func(l []node.State) { l[0].Gone, l[0].Know = vec.Vec{at("01", 1), at("03", 1)}, l[0].Know[:1] }, true},
		{func(l []node.State) { l[0].Gone = nil }, false}, // what was left out is known, and nothing else
	} {
		m := sound()
		if c.change(m.Nodes); audit.Floors(m) != c.want {
			t.Errorf("%d: %v", i, !c.want)
		}
	}
}

// calm is a Mesh in which nothing is left to be done, though 03 and 04 aren't Live.
func calm() mesh.Mesh {
	a := node.State{
		Id: "0", Seq: 3, Clock: 7, Know: know.Know{knows("0", 3), knows("02", 1)}, Gone: vec.Vec{at("03", 2)}, Floor: vec.Vec{at("03", 1)},
		Store: store.Store{heldOne(0, version("0", 1, 1), 1+1i, "a"), heldOne(3, version("02", 1, 5), 2i, "e"), heldOne(4, version("03", 2, 7), 9, "")},
		Zone:  sample.Zone("all"), Members: []id.Id{"0", "02"}, Certs: vec.Vec{at("03", 3)},
	}
	b := a
	b.Id, b.Seq, b.Clock, b.Floor, b.Members, b.Certs = "02", 1, 9, nil, nil, nil
	b.Zone = sample.Zone("half 1 0 5")
	b.Store = store.Store{stubOf(0, version("0", 1, 1), 1+1i), heldOne(3, version("02", 1, 5), 2i, "e"), heldOne(4, version("03", 2, 7), 9, "")}
	c := node.State{Id: "03", How: node.Retired, Know: know.Know{knows("03", 2, 5)}, Store: store.Store{deadOne(1, version("03", 1, 1))}}
	d := node.State{Id: "04", How: node.Expelled, Know: know.Know{knows("04", 2)}, Store: store.Store{stubOf(1, version("04", 1, 1), 0)}, Zone: sample.Zone("all")}
	return mesh.Mesh{Nodes: []node.State{d, a, c, b}}
}

func TestCalm(t *testing.T) {
	v := version("0", 1, 1)
	for i, c := range []struct {
		change func(d, a, c, b *node.State)
		want   bool
	}{
		{func(d, a, c, b *node.State) {}, true},
		{func(d, a, c, b *node.State) {
			a.Floor, b.Certs, b.Members, a.Rows, a.Clock, a.Kids = nil, a.Certs, nil, nil, 99, 5
		}, true},
		// who isn't Live counts for nothing, but those that are mayn't know of its events but by Gone
		{func(d, a, c, b *node.State) { d.How = node.Live }, false}, {func(d, a, c, b *node.State) { c.How = node.Live }, false},
		{func(d, a, c, b *node.State) { a.How = node.Retired }, false}, {func(d, a, c, b *node.State) { b.How = node.Expelled }, false},
		{func(d, a, c, b *node.State) { a.How, b.Know = node.Retired, b.Know[1:] }, true}, {func(d, a, c, b *node.State) { b.How, a.Know = 7, a.Know[:1] }, true},
		{func(d, a, c, b *node.State) { a.How, b.How = 1, 2 }, false}, {func(d, a, c, b *node.State) { a.How, b.How, c.How, d.How = 1, 1, 1, 1 }, false},
		// Know
		{func(d, a, c, b *node.State) { a.Know = know.Know{knows("0", 3)} }, false}, {func(d, a, c, b *node.State) { b.Know = nil }, false},
		{func(d, a, c, b *node.State) { a.Know, b.Know = nil, nil }, true}, {func(d, a, c, b *node.State) { a.Know = know.Know{knows("0", 4), knows("02", 1)} }, false},
		{func(d, a, c, b *node.State) { b.Know = know.Know{knows("0", 3), knows("02", 1, 3)} }, false},
		{func(d, a, c, b *node.State) { a.Know = know.Know{knows("0", 3, 5), knows("02", 1)}; b.Know = a.Know }, false},
		{func(d, a, c, b *node.State) { a.Know = know.Know{knows("0", 3), knows("02", 1, 3)}; b.Know = a.Know }, false},
		{func(d, a, c, b *node.State) { a.Know = know.Know{knows("0", 9), knows("02", 9)}; b.Know = a.Know }, true},
		{func(d, a, c, b *node.State) { a.Know = append(a.Know, knows("03", 2)); b.Know = a.Know }, false},
		{func(d, a, c, b *node.State) { a.Know = append(a.Know, knows("04", 2)); b.Know = a.Know }, false},
		{func(d, a, c, b *node.State) { a.Know = append(a.Know, knows("05", 1)); b.Know = a.Know }, false},
		{func(d, a, c, b *node.State) { a.Know = know.Know{knows("01", 1)}; b.Know = a.Know }, false},
		// Gone, whoever it tells of
		{func(d, a, c, b *node.State) { a.Gone = nil }, false}, {func(d, a, c, b *node.State) { a.Gone, b.Gone = nil, nil }, true},
		{func(d, a, c, b *node.State) { b.Gone = vec.Vec{at("03", 1)} }, false}, {func(d, a, c, b *node.State) { b.Gone = vec.Vec{at("04", 2)} }, false},
		{func(d, a, c, b *node.State) { b.Gone = vec.Vec{at("03", 2), at("05", 1)} }, false},
		// what is known in one by Know, in the other one by Gone
		{func(d, a, c, b *node.State) {
			b.Gone, b.Know = vec.Vec{at("02", 1), at("03", 2)}, know.Know{knows("0", 3)}
		}, false},
		// Store
		{func(d, a, c, b *node.State) { a.Store = a.Store[1:] }, false}, {func(d, a, c, b *node.State) { b.Store = b.Store[:2] }, false}, {func(d, a, c, b *node.State) { a.Store, b.Store = nil, nil }, true},
		{func(d, a, c, b *node.State) { b.Store[0].Ver.Seq = 2 }, false}, {func(d, a, c, b *node.State) { b.Store[0].Ver.Stamp = 2 }, false},
		{func(d, a, c, b *node.State) { b.Store[0].Ver.Id = "01" }, false}, {func(d, a, c, b *node.State) { b.Store[0].Key = 1 }, false},
		{func(d, a, c, b *node.State) { b.Store[2].Key, a.Store[2].Key = 31, 31 }, true},
		{func(d, a, c, b *node.State) { b.Store[1].Text = "other" }, true}, // that is Check's
		{func(d, a, c, b *node.State) { a.Store[0], b.Store[0] = deadOne(0, v), deadOne(0, v) }, false},
		{func(d, a, c, b *node.State) { a.Store[0] = deadOne(0, v) }, false}, {func(d, a, c, b *node.State) { b.Store[0] = deadOne(0, v) }, false},
		// each item in its Zone
		{func(d, a, c, b *node.State) { a.Store[0] = stubOf(0, v, 1+1i) }, false}, {func(d, a, c, b *node.State) { b.Store[0] = stubOf(0, v, 5) }, false},
		{func(d, a, c, b *node.State) { b.Store[0] = stubOf(0, v, 4) }, true}, {func(d, a, c, b *node.State) { b.Store[1] = stubOf(3, b.Store[1].Ver, 2i) }, true},
		{func(d, a, c, b *node.State) { b.Store[2] = stubOf(4, b.Store[2].Ver, 9) }, false}, {func(d, a, c, b *node.State) { b.Zone = sample.Zone("all") }, false},
		{func(d, a, c, b *node.State) { b.Zone = sample.Zone("half 1 0 1") }, false}, {func(d, a, c, b *node.State) { a.Zone, b.Zone = nil, nil }, true},
		{func(d, a, c, b *node.State) { a.Zone = sample.Zone("all,not") }, true},
	} {
		m := calm()
		if c.change(&m.Nodes[0], &m.Nodes[1], &m.Nodes[2], &m.Nodes[3]); audit.Calm(m) != c.want {
			t.Errorf("%d: %v", i, !c.want)
		}
	}
}

// Whoever of three differs from the others is found.
func TestCalmOfThree(t *testing.T) {
	for i := range 4 {
		m := calm()
		m.Nodes[0], m.Nodes[2] = m.Nodes[1], m.Nodes[1]
		m.Nodes[0].Id, m.Nodes[2].Id = "04", "03"
		if !audit.Calm(m) {
			t.Fatal(m)
		}
		m.Nodes[i].Gone = vec.Vec{at("03", 1)}
		if audit.Calm(m) {
			t.Error(i)
		}
		m.Nodes[i].Gone, m.Nodes[i].Store = vec.Vec{at("03", 2)}, m.Nodes[i].Store[:2]
		if audit.Calm(m) {
			t.Error(i)
		}
	}
}

// meshOf is a Mesh of replicas that have those items; of the second ones none is Live.
func meshOf(live [][]item.Item, others ...[]item.Item) mesh.Mesh {
	var m mesh.Mesh
	for i, l := range live {
		m.Nodes = append(m.Nodes, node.State{Id: id.Id([]byte{'0', '1' + byte(i)}), Store: l})
	}
	for i, l := range others {
		m.Nodes = slices.Insert(m.Nodes, i, node.State{Id: id.Id([]byte{'0', '9' - byte(i)}), How: 1 + i%2, Store: l})
	}
	return m
}

func TestNewest(t *testing.T) {
	a, b, c := version("0", 1, 1), version("01", 7, 1), version("0", 2, 2)
	type list = []item.Item
	for i, x := range []struct {
		m    mesh.Mesh
		want list
	}{
		{mesh.Mesh{}, nil}, {meshOf([]list{nil, nil}), nil},
		{meshOf([]list{{deadOne(3, a)}}), list{deadOne(3, a)}}, {meshOf(nil, list{deadOne(3, a)}, list{deadOne(3, a)}), nil},
		{meshOf([]list{{heldOne(3, a, 0, "a")}}, list{heldOne(3, c, 0, "c")}), list{heldOne(3, a, 0, "a")}},
		{meshOf([]list{{stubOf(3, a, 0)}}, list{heldOne(3, a, 0, "c")}, list{heldOne(4, a, 0, "c")}), list{stubOf(3, a, 0)}},
		// of a greater stamp, or of the Id behind
		{meshOf([]list{{heldOne(3, a, 0, "a")}, {deadOne(3, b)}}), list{deadOne(3, b)}}, {meshOf([]list{{deadOne(3, b)}, {heldOne(3, a, 0, "a")}}), list{deadOne(3, b)}},
		{meshOf([]list{{heldOne(3, b, 0, "a")}, {stubOf(3, c, 5)}}), list{stubOf(3, c, 5)}}, {meshOf([]list{{stubOf(3, c, 5)}, {heldOne(3, b, 0, "a")}}), list{stubOf(3, c, 5)}},
		{meshOf([]list{{deadOne(3, a)}, {heldOne(3, c, 1, "")}, {deadOne(3, b)}}), list{heldOne(3, c, 1, "")}},
		// of one version one that is Held, and of several such the first replica's
		{meshOf([]list{{stubOf(3, a, 0)}, {heldOne(3, a, 0, "a")}}), list{heldOne(3, a, 0, "a")}}, {meshOf([]list{{heldOne(3, a, 0, "a")}, {stubOf(3, a, 0)}}), list{heldOne(3, a, 0, "a")}},
		{meshOf([]list{{stubOf(3, a, 0)}, {heldOne(3, a, 0, "b")}, {heldOne(3, a, 0, "a")}}), list{heldOne(3, a, 0, "b")}},
		{meshOf([]list{{heldOne(3, a, 2, "b")}, {heldOne(3, a, 0, "a")}}), list{heldOne(3, a, 2, "b")}}, {meshOf([]list{{stubOf(3, a, 2)}, {stubOf(3, a, 1)}, {deadOne(3, a)}}), list{stubOf(3, a, 2)}},
		{meshOf([]list{{heldOne(3, a, 0, "a")}, {stubOf(3, c, 0)}, {heldOne(3, a, 0, "b")}, {heldOne(3, c, 0, "c")}}), list{heldOne(3, c, 0, "c")}},
		// rising by the keys
		{meshOf([]list{{deadOne(9, a), deadOne(30, a)}, {deadOne(0, a), deadOne(9, c)}, {stubOf(31, a, 0)}}), list{deadOne(0, a), deadOne(9, c), deadOne(30, a), stubOf(31, a, 0)}},
		// of Stores that aren't Right, too
		{meshOf([]list{{deadOne(9, c), deadOne(3, a), deadOne(9, a), stubOf(-5, b, 0)}, {deadOne(99, a)}}), list{stubOf(-5, b, 0), deadOne(3, a), deadOne(9, c), deadOne(99, a)}},
	} {
		if l := audit.Newest(x.m); !slices.Equal(l, x.want) {
			t.Errorf("%d: %v, not %v", i, l, x.want)
		}
	}
}

// Of all Stores, in whatever order, each key has the newest.
func TestNewestOfMany(t *testing.T) {
	for seed := range uint64(300) {
		r := rand.New(rand.NewPCG(seed, 18))
		m := meshOf(make([][]item.Item, 1+r.IntN(12)), make([][]item.Item, r.IntN(3))...)
		for i := range m.Nodes {
			for key := range api.MaxKeys {
				v := version(id.Id([]byte{'0', '1' + byte(r.IntN(3))}), 1, 1+r.IntN(3))
				if x := (item.Item{Key: key, Ver: v, Held: r.IntN(3) == 0, Text: string([]byte{'a' + byte(r.IntN(26))})}); r.IntN(3) == 0 {
					m.Nodes[i].Store = append(m.Nodes[i].Store, x)
				}
			}
		}
		var want []item.Item
		for key := range api.MaxKeys {
			if x, found := newestOf(m, key); found {
				want = append(want, x)
			}
		}
		if l := audit.Newest(m); !slices.Equal(l, want) {
			t.Fatalf("%d: %v, not %v", seed, l, want)
		}
	}
}

// newestOf is the first item of that key, of those that are Live, such that no other one goes ahead of it.
func newestOf(m mesh.Mesh, key int) (item.Item, bool) {
	var all []item.Item
	for _, s := range m.Nodes {
		if x, found := store.Get(s.Store, key); found && s.How == node.Live {
			all = append(all, x)
		}
	}
	for _, x := range all {
		if !slices.ContainsFunc(all, func(y item.Item) bool { return item.Newer(y.Ver, x.Ver) || y.Ver == x.Ver && y.Held && !x.Held }) {
			return x, true
		}
	}
	return item.Item{}, false
}

// It is asked of any Meshes.
func TestNoCallPanics(t *testing.T) {
	all := []mesh.Mesh{{Nodes: []node.State{{}, {}}, Most: 99}}
	for place := range 4 {
		for _, s := range sample.WrongStates(sound().Nodes[place]) {
			for range 2 {
				m := sound()
				m.Nodes[place] = s
				all = append(all, m)
				s.How = node.Live
			}
			m := calm()
			m.Nodes[place] = s
			all = append(all, m)
		}
	}
	for _, m := range all {
		m.Nodes[0].Store = append(m.Nodes[0].Store, item.Item{Spot: complex(math.NaN(), 0)}, item.Item{Spot: complex(math.Inf(1), math.NaN())})
		if audit.Check(m) == "" {
			t.Errorf("of %v it has nothing to say", m.Nodes)
		}
		audit.Floors(m)
		audit.Calm(m)
		audit.Newest(m)
	}
}
