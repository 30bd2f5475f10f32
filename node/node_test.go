package node_test

import (
	"math"
	"testing"

	"cenotaph/api"
	"cenotaph/cert"
	"cenotaph/id"
	"cenotaph/know"
	"cenotaph/matrix"
	"cenotaph/node"
	"cenotaph/sample"
	"cenotaph/store"
	"cenotaph/vec"
	"cenotaph/zone"
)

// The names by which the tests speak of what package sample has.
var (
	at, row, knows, version  = sample.At, sample.Row, sample.Knows, sample.Version
	deadOne, stubOf, heldOne = sample.Dead, sample.Stub, sample.Held
	same                     = sample.Same
)

func zoneOf(t testing.TB, text string) zone.Zone {
	t.Helper()
	z, ok := zone.Parse(text)
	if !ok {
		t.Fatalf("%q is no zone", text)
	}
	return z
}

// rich is a State that has something of each kind: 01, that was named by the root, heard of 02 and 03, and gave 03 up.
func rich(t testing.TB) node.State {
	return node.State{
		Id: "01", Kids: 1, Seq: 3, Clock: 9,
		Know:  know.Know{knows("0", 2, 4, 6), knows("01", 3), knows("02", 0, 3)},
		Gone:  vec.Vec{at("03", 4)},
		Floor: vec.Vec{at("0", 1)},
		Store: store.Store{
			heldOne(0, version("0", 2, 2), 3+4i, "in"), deadOne(2, version("01", 1, 3)), stubOf(3, version("0", 4, 5), 1i),
			stubOf(4, version("02", 3, 6), 9), heldOne(7, version("01", 3, 9), 9, "out"), deadOne(9, version("03", 4, 4)),
			stubOf(31, version("0", 6, 8), -5),
		},
		Zone:    zoneOf(t, "disc 0 0 5"),
		Members: []id.Id{"0", "01", "011", "02", "03"},
		Certs:   cert.List{at("03", 5)},
		Rows:    matrix.Matrix{row("0", at("0", 2), at("01", 1)), row("01", at("0", 2), at("01", 3), at("03", 4)), row("02", at("0", 1))},
	}
}

func TestRoot(t *testing.T) {
	want := node.State{Id: "0", How: node.Live, Zone: zone.Zone{{Op: zone.All}}, Members: []id.Id{"0"}}
	if got := node.Root(); !same(got, want) {
		t.Error(got)
	}
	if node.Live != 0 || node.Retired != 1 || node.Expelled != 2 {
		t.Error(node.Live, node.Retired, node.Expelled)
	}
	if k := node.All(node.Root()); len(k) != 0 {
		t.Error(k)
	}
	if got := node.Settle(node.Root()); !same(got, want) {
		t.Error(got)
	}
}

func TestRootIsNewEachTime(t *testing.T) {
	s := node.Root()
	s.Members[0], s.Zone[0].Op = "09", 0
	if got := node.Root(); got.Members[0] != "0" || got.Zone[0].Op != zone.All {
		t.Error(got)
	}
}

// The chapter's example.
func TestExample(t *testing.T) {
	s, e := node.Write(node.Root(), 3, 0, "text")
	if e != api.OK {
		t.Fatal(e)
	}
	s, c, e := node.Child(s)
	if e != api.OK {
		t.Fatal(e)
	}
	if text, e := node.Read(c, 3); text != "text" || e != api.OK {
		t.Error(text, e)
	}
	c, e = node.Delete(c, 3)
	if e != api.OK {
		t.Fatal(e)
	}
	if text, e := node.Read(c, 3); text != "" || e != api.ErrNone {
		t.Error(text, e)
	}
	if text, e := node.Read(s, 3); text != "text" || e != api.OK {
		t.Error(text, e)
	}
}

func TestAll(t *testing.T) {
	for _, c := range []struct {
		know know.Know
		gone vec.Vec
		want know.Know
	}{
		{nil, nil, nil},
		{know.Know{}, vec.Vec{}, nil},
		{know.Know{knows("0", 2, 4)}, nil, know.Know{knows("0", 2, 4)}},
		{nil, vec.Vec{at("01", 3)}, know.Know{knows("01", 3)}},
		{know.Know{knows("0", 2, 4), knows("02", 1)}, vec.Vec{at("01", 3), at("03", api.MaxSeq)},
			know.Know{knows("0", 2, 4), knows("01", 3), knows("02", 1), knows("03", api.MaxSeq)}},
		{know.Know{knows("01", 0, 2)}, vec.Vec{at("0", 1)}, know.Know{knows("0", 1), knows("01", 0, 2)}},
	} {
		if got := node.All(node.State{Id: "0", Know: c.know, Gone: c.gone}); !know.Same(got, c.want) || !know.Right(got) {
			t.Errorf("All of %v and %v is %v", c.know, c.gone, got)
		}
	}
}

func TestLearn(t *testing.T) {
	for i, c := range []struct {
		k, wantKnow know.Know
		wantGone    vec.Vec
	}{
		{nil, know.Know{knows("0", 2)}, vec.Vec{at("01", 3), at("02", 1)}},
		{know.Know{}, know.Know{knows("0", 2)}, vec.Vec{at("01", 3), at("02", 1)}},
		{know.Know{knows("0", 1)}, know.Know{knows("0", 2)}, vec.Vec{at("01", 3), at("02", 1)}},
		{know.Know{knows("0", 0, 3, 5)}, know.Know{knows("0", 3, 5)}, vec.Vec{at("01", 3), at("02", 1)}},
		{know.Know{knows("03", 0, 2)}, know.Know{knows("0", 2), knows("03", 0, 2)}, vec.Vec{at("01", 3), at("02", 1)}},
		{know.Know{knows("01", 2)}, know.Know{knows("0", 2)}, vec.Vec{at("01", 3), at("02", 1)}},
		{know.Know{knows("01", 0, 2, 3)}, know.Know{knows("0", 2)}, vec.Vec{at("01", 3), at("02", 1)}},
		{know.Know{knows("01", 3)}, know.Know{knows("0", 2)}, vec.Vec{at("01", 3), at("02", 1)}},
		{know.Know{knows("01", 4)}, know.Know{knows("0", 2), knows("01", 4)}, vec.Vec{at("02", 1)}},
		{know.Know{knows("01", 0, 4)}, know.Know{knows("0", 2), knows("01", 4)}, vec.Vec{at("02", 1)}},
		{know.Know{knows("01", 0, 5)}, know.Know{knows("0", 2), knows("01", 3, 5)}, vec.Vec{at("02", 1)}},
		{know.Know{knows("01", 1, 3, 7)}, know.Know{knows("0", 2), knows("01", 3, 7)}, vec.Vec{at("02", 1)}},
		{know.Know{knows("01", 9), knows("02", 1)}, know.Know{knows("0", 2), knows("01", 9)}, vec.Vec{at("02", 1)}},
		{know.Know{knows("0", 4), knows("01", 4), knows("02", 0, 3), knows("03", 1)},
			know.Know{knows("0", 4), knows("01", 4), knows("02", 1, 3), knows("03", 1)}, nil},
		{know.Know{knows("02", api.MaxSeq)}, know.Know{knows("0", 2), knows("02", api.MaxSeq)}, vec.Vec{at("01", 3)}},
	} {
		s := rich(t)
		s.Know, s.Gone = know.Know{knows("0", 2)}, vec.Vec{at("01", 3), at("02", 1)}
		want := s
		want.Know, want.Gone = c.wantKnow, c.wantGone
		if got := node.Learn(s, c.k); !same(got, want) {
			t.Errorf("%d: %v", i, got)
		}
	}
}

// events is what of 01 the bits of n tell: bit 0 tells of its first event.
func events(n int) know.Know {
	var k know.Know
	for i := range 5 {
		if n>>i&1 == 1 {
			k = know.Add(k, "01", i+1)
		}
	}
	return k
}

func TestLearnOfAllSmall(t *testing.T) {
	for n := range 32 {
		for gone := range 5 {
			if n > 0 && gone > 0 {
				continue // no id stands in both
			}
			s := node.State{Id: "0", Know: events(n), Gone: vec.Set(nil, "01", gone)}
			for k := range 32 {
				got := node.Learn(s, events(k))
				both := n | k | (1<<gone - 1)
				if !know.Same(node.All(got), events(both)) {
					t.Fatalf("%v learns %v: %v", s, events(k), got)
				}
				stays := gone > 0 && both == 1<<gone-1
				if stays != (vec.Of(got.Gone, "01") == gone && gone > 0) || stays != (gone > 0 && len(got.Know) == 0) || len(got.Gone)+len(got.Know) > 1 {
					t.Fatalf("%v learns %v: %v", s, events(k), got)
				}
			}
		}
	}
}

func TestLearnAndMetaDoNotSettle(t *testing.T) {
	if s := node.Learn(node.Root(), know.Know{knows("0", 2)}); len(s.Rows) != 0 {
		t.Error(s.Rows)
	}
	s := node.Learn(node.Root(), know.Know{knows("0", 2)})
	if s := node.Meta(s, []id.Id{"01"}, cert.List{at("02", 1)}, nil); len(s.Rows) != 0 {
		t.Error(s.Rows)
	}
}

func TestSettle(t *testing.T) {
	for i, c := range []struct {
		know know.Know
		gone vec.Vec
		rows matrix.Matrix
		want matrix.Matrix
	}{
		{nil, nil, nil, nil},
		{know.Know{knows("0", 0, 2)}, nil, nil, nil},
		{know.Know{knows("0", 2, 4)}, nil, nil, matrix.Matrix{row("01", at("0", 2))}},
		{know.Know{knows("0", 2, 4)}, vec.Vec{at("03", 5)}, nil, matrix.Matrix{row("01", at("0", 2), at("03", 5))}},
		{nil, vec.Vec{at("03", 5)}, nil, matrix.Matrix{row("01", at("03", 5))}},
		{know.Know{knows("0", 2)}, nil, matrix.Matrix{row("0", at("0", 9)), row("01", at("0", 1), at("02", 7)), row("02", at("0", 1))},
			matrix.Matrix{row("0", at("0", 9)), row("01", at("0", 2), at("02", 7)), row("02", at("0", 1))}},
		{know.Know{knows("0", 2)}, nil, matrix.Matrix{row("01", at("0", 3))}, matrix.Matrix{row("01", at("0", 3))}},
		{nil, nil, matrix.Matrix{row("01", at("0", 3))}, matrix.Matrix{row("01", at("0", 3))}},
	} {
		s := rich(t)
		s.Know, s.Gone, s.Rows = c.know, c.gone, c.rows
		want := s
		want.Rows = c.want
		got := node.Settle(s)
		if !same(got, want) {
			t.Errorf("%d: %v", i, got.Rows)
		}
		if again := node.Settle(got); !same(again, got) {
			t.Errorf("%d: settled twice: %v", i, again.Rows)
		}
	}
}

func TestMeta(t *testing.T) {
	s := rich(t)
	want := s
	want.Members = []id.Id{"0", "01", "011", "012", "02", "03", "04"}
	want.Certs = cert.List{at("02", 1), at("03", 7)}
	want.Rows = matrix.Matrix{row("0", at("0", 5), at("01", 1)), row("01", at("0", 2), at("01", 3), at("03", 4)), row("011", at("0", 1)), row("02", at("0", 1))}
	members := []id.Id{"012", "02", "04"}
	certs := cert.List{at("02", 1), at("03", 7)}
	rows := matrix.Matrix{row("0", at("0", 5)), row("011", at("0", 1))}
	if got := node.Meta(s, members, certs, rows); !same(got, want) {
		t.Error(got)
	}
	if got := node.Meta(node.Meta(s, members, certs, rows), members, certs, rows); !same(got, want) {
		t.Error("twice", got)
	}
	for i, got := range []node.State{node.Meta(s, nil, nil, nil), node.Meta(s, []id.Id{}, cert.List{}, matrix.Matrix{}),
		node.Meta(s, s.Members[1:3], cert.List{at("03", 4)}, s.Rows[1:])} {
		if !same(got, s) {
			t.Error(i, got)
		}
	}
}

// Of whom there is a certificate, who was it, and how is it then?
func TestMetaRetires(t *testing.T) {
	for _, c := range []struct {
		old, certs cert.List
		how, want  int
	}{
		{nil, nil, node.Live, node.Live},
		{nil, cert.List{at("0", 1), at("011", 1), at("02", 2)}, node.Live, node.Live},
		{nil, cert.List{at("01", 1)}, node.Live, node.Retired},
		{nil, cert.List{at("01", api.MaxSeq), at("02", 2)}, node.Live, node.Retired},
		{cert.List{at("01", 1)}, nil, node.Live, node.Retired},
		{nil, cert.List{at("01", 1)}, node.Retired, node.Retired},
		{nil, nil, node.Retired, node.Retired},
		{nil, cert.List{at("01", 1)}, node.Expelled, node.Expelled},
		{cert.List{at("01", 1)}, cert.List{at("01", 1)}, node.Expelled, node.Expelled},
		{nil, nil, node.Expelled, node.Expelled},
	} {
		s := rich(t)
		s.Certs, s.How = c.old, c.how
		want := s
		want.Certs, want.How = cert.Merge(c.old, c.certs), c.want
		if got := node.Meta(s, nil, c.certs, nil); !same(got, want) {
			t.Errorf("one that is %d, with %v, hears of %v: %d, %v", c.how, c.old, c.certs, got.How, got.Certs)
		}
	}
}

var keys = []int{math.MinInt, -32, -1, 0, 1, 2, 3, 4, 7, 9, 30, 31, 32, 33, math.MaxInt}
