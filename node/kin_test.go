package node_test

import (
	"math"
	"testing"

	"cenotaph/api"
	"cenotaph/cert"
	"cenotaph/id"
	"cenotaph/item"
	"cenotaph/know"
	"cenotaph/matrix"
	"cenotaph/node"
	"cenotaph/store"
	"cenotaph/vec"
	"cenotaph/zone"
)

func TestChildErrors(t *testing.T) {
	for _, how := range hows {
		for _, kids := range []int{0, 1, 8, 9, 10, math.MaxInt} {
			for _, name := range []id.Id{"01", "01234", "012345"} {
				s := rich(t)
				s.How, s.Kids, s.Id = how, kids, name
				want := api.OK
				switch {
				case how != node.Live:
					want = api.ErrState
				case kids >= 9 || len(name) == 6:
					want = api.ErrFull
				}
				got, child, e := node.Child(s)
				if e != want || want != api.OK && (!same(got, s) || !same(child, node.State{})) {
					t.Errorf("%q, that is %d, with %d kids: %d, %v, %v", name, how, kids, e, got, child)
				}
			}
		}
	}
}

func TestChild(t *testing.T) {
	s := rich(t)
	wantParent, wantChild := rich(t), rich(t)
	wantParent.Kids = 2
	wantParent.Members = []id.Id{"0", "01", "011", "012", "02", "03"}
	wantParent.Rows = matrix.Matrix{s.Rows[0], s.Rows[1], row("012", at("0", 2), at("01", 3), at("03", 4)), s.Rows[2]}
	wantChild.Id, wantChild.Kids, wantChild.Seq = "012", 0, 0
	wantChild.Members, wantChild.Rows = wantParent.Members, wantParent.Rows
	parent, child, e := node.Child(s)
	if e != api.OK || !same(parent, wantParent) {
		t.Error(e, parent)
	}
	if !same(child, wantChild) {
		t.Error(child)
	}
}

// Who knows nothing names one of whom there is no Row, since a Row isn't empty.
func TestChildOfOneThatKnowsNothing(t *testing.T) {
	s, c, e := node.Child(node.Root())
	want := node.Root()
	want.Members = []id.Id{"0", "01"}
	wantChild := want
	want.Kids, wantChild.Id = 1, "01"
	if e != api.OK || !same(s, want) || !same(c, wantChild) {
		t.Error(e, s, c)
	}
}

// What stands beyond a hole is known to the child, but no Row tells of it.
func TestChildOfOneWithHoles(t *testing.T) {
	s := node.Learn(node.Root(), know.Know{knows("0", 0, 2), knows("02", 1, 5)})
	s, c, e := node.Child(s)
	if e != api.OK || !know.Same(node.All(c), know.Know{knows("0", 0, 2), knows("02", 1, 5)}) {
		t.Error(e, c)
	}
	if want := row("01", at("02", 1)); !matrix.Same(c.Rows, matrix.Matrix{want}) {
		t.Error(c.Rows)
	}
	if want := row("01", at("02", 1)); !matrix.Same(s.Rows, matrix.Matrix{row("0", at("02", 1)), want}) {
		t.Error(s.Rows)
	}
}

// family is s and all that come from it, till nobody can name one any more; at most so deep.
func family(t *testing.T, s node.State, deep int) []node.State {
	if id.Depth(s.Id) == deep {
		return []node.State{s}
	}
	var all []node.State
	for {
		var child node.State
		var e api.Errno
		if s, child, e = node.Child(s); e != api.OK {
			if e != api.ErrFull || s.Kids != api.MaxKids {
				t.Fatal(e, s)
			}
			return append(all, s)
		}
		all = append(all, family(t, child, deep)...)
	}
}

func TestNamesDiffer(t *testing.T) {
	s, _ := node.Write(node.Root(), 1, 0, "a")
	seen := map[id.Id]bool{}
	for _, x := range family(t, s, 4) {
		if seen[x.Id] || !id.Right(x.Id) || !id.Has(x.Members, x.Id) {
			t.Fatalf("%q: %v", x.Id, seen[x.Id])
		}
		seen[x.Id] = true
		if text, e := node.Read(x, 1); text != "a" || e != api.OK {
			t.Fatalf("%q reads %q, %d", x.Id, text, e)
		}
	}
	if len(seen) != 1+9+81+729 {
		t.Error(len(seen))
	}
}

// From the root down to six signs; and a name isn't handed out once more when its bearer went.
func TestNamesOfAChain(t *testing.T) {
	s := node.Root()
	for range api.MaxDepth - 1 {
		var e api.Errno
		if _, s, e = node.Child(s); e != api.OK {
			t.Fatal(e)
		}
	}
	if s.Id != "011111" {
		t.Error(s.Id)
	}
	if _, _, e := node.Child(s); e != api.ErrFull {
		t.Error(e)
	}
	root, c, _ := node.Child(node.Root())
	_, root, e := node.Retire(c, root)
	if e != api.OK {
		t.Fatal(e)
	}
	if _, c, e = node.Child(root); e != api.OK || c.Id != "02" {
		t.Error(e, c.Id)
	}
}

// heirOf is 02, that heard of the same as rich, and knows some of it.
func heirOf(t testing.TB) node.State {
	return node.State{
		Id: "02", Kids: 2, Seq: 3, Clock: 7,
		Know:  know.Know{knows("0", 4), knows("01", 1), knows("02", 3)},
		Gone:  vec.Vec{at("03", 4), at("04", 1)},
		Floor: vec.Vec{at("03", 2)},
		Store: store.Store{
			stubOf(0, version("0", 2, 2), 3+4i), heldOne(3, version("0", 4, 5), 1i, "b"), stubOf(4, version("02", 3, 6), 9),
			heldOne(7, version("02", 2, 5), 1, "c"),
		},
		Zone:    zoneOf(t, "disc 1 0 2"),
		Members: []id.Id{"0", "01", "02", "03", "04"},
		Certs:   cert.List{at("03", 3), at("04", 2)},
		Rows:    matrix.Matrix{row("0", at("0", 3)), row("02", at("0", 4), at("01", 1), at("02", 3), at("03", 4), at("04", 1))},
	}
}

func TestRetire(t *testing.T) {
	x, heir := rich(t), heirOf(t)
	wantX, want := rich(t), heirOf(t)
	wantX.How = node.Retired
	want.Clock = 9
	want.Know = know.Know{knows("0", 4, 6), knows("01", 3), knows("02", 3)}
	want.Store = store.Store{
		heldOne(0, version("0", 2, 2), 3+4i, "in"), // it knew of it, and had a stub
		// under 2 there is none: it knew of that deletion, and let it go
		heldOne(3, version("0", 4, 5), 1i, "b"),
		stubOf(4, version("02", 3, 6), 9),
		heldOne(7, version("01", 3, 9), 9, "out"),
		// under 9 there is none either
		stubOf(31, version("0", 6, 8), -5),
	}
	want.Members = []id.Id{"0", "01", "011", "02", "03", "04"}
	want.Certs = cert.List{at("01", 4), at("03", 5), at("04", 2)}
	want.Rows = matrix.Matrix{row("0", at("0", 3), at("01", 1)), row("01", at("0", 2), at("01", 3), at("03", 4)),
		row("02", at("0", 4), at("01", 3), at("02", 3), at("03", 4), at("04", 1))}
	gotX, got, e := node.Retire(x, heir)
	if e != api.OK || !same(gotX, wantX) {
		t.Error(e, gotX)
	}
	if !same(got, want) {
		t.Errorf("\n%v\n%v", got, want)
	}
	if a, b, e := node.Retire(gotX, got); e != api.ErrState || !same(a, gotX) || !same(b, got) {
		t.Error(e)
	}
}

func TestRetireErrors(t *testing.T) {
	errors := []api.Errno{api.ErrState, api.ErrState, api.ErrArg, api.ErrRoot, api.ErrStale, api.ErrStale, api.ErrHeld}
	for n := range 1 << len(errors) {
		wrong := func(i int) bool { return n>>i&1 == 1 }
		x, heir := rich(t), heirOf(t)
		x.How = pick(wrong(0), node.Retired, node.Live)
		heir.How = pick(wrong(1), node.Expelled, node.Live)
		x.Id = pick[id.Id](wrong(3), "0", "01")
		heir.Id = pick(wrong(2), x.Id, "02")
		x.Floor = vec.Vec{at("0", pick(wrong(4), 5, 4))}
		heir.Floor = vec.Vec{at("03", pick(wrong(5), 5, 4))}
		heir.Zone = zoneOf(t, pick(wrong(6), "all", "disc 1 0 2"))
		gotX, got, e := node.Retire(x, heir)
		if want := first(errors, n); e != want || want != api.OK && (!same(gotX, x) || !same(got, heir)) {
			t.Errorf("%07b: %d, %v, %v", n, e, gotX, got)
		}
	}
	for _, how := range hows[1:] {
		x, heir := rich(t), heirOf(t)
		x.How = how
		if _, _, e := node.Retire(x, heir); e != api.ErrState {
			t.Errorf("%d: %d", how, e)
		}
		x.How, heir.How = node.Live, how
		if _, _, e := node.Retire(x, heir); e != api.ErrState {
			t.Errorf("%d: %d", how, e)
		}
	}
}

// A Floor is held against all that the other one knows: Know without what stands beyond a hole, and Gone.
func TestRetireOfOneWhoKnowsTooLittle(t *testing.T) {
	for i, c := range []struct {
		floor vec.Vec
		know  know.Know
		gone  vec.Vec
		want  api.Errno
	}{
		{nil, nil, nil, api.OK},
		{vec.Vec{at("03", 1)}, nil, nil, api.ErrStale},
		{vec.Vec{at("03", 2)}, know.Know{knows("03", 2)}, nil, api.OK},
		{vec.Vec{at("03", 2)}, know.Know{knows("03", 1)}, nil, api.ErrStale},
		{vec.Vec{at("03", 2)}, know.Know{knows("03", 0, 2)}, nil, api.ErrStale},
		{vec.Vec{at("03", 2)}, know.Know{knows("03", 1, 3)}, nil, api.ErrStale},
		{vec.Vec{at("03", 2)}, nil, vec.Vec{at("03", 2)}, api.OK},
		{vec.Vec{at("03", 2)}, nil, vec.Vec{at("03", 1)}, api.ErrStale},
		{vec.Vec{at("03", 2), at("04", 1)}, know.Know{knows("04", 1)}, vec.Vec{at("03", 2)}, api.OK},
		{vec.Vec{at("03", 2), at("04", 2)}, know.Know{knows("04", 1)}, vec.Vec{at("03", 2)}, api.ErrStale},
	} {
		lacks := node.State{Id: "01", Zone: zone.Everywhere(), Members: []id.Id{"01"}, Know: c.know, Gone: c.gone}
		has := node.State{Id: "02", Zone: zone.Everywhere(), Members: []id.Id{"02"}, Know: know.From(c.floor), Floor: c.floor}
		if _, _, e := node.Retire(lacks, has); e != c.want {
			t.Errorf("%d: it goes: %d", i, e)
		}
		if _, _, e := node.Retire(has, lacks); e != c.want {
			t.Errorf("%d: it is the heir: %d", i, e)
		}
	}
}

// Which item of who goes holds it back, if its event is the third one of 04?
func TestRetireOfATextThatLacks(t *testing.T) {
	v := version("04", 3, 5)
	for i, c := range []struct {
		x    item.Item
		know know.Know
		gone vec.Vec
		zone string
		want api.Errno
	}{
		{stubOf(5, v, 2), nil, nil, "all", api.ErrHeld},
		{stubOf(5, v, 2), nil, nil, "disc 2 0 0", api.ErrHeld},
		{stubOf(5, v, 2), nil, nil, "disc 2 0 0,not", api.OK},
		{stubOf(5, v, 2), know.Know{knows("04", 0, 3)}, nil, "all", api.OK},
		{stubOf(5, v, 2), know.Know{knows("04", 3)}, nil, "all", api.OK},
		{stubOf(5, v, 2), know.Know{knows("04", 2)}, nil, "all", api.ErrHeld},
		{stubOf(5, v, 2), know.Know{knows("04", 2, 4)}, nil, "all", api.ErrHeld},
		{stubOf(5, v, 2), nil, vec.Vec{at("04", 3)}, "all", api.OK},
		{stubOf(5, v, 2), nil, vec.Vec{at("04", 2)}, "all", api.ErrHeld},
		{heldOne(5, v, 2, ""), nil, nil, "all", api.OK},
		{deadOne(5, v), nil, nil, "all", api.OK},
	} {
		x := node.State{Id: "01", Zone: zoneOf(t, "all,not"), Members: []id.Id{"01"}, Clock: 5, Know: know.Know{knows("04", 3)},
			Store: store.Store{deadOne(1, version("04", 1, 1)), c.x, heldOne(6, version("04", 2, 4), 2, "d")}}
		heir := node.State{Id: "02", Zone: zoneOf(t, c.zone), Members: []id.Id{"02"}, Clock: 6, Know: c.know, Gone: c.gone}
		if _, _, e := node.Retire(x, heir); e != c.want {
			t.Errorf("%d: %d", i, e)
		}
	}
}

// What stands under a key when the heir has one item, and the other one comes; does the heir know of its event?
func TestInheritance(t *testing.T) {
	old, middle, young := version("0", 1, 1), version("04", 1, 2), version("04", 2, 3)
	for i, c := range []struct {
		has, comes item.Item
		known      bool
		takes      bool
	}{
		{heldOne(5, old, 2, "a"), heldOne(5, middle, 2, "b"), false, true},
		{heldOne(5, young, 2, "a"), heldOne(5, middle, 2, "b"), false, false},
		{deadOne(5, young), heldOne(5, middle, 2, "b"), false, false},
		{heldOne(5, old, 2, "a"), deadOne(5, middle), false, true},
		{heldOne(5, old, 2, "a"), stubOf(5, middle, 9), false, true},
		{heldOne(5, old, 2, "a"), heldOne(5, middle, 2, "b"), true, false}, // it had it, and gave it up
		{heldOne(5, young, 2, "a"), heldOne(5, middle, 2, "b"), true, false},
		{stubOf(5, middle, 2), heldOne(5, middle, 2, "b"), true, true},
		{stubOf(5, middle, 9), heldOne(5, middle, 9, ""), true, true},
		{heldOne(5, middle, 2, "b"), stubOf(5, middle, 2), true, false},
		{heldOne(5, middle, 2, "b"), heldOne(5, middle, 2, "b"), true, false},
		{stubOf(5, middle, 2), stubOf(5, middle, 2), true, false},
		{deadOne(5, middle), deadOne(5, middle), true, false},
		{stubOf(5, young, 2), heldOne(5, middle, 2, "b"), true, false},
		{stubOf(5, old, 2), heldOne(5, middle, 2, "b"), true, false},
		{heldOne(6, old, 2, "a"), heldOne(5, middle, 2, "b"), true, false},
		{heldOne(6, old, 2, "a"), deadOne(5, middle), true, false},
		{heldOne(6, old, 2, "a"), heldOne(5, middle, 2, "b"), false, true},
		{heldOne(6, old, 2, "a"), deadOne(5, middle), false, true},
	} {
		for _, gone := range []bool{false, true} {
			x := node.State{Id: "01", Zone: zone.Everywhere(), Members: []id.Id{"01"}, Clock: 3, Know: know.Know{knows("0", 1), knows("04", 2)}, Store: store.Store{c.comes}}
			heir := node.State{Id: "02", Zone: zoneOf(t, "disc 0 0 5"), Members: []id.Id{"02"}, Clock: 3, Know: know.Know{knows("0", 1)}, Store: store.Store{c.has}}
			switch {
			case c.known && gone:
				heir.Gone = vec.Vec{at("04", 2)}
			case c.known:
				heir.Know = append(heir.Know, knows("04", 2))
			}
			want := heir.Store
			if c.takes {
				want, _ = store.Put(store.Drop(heir.Store, 5), c.comes)
			}
			if _, got, e := node.Retire(x, heir); e != api.OK || !store.Same(got.Store, want) {
				t.Errorf("%d: %d, %v", i, e, got.Store)
			}
		}
	}
}

func TestRetireLeavesTheGreaterClock(t *testing.T) {
	for _, c := range [][3]int{{0, 0, 0}, {1, 0, 1}, {0, 1, 1}, {7, 5, 7}, {5, 7, 7}, {api.MaxSeq - 1, 7, api.MaxSeq - 1}} {
		x, heir := rich(t), heirOf(t)
		x.Clock, heir.Clock = c[0], c[1]
		gotX, got, e := node.Retire(x, heir)
		if e != api.OK || got.Clock != c[2] || gotX.Clock != c[0] {
			t.Errorf("%v: %d, %d, %d", c, e, got.Clock, gotX.Clock)
		}
	}
}

// Of two certificates the greater last counts; and who made no event has one as well.
func TestRetireMakesACertificate(t *testing.T) {
	for _, c := range []struct {
		seq  int
		old  cert.List
		last int
	}{{0, nil, 0}, {3, nil, 3}, {3, cert.List{at("01", 2)}, 3}, {3, cert.List{at("01", 9)}, 8}, {api.MaxSeq - 1, nil, api.MaxSeq - 1}} {
		x, heir := rich(t), heirOf(t)
		x.Seq, heir.Certs = c.seq, c.old
		gotX, got, e := node.Retire(x, heir)
		if e != api.OK || !cert.Gone(got.Certs, "01") || cert.Last(got.Certs, "01") != c.last {
			t.Errorf("%v: %d, %v", c, e, got.Certs)
		}
		if cert.Gone(gotX.Certs, "01") || gotX.How != node.Retired || got.How != node.Live {
			t.Errorf("%v: %v, %v", c, gotX, got)
		}
	}
}

// Who goes may have heard that its heir is no member any more: the heir hears of it then.
func TestRetireTellsTheHeirOfItsOwnCertificate(t *testing.T) {
	x, heir := rich(t), heirOf(t)
	x.Certs = cert.Put(x.Certs, "02", 3)
	gotX, got, e := node.Retire(x, heir)
	if e != api.OK || gotX.How != node.Retired || got.How != node.Retired || !know.Same(node.All(got), know.Union(node.All(x), node.All(heir))) {
		t.Error(e, gotX.How, got.How)
	}
}

// What who goes has in Gone, and what the heir has there.
func TestRetireWithGone(t *testing.T) {
	for i, c := range []struct {
		xKnow, heirKnow know.Know
		xGone, heirGone vec.Vec
		wantKnow        know.Know
		wantGone        vec.Vec
	}{
		{nil, nil, vec.Vec{at("04", 2)}, nil, know.Know{knows("04", 2)}, nil},
		{nil, nil, vec.Vec{at("04", 2)}, vec.Vec{at("04", 2)}, nil, vec.Vec{at("04", 2)}},
		{nil, nil, vec.Vec{at("04", 1)}, vec.Vec{at("04", 2)}, nil, vec.Vec{at("04", 2)}},
		{nil, nil, vec.Vec{at("04", 3)}, vec.Vec{at("04", 2)}, know.Know{knows("04", 3)}, nil},
		{know.Know{knows("04", 0, 4)}, nil, nil, vec.Vec{at("04", 2)}, know.Know{knows("04", 2, 4)}, nil},
		{nil, know.Know{knows("04", 1, 3)}, vec.Vec{at("04", 2)}, nil, know.Know{knows("04", 3)}, nil},
		{know.Know{knows("01", 3)}, nil, nil, vec.Vec{at("01", 2)}, know.Know{knows("01", 3)}, nil},
	} {
		x := node.State{Id: "01", Zone: zone.Everywhere(), Members: []id.Id{"01"}, Know: c.xKnow, Gone: c.xGone}
		heir := node.State{Id: "02", Zone: zone.Everywhere(), Members: []id.Id{"02"}, Know: c.heirKnow, Gone: c.heirGone}
		gotX, got, e := node.Retire(x, heir)
		if e != api.OK || !know.Same(got.Know, c.wantKnow) || !vec.Same(got.Gone, c.wantGone) {
			t.Errorf("%d: %d, %v, %v", i, e, got.Know, got.Gone)
		}
		if !know.Same(gotX.Know, c.xKnow) || !vec.Same(gotX.Gone, c.xGone) {
			t.Errorf("%d: %v, %v", i, gotX.Know, gotX.Gone)
		}
		if far := know.Firsts(node.All(got)); !vec.Same(matrix.Of(got.Rows, "02"), far) {
			t.Errorf("%d: %v", i, got.Rows)
		}
		if far := know.Firsts(node.All(gotX)); !vec.Same(matrix.Of(gotX.Rows, "01"), far) {
			t.Errorf("%d: %v", i, gotX.Rows)
		}
	}
}

func TestExpel(t *testing.T) {
	for _, c := range []struct {
		a    id.Id
		last int
	}{{"02", 0}, {"011", 0}, {"04", 2}, {"05", 7}} {
		s := rich(t)
		s.Know = append(s.Know, knows("05", 7, 9))
		s.Gone = append(s.Gone, at("04", 2))
		s.Members = append(s.Members, "04", "05")
		s = node.Settle(s)
		want := s
		want.Certs = cert.Put(s.Certs, c.a, c.last)
		got, e := node.Expel(s, c.a)
		if e != api.OK || !same(got, want) || cert.Last(got.Certs, c.a) != c.last || !cert.Gone(got.Certs, c.a) {
			t.Errorf("%q: %d, %v", c.a, e, got)
		}
		if again, e := node.Expel(got, c.a); e != api.ErrKnown || !same(again, got) {
			t.Errorf("%q: %d, %v", c.a, e, again)
		}
	}
}

func TestExpelErrors(t *testing.T) {
	for _, how := range hows {
		for _, own := range []id.Id{"0", "01"} {
			for a, e := range map[id.Id]api.Errno{"0": api.ErrRoot, "01": api.OK, "02": api.OK, "03": api.ErrKnown, "04": api.ErrId, "": api.ErrId,
				"00": api.ErrId, "0123456": api.ErrId, "no id": api.ErrId} {
				s := rich(t)
				s.How, s.Id = how, own
				want := e
				switch {
				case how != node.Live:
					want = api.ErrState
				case a == own && a != "0":
					want = api.ErrArg
				}
				if got, f := node.Expel(s, a); f != want || want != api.OK && !same(got, s) {
					t.Errorf("%q, that is %d, expels %q: %d", own, how, a, f)
				}
			}
		}
	}
}

// Of several that apply: that it is itself ahead of that it isn't a member, and that ahead of a certificate.
func TestExpelOrder(t *testing.T) {
	s := rich(t)
	s.Members, s.Certs = nil, cert.List{at("0", 1), at("01", 1), at("02", 1)}
	for a, want := range map[id.Id]api.Errno{"0": api.ErrRoot, "01": api.ErrArg, "02": api.ErrId} {
		if _, e := node.Expel(s, a); e != want {
			t.Errorf("%q: %d", a, e)
		}
	}
	s = node.Root()
	if _, e := node.Expel(s, "0"); e != api.ErrRoot {
		t.Error(e)
	}
}
