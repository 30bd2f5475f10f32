package mesh_test

import (
	"slices"
	"testing"

	"cenotaph/api"
	"cenotaph/bag"
	"cenotaph/frame"
	"cenotaph/id"
	"cenotaph/mesh"
	"cenotaph/node"
	"cenotaph/sample"
	"cenotaph/swap"
)

// comes is m when the frame in that place came, by the layers below; m's Bag has room for an answer.
func comes(t *testing.T, m mesh.Mesh, at int) (mesh.Mesh, frame.Frame, api.Errno) {
	t.Helper()
	f, e := frame.Take(m.Bag[at])
	i := slices.Index(ids(m), f.To)
	if e != api.OK || i < 0 {
		t.Fatal(e, f)
	}
	m.Bag = without(m.Bag, at)
	s := m.Nodes[i]
	if f.Kind != frame.Ask {
		s, e = swap.Take(s, f)
		return changed(m, i, s), f, e
	}
	s, d, e := swap.Answer(s, f, m.Most)
	if e == api.OK {
		m.Bag = append(m.Bag, frame.Put(d))
	}
	return changed(m, i, s), d, e
}

// Who is asked hears of the one that asked, and sends back, behind all others, what it doesn't know, so much at most.
func TestDeliverOfAnAsk(t *testing.T) {
	m := after(t, newMesh(1), create("0"))
	for key := range 32 {
		m = after(t, m, write("0", key, 1, "text"))
	}
	m = after(t, m, create("01"), send("0", "01"), send("011", "0"), send("0", "01"))
	for most := 1; most <= 32; most++ {
		m.Most = most
		want, d, e := comes(t, m, 1)
		if e != api.OK || len(d.Items) != most || d.Whole != (most == 32) || d.From != "0" || d.To != "011" {
			t.Fatal(e, d)
		}
		if sample.Same(want.Nodes[0], m.Nodes[0]) {
			t.Error("the test's Ask tells nothing")
		}
		expect(t, m, deliver(1), want, api.OK)
	}
}

// What is taken changes its taker alone.
func TestDeliverOfAData(t *testing.T) {
	m := rich(t)
	want, d, e := comes(t, m, 2)
	if e != api.OK || d.Kind != frame.Data || sample.Same(want.Nodes[0], m.Nodes[0]) {
		t.Fatal(e, d)
	}
	expect(t, m, deliver(2), want, api.OK)
}

// In any place, in any order: what is under way comes as the layers below say.
func TestDeliverInAnyOrder(t *testing.T) {
	for step := range 60 {
		m := rich(t)
		for n := step; len(m.Bag) > 0; n += step {
			at := n % len(m.Bag)
			want, f, e := comes(t, m, at)
			if e != api.OK {
				t.Fatal(step, n, e, f)
			}
			expect(t, m, deliver(at), want, api.OK)
			m = after(t, m, deliver(at))
		}
	}
}

// Who is told that it knows too little is Expelled, beside an error, and the Stale is gone.
func TestDeliverOfAStale(t *testing.T) {
	m := refusing(t)
	want, f, e := comes(t, m, 0)
	if e != api.ErrStale || f.Kind != frame.Stale || want.Nodes[2].How != node.Expelled || len(want.Bag) != 0 {
		t.Fatal(e, f, want)
	}
	expect(t, m, deliver(0), want, api.ErrStale)
}

// Who heard by then what it didn't know when it asked stays.
func TestDeliverOfAnOldStale(t *testing.T) {
	m := after(t, newMesh(32), create("0"), send("01", "0"), write("0", 1, 1, "a"), remove("0", 1))
	m = after(t, meet(t, meet(t, m, "01", "0"), "01", "0"), sweep("0"), send("0", "01"), deliver(0))
	f, e := bag.Look(m.Bag, 1)
	if e != api.OK || f.Kind != frame.Stale || len(m.Bag) != 2 {
		t.Fatal(e, f)
	}
	expect(t, m, deliver(1), under(m, m.Bag[:1]), api.ErrOld)
}

// What was sent too long ago is gone, and its taker stays.
func TestDeliverOfWhatIsOld(t *testing.T) {
	m := after(t, newMesh(32), create("0"), write("0", 1, 1, "a"), send("01", "0"), deliver(0), double(0), remove("0", 1))
	// 01 takes what is under way when it let the tombstone go
	m = after(t, m, send("01", "0"), deliver(2), deliver(2), send("01", "0"), deliver(2), deliver(2), sweep("01"))
	if s, _ := mesh.Find(m, "01"); len(s.Floor) == 0 || len(m.Bag) != 2 {
		t.Fatal(s, m.Bag)
	}
	expect(t, m, deliver(1), under(m, m.Bag[:1]), api.ErrOld)
	expect(t, m, deliver(0), under(m, m.Bag[1:]), api.ErrOld)
}

// What comes to one that isn't Live any more is gone.
func TestDeliverToOneThatWent(t *testing.T) {
	m := rich(t)
	m = after(t, m, send("01", "012"), send("02", "01"), send("02", "01"), deliver(5), send("0", "02"), retire("02", "0"))
	kinds := map[int]bool{}
	for at := range m.Bag {
		f, _ := bag.Look(m.Bag, at)
		if s, _ := mesh.Find(m, f.To); s.How == node.Live {
			continue
		}
		kinds[f.Kind] = true
		expect(t, m, deliver(at), under(m, without(m.Bag, at)), api.ErrState)
	}
	if !kinds[frame.Ask] || !kinds[frame.Data] {
		t.Error("the test's frames are all of one kind", kinds)
	}
	m = after(t, refusing(t), retire("02", "01"))
	expect(t, m, deliver(0), under(m, nil), api.ErrState)
}

// What comes to nobody is gone; but such a frame only a Mesh has that was made by hand.
func TestDeliverToNobody(t *testing.T) {
	m := rich(t)
	for i, f := range []frame.Frame{
		{Kind: frame.Stale, From: "0", To: "03"}, {Kind: frame.Data, From: "01", To: "0111"},
		{Kind: frame.Ask, From: "01", To: "09", Zone: sample.Zone("all")},
	} {
		n := under(m, slices.Insert(slices.Clone(m.Bag), i, frame.Put(f)))
		expect(t, n, deliver(i), m, api.ErrId)
	}
}

// What is no frame stays.
func TestDeliverOfNoFrame(t *testing.T) {
	m := rich(t)
	for i, x := range [][]byte{nil, {0}, {3}, {4}, m.Bag[0][:9], append(slices.Clone(m.Bag[0]), 0)} {
		n := under(m, slices.Insert(slices.Clone(m.Bag), i%4, x))
		_, want := frame.Take(x)
		if want == api.OK {
			t.Fatal(x)
		}
		expect(t, n, deliver(i%4), n, want)
		expect(t, n, drop(i%4), m, api.OK)
	}
}

// An Ask leaves room for its answer. Only where somebody put more under way by hand there is none: what was taken out is
// gone, and the one that was asked heard of it.
func TestDeliverWhereThereIsNoRoom(t *testing.T) {
	m := rich(t)
	for len(m.Bag) < 64 {
		m = after(t, m, double(0))
	}
	want, _, e := comes(t, m, 63)
	if e != api.OK || len(want.Bag) != 64 {
		t.Fatal(e, want)
	}
	expect(t, m, deliver(63), want, api.OK)
	m.Bag = append(m.Bag, m.Bag[0])
	want, _, _ = comes(t, m, 0)
	want.Bag = m.Bag[1:]
	expect(t, m, deliver(0), want, api.ErrFull)
}

// So it is with what layer 13 refuses to answer.
func TestDeliverOfAnAskThatIsRefused(t *testing.T) {
	for _, most := range []int{-1, 0, 33} {
		m := rich(t)
		m.Most = most
		expect(t, m, deliver(0), under(m, m.Bag[1:]), api.ErrArg)
	}
}

// One comes, hears, goes, and what it heard is deleted: then the root has nothing left, and who went has what it had.
func TestOfAWholeLife(t *testing.T) {
	m := after(t, newMesh(2), create("0"), write("0", 2, 0, "x"), send("01", "0"), double(0), deliver(0), drop(0), deliver(0))
	m = after(t, m, retire("01", "0"), sweep("01"), remove("0", 2), sweep("0"))
	if l := mesh.Live(m); !slices.Equal(l, []id.Id{"0"}) || len(m.Nodes[0].Store) != 0 || len(m.Bag) != 0 {
		t.Error(l, m)
	}
	if text, e := node.Read(m.Nodes[1], 2); e != api.ErrState || text != "" || len(m.Nodes[1].Store) != 1 {
		t.Error(e, m.Nodes[1])
	}
}
