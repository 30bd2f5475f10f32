package mesh_test

import (
	"math"
	"slices"
	"testing"

	"cenotaph/api"
	"cenotaph/bag"
	"cenotaph/frame"
	"cenotaph/gc"
	"cenotaph/id"
	"cenotaph/mesh"
	"cenotaph/node"
	"cenotaph/sample"
	"cenotaph/swap"
)

// What is done, in few words.
func write(who id.Id, key int, spot complex128, text string) mesh.Op {
	return mesh.Op{Kind: mesh.Write, Who: who, Key: key, Spot: spot, Text: text}
}

func remove(who id.Id, key int) mesh.Op { return mesh.Op{Kind: mesh.Delete, Who: who, Key: key} }

func setZone(who id.Id, z string) mesh.Op {
	return mesh.Op{Kind: mesh.SetZone, Who: who, Zone: sample.Zone(z)}
}

func create(who id.Id) mesh.Op { return mesh.Op{Kind: mesh.Create, Who: who} }

func send(who, other id.Id) mesh.Op { return mesh.Op{Kind: mesh.Send, Who: who, Other: other} }

func deliver(at int) mesh.Op { return mesh.Op{Kind: mesh.Deliver, At: at} }

func drop(at int) mesh.Op { return mesh.Op{Kind: mesh.Drop, At: at} }

func double(at int) mesh.Op { return mesh.Op{Kind: mesh.Double, At: at} }

func retire(who, other id.Id) mesh.Op { return mesh.Op{Kind: mesh.Retire, Who: who, Other: other} }

func expel(who, other id.Id) mesh.Op { return mesh.Op{Kind: mesh.Expel, Who: who, Other: other} }

func sweep(who id.Id) mesh.Op { return mesh.Op{Kind: mesh.Gc, Who: who} }

func newMesh(most int) mesh.Mesh {
	m, _ := mesh.New(most)
	return m
}

// after is m when all of that was done, and nothing of it was wrong.
func after(t *testing.T, m mesh.Mesh, l ...mesh.Op) mesh.Mesh {
	t.Helper()
	for i, o := range l {
		var e api.Errno
		if m, e = mesh.Do(m, o); e != api.OK {
			t.Fatalf("%d, %v: %d", i, o, e)
		}
	}
	return m
}

// meet is m when one asked another one, and took its answer, and nothing else was delivered.
func meet(t *testing.T, m mesh.Mesh, who, other id.Id) mesh.Mesh {
	t.Helper()
	return after(t, m, send(who, other), deliver(len(m.Bag)), deliver(len(m.Bag)))
}

// rich is a Mesh with some that are Live, one that retired, and frames of two kinds under way.
func rich(t *testing.T) mesh.Mesh {
	t.Helper()
	m := after(t, newMesh(3), create("0"), create("0"), create("01"), create("01"), setZone("01", "disc 0 0 5"),
		setZone("02", "half 1 0 3"), write("0", 1, 1+1i, "a"), write("01", 2, 2, "b"), write("02", 3, 7, "c"), write("02", 4, 3, "d"))
	m = meet(t, meet(t, m, "01", "0"), "0", "02")
	return after(t, m, retire("012", "01"), remove("0", 1), send("02", "0"), double(0), send("0", "01"), deliver(2), send("011", "02"))
}

// refusing is a Mesh in which 02 was expelled by an order while it was away, and a Stale is under way to it.
func refusing(t *testing.T) mesh.Mesh {
	t.Helper()
	m := after(t, newMesh(32), create("0"), create("0"), write("0", 1, 1, "a"))
	m = after(t, meet(t, m, "02", "0"), remove("0", 1), expel("0", "02"))
	m = after(t, meet(t, meet(t, m, "01", "0"), "01", "0"), sweep("0"))
	return after(t, m, send("02", "0"), deliver(0))
}

// expect: what comes of o is want, and that error.
func expect(t *testing.T, m mesh.Mesh, o mesh.Op, want mesh.Mesh, e api.Errno) {
	t.Helper()
	if got, f := mesh.Do(m, o); f != e || !sample.SameMesh(got, want) {
		t.Errorf("%v: %d, not %d;\n%v\n%v", o, f, e, got, want)
	}
}

// changed is m when the replica in that place is another State.
func changed(m mesh.Mesh, i int, s node.State) mesh.Mesh {
	m.Nodes = slices.Clone(m.Nodes)
	m.Nodes[i] = s
	return m
}

// under is m when those frames, alone, are under way.
func under(m mesh.Mesh, b bag.Bag) mesh.Mesh {
	m.Bag = b
	return m
}

// without is b without what is in that place.
func without(b bag.Bag, i int) bag.Bag { return append(slices.Clone(b[:i]), b[i+1:]...) }

func ids(m mesh.Mesh) []id.Id {
	var l []id.Id
	for _, s := range m.Nodes {
		l = append(l, s.Id)
	}
	return l
}

// byHand is what the layer below answers to o.
func byHand(s node.State, o mesh.Op) (node.State, api.Errno) {
	switch o.Kind {
	case mesh.Write:
		return node.Write(s, o.Key, o.Spot, o.Text)
	case mesh.Delete:
		return node.Delete(s, o.Key)
	case mesh.SetZone:
		return node.SetZone(s, o.Zone)
	case mesh.Expel:
		return node.Expel(s, o.Other)
	}
	return stepped(s), api.OK
}

func stepped(s node.State) node.State {
	s, _ = gc.Step(s)
	return s
}

// asked is the bytes of what s asks.
func asked(s node.State, to id.Id) []byte {
	f, _ := swap.Ask(s, to)
	return frame.Put(f)
}

// The chapter's example.
func TestExample(t *testing.T) {
	m := after(t, newMesh(32), create("0"), write("0", 3, 1+2i, "hi"), send("01", "0"), deliver(0), deliver(0))
	s, found := mesh.Find(m, "01")
	text, e := node.Read(s, 3)
	if !found || e != api.OK || text != "hi" || len(m.Bag) != 0 {
		t.Error(found, e, text, m.Bag)
	}
}

func TestNew(t *testing.T) {
	for most := -3; most <= 40; most++ {
		m, e := mesh.New(most)
		want := mesh.Mesh{Nodes: []node.State{node.Root()}, Most: most}
		if right := most >= 1 && most <= 32; !right {
			want = mesh.Mesh{}
			if e != api.ErrArg {
				t.Errorf("New of %d: %d", most, e)
			}
		} else if e != api.OK {
			t.Errorf("New of %d: %d", most, e)
		}
		if !sample.SameMesh(m, want) {
			t.Errorf("New of %d: %v", most, m)
		}
	}
	for _, most := range []int{math.MinInt, math.MaxInt, 1 << 32, 1<<32 + 1} {
		if m, e := mesh.New(most); e != api.ErrArg || !sample.SameMesh(m, mesh.Mesh{}) {
			t.Errorf("New of %d: %d, %v", most, e, m)
		}
	}
}

func TestFind(t *testing.T) {
	m := rich(t)
	if l := ids(m); !slices.Equal(l, []id.Id{"0", "01", "02", "011", "012"}) {
		t.Fatal(l)
	}
	for i, a := range ids(m) {
		if s, found := mesh.Find(m, a); !found || !sample.Same(s, m.Nodes[i]) {
			t.Errorf("%q: %v, %v", a, found, s)
		}
	}
	for _, a := range []id.Id{"", "03", "1", "0111", "no id", "00"} {
		if s, found := mesh.Find(m, a); found || !sample.Same(s, node.State{}) {
			t.Errorf("%q: %v, %v", a, found, s)
		}
	}
	if s, found := mesh.Find(mesh.Mesh{}, "0"); found || !sample.Same(s, node.State{}) {
		t.Error(s)
	}
}

func TestLive(t *testing.T) {
	for _, x := range []struct {
		m    mesh.Mesh
		want []id.Id
	}{
		{mesh.Mesh{}, nil}, {newMesh(1), []id.Id{"0"}}, {rich(t), []id.Id{"0", "01", "02", "011"}},
		// in the order in which they came, not rising
		{after(t, newMesh(1), create("0"), create("0"), create("01"), create("0")), []id.Id{"0", "01", "02", "011", "03"}},
		{after(t, newMesh(1), create("0"), create("0"), create("01"), retire("01", "02")), []id.Id{"0", "02", "011"}},
	} {
		if l := mesh.Live(x.m); !slices.Equal(l, x.want) {
			t.Errorf("%v, not %v", l, x.want)
		}
	}
	m, e := mesh.Do(refusing(t), deliver(0))
	if l := mesh.Live(m); e != api.ErrStale || !slices.Equal(l, []id.Id{"0", "01"}) {
		t.Error(e, l)
	}
	m = mesh.Mesh{Nodes: []node.State{{Id: "02", How: node.Retired}, {Id: "03", How: node.Expelled}, {Id: "04", How: 7}}}
	if l := mesh.Live(m); len(l) != 0 {
		t.Error(l)
	}
}

// What changes nobody else is as the layers below say, and all others stay.
func TestOfOneAlone(t *testing.T) {
	m := rich(t)
	for _, x := range []struct {
		o mesh.Op
		e api.Errno
	}{
		{write("0", 1, 1, "new"), api.OK}, {write("01", 31, 3+4i, ""), api.OK}, {write("011", 0, -5, "abcdefghijklmnop"), api.OK},
		{write("0", 32, 1, ""), api.ErrKey}, {write("0", -1, 1, ""), api.ErrKey}, {write("0", 1, 1001, ""), api.ErrSpot},
		{write("0", 1, 5.5, ""), api.ErrSpot}, {write("01", 1, 6, ""), api.ErrZone}, {write("0", 1, 1, "abcdefghijklmnopq"), api.ErrText}, {write("012", 1, 1, ""), api.ErrState},
		{write("0", 1, complex(math.NaN(), 0), ""), api.ErrSpot},
		{remove("02", 3), api.OK}, {remove("0", 4), api.OK}, {remove("0", 1), api.ErrNone}, {remove("02", 1), api.ErrNone},
		{remove("01", 32), api.ErrKey}, {remove("012", 1), api.ErrState},
		{setZone("01", "all"), api.OK}, {setZone("02", "disc 1 2 3,half 1 0 0,or"), api.OK}, {setZone("02", ""), api.ErrZone},
		{setZone("0", "all"), api.ErrRoot}, {setZone("012", "all"), api.ErrState},
		{expel("0", "02"), api.OK}, {expel("02", "01"), api.OK}, {expel("0", "011"), api.OK}, {expel("01", "012"), api.ErrKnown},
		{expel("02", "012"), api.OK}, {expel("011", "02"), api.ErrId}, {expel("0", "03"), api.ErrId}, {expel("0", ""), api.ErrId}, {expel("01", "01"), api.ErrArg},
		{expel("01", "0"), api.ErrRoot}, {expel("012", "02"), api.ErrState},
		{sweep("0"), api.OK}, {sweep("01"), api.OK}, {sweep("02"), api.OK}, {sweep("012"), api.OK},
	} {
		i := slices.Index(ids(m), x.o.Who)
		s, e := byHand(m.Nodes[i], x.o)
		if e != x.e {
			t.Errorf("%v: the layers below answer %d", x.o, e)
		}
		expect(t, m, x.o, changed(m, i, s), x.e)
	}
}

func TestSweeps(t *testing.T) {
	m := refusing(t)
	if s := m.Nodes[0]; len(s.Store) != 0 || len(s.Floor) != 1 {
		t.Error("the test's tombstone stays", s)
	}
	expect(t, m, sweep("01"), changed(m, 1, stepped(m.Nodes[1])), api.OK)
	expect(t, m, sweep("02"), changed(m, 2, stepped(m.Nodes[2])), api.OK)
}

// A child comes behind all others, knows what its parent knew, and both know of it.
func TestCreate(t *testing.T) {
	m := rich(t)
	for i, who := range []id.Id{"0", "01", "02", "011"} {
		s, child, _ := node.Child(m.Nodes[i])
		want := changed(m, i, s)
		want.Nodes = append(want.Nodes, child)
		expect(t, m, create(who), want, api.OK)
	}
	expect(t, m, create("012"), m, api.ErrState)
	expect(t, m, create("0111"), m, api.ErrId)
}

// There may be twelve; and none may have more than nine Kids, or six signs.
func TestCreateOfTooMany(t *testing.T) {
	m := rich(t)
	for range 7 {
		expect(t, m, create("012"), m, api.ErrState)
		m = after(t, m, create("02"))
	}
	for _, a := range ids(m) {
		expect(t, m, create(a), m, api.ErrFull)
	}
	expect(t, m, create("03"), m, api.ErrId)
	m.Nodes = append(m.Nodes, node.Root())
	expect(t, m, create("0"), m, api.ErrFull)
	m = newMesh(1)
	for range 9 {
		m = after(t, m, create("0"))
	}
	expect(t, m, create("0"), m, api.ErrFull)
	m = after(t, m, create("01"), create("09"))
	if l := ids(m); len(l) != 12 || l[9] != "09" || l[10] != "011" || l[11] != "091" {
		t.Error(l)
	}
	m = after(t, newMesh(1), create("0"), create("01"), create("011"), create("0111"), create("01111"))
	expect(t, m, create("011111"), m, api.ErrFull)
}

// An Ask is under way then, behind all others.
func TestSend(t *testing.T) {
	m := rich(t)
	for _, x := range [][2]id.Id{{"0", "01"}, {"01", "0"}, {"02", "011"}, {"011", "012"}} {
		s, _ := mesh.Find(m, x[0])
		expect(t, m, send(x[0], x[1]), under(m, append(slices.Clone(m.Bag), asked(s, x[1]))), api.OK)
	}
	for _, x := range []struct {
		who, other id.Id
		e          api.Errno
	}{
		{"03", "0", api.ErrId}, {"0", "03", api.ErrId}, {"03", "04", api.ErrId}, {"", "", api.ErrId}, {"012", "03", api.ErrId},
		{"0", "0", api.ErrArg}, {"012", "0", api.ErrState}, {"012", "012", api.ErrState}, {"02", "0111", api.ErrId},
	} {
		expect(t, m, send(x.who, x.other), m, x.e)
	}
}

// There is room for 64; what is wrong with the one that sends is told first.
func TestSendOfTooMany(t *testing.T) {
	m := rich(t)
	for len(m.Bag) < 64 {
		m = after(t, m, send("0", "01"))
	}
	expect(t, m, send("0", "01"), m, api.ErrFull)
	expect(t, m, double(0), m, api.ErrFull)
	expect(t, m, double(64), m, api.ErrNone)
	expect(t, m, send("0", "0"), m, api.ErrArg)
	expect(t, m, send("012", "0"), m, api.ErrState)
	expect(t, m, send("0", "03"), m, api.ErrId)
	after(t, m, drop(63), send("0", "01"))
}

func TestDropAndDouble(t *testing.T) {
	m := rich(t)
	if len(m.Bag) != 4 {
		t.Fatal(m.Bag)
	}
	for i := range m.Bag {
		expect(t, m, drop(i), under(m, without(m.Bag, i)), api.OK)
		expect(t, m, double(i), under(m, append(slices.Clone(m.Bag), m.Bag[i])), api.OK)
	}
	for _, i := range []int{math.MinInt, -1, 4, 5, math.MaxInt} {
		expect(t, m, drop(i), m, api.ErrNone)
		expect(t, m, double(i), m, api.ErrNone)
		expect(t, m, deliver(i), m, api.ErrNone)
	}
	for _, o := range []mesh.Op{drop(0), double(0), deliver(0)} {
		expect(t, newMesh(1), o, newMesh(1), api.ErrNone)
	}
}

// Who goes and its heir are as layer 11 says, in whatever order they came.
func TestRetire(t *testing.T) {
	m := rich(t)
	for _, x := range [][2]int{{2, 0}, {1, 2}, {3, 1}, {2, 3}} {
		a, b, e := node.Retire(m.Nodes[x[0]], m.Nodes[x[1]])
		if e != api.OK {
			t.Fatal(x, e)
		}
		expect(t, m, retire(m.Nodes[x[0]].Id, m.Nodes[x[1]].Id), changed(changed(m, x[0], a), x[1], b), api.OK)
	}
	for _, x := range []struct {
		who, other id.Id
		e          api.Errno
	}{
		{"03", "0", api.ErrId}, {"01", "03", api.ErrId}, {"03", "03", api.ErrId}, {"012", "03", api.ErrId}, {"0", "03", api.ErrId},
		{"012", "0", api.ErrState}, {"01", "012", api.ErrState}, {"01", "01", api.ErrArg}, {"0", "01", api.ErrRoot}, {"0", "0", api.ErrArg},
	} {
		expect(t, m, retire(x.who, x.other), m, x.e)
	}
	m = refusing(t)
	expect(t, m, retire("02", "0"), m, api.ErrStale)
	expect(t, m, retire("02", "01"), changedBy(m, 2, 1), api.OK)
}

// changedBy is m when the replica in one place left all to that in another one.
func changedBy(m mesh.Mesh, x, heir int) mesh.Mesh {
	a, b, _ := node.Retire(m.Nodes[x], m.Nodes[heir])
	return changed(changed(m, x, a), heir, b)
}

// What a Kind doesn't have counts for nothing.
func TestWhatAKindDoesntHave(t *testing.T) {
	m := rich(t)
	for _, o := range []mesh.Op{write("0", 1, 1, "a"), remove("0", 3), setZone("01", "all"), create("01"), send("0", "02"), deliver(0),
		drop(1), double(2), retire("02", "01"), expel("0", "01"), sweep("01")} {
		want, e := mesh.Do(m, o)
		if e != api.OK {
			t.Fatal(o, e)
		}
		expect(t, m, sample.Overfull(o), want, api.OK)
	}
}

// An Op of another Kind isn't done, and that is told ahead of who it speaks of.
func TestOtherKinds(t *testing.T) {
	m := rich(t)
	for _, kind := range []int{math.MinInt, -2, -1, 11, 12, 100, 1 << 32, math.MaxInt} {
		for _, who := range []id.Id{"0", "01", "012", "03", ""} {
			for _, other := range []id.Id{"0", "02", "03", ""} {
				expect(t, m, mesh.Op{Kind: kind, Who: who, Other: other, Text: "a"}, m, api.ErrArg)
			}
		}
	}
}

// Who isn't there is told ahead of all else that is wrong.
func TestOfNoReplica(t *testing.T) {
	m := rich(t)
	for _, who := range []id.Id{"", "03", "1", "no id", "0111", "00"} {
		for _, o := range []mesh.Op{write(who, 99, 9999, "a text that is too long"), remove(who, 99), setZone(who, ""), create(who),
			send(who, "0"), send(who, who), send("012", who), send("0", who), retire(who, "0"), retire(who, who), retire("012", who),
			retire("0", who), expel(who, "0"), expel(who, who), sweep(who)} {
			expect(t, m, o, m, api.ErrId)
		}
		// whom one expels needn't be a replica: that one's errors are layer 11's
		expect(t, m, expel("0", who), m, api.ErrId)
		expect(t, m, expel("012", who), m, api.ErrState)
	}
}

// Of no Mesh whatever, and of nothing that is done, more than an end is promised; but an end is.
func TestNoCallPanics(t *testing.T) {
	all := []mesh.Mesh{{}, {Most: -1, Bag: bag.Bag{nil, {3}}}, {Nodes: []node.State{{}, {}}, Most: 99}}
	for i, s := range sample.WrongStates(rich(t).Nodes[1]) {
		m := rich(t)
		m.Nodes[1] = s
		if i%2 == 0 {
			m.Most = 40 * (i - 5)
		}
		m.Nodes = append(m.Nodes, s, s)
		m.Bag = append(m.Bag, nil, []byte("no frame"), frame.Put(frame.Frame{Kind: frame.Stale, From: "0", To: "09"}), asked(m.Nodes[0], "01"))
		all = append(all, m)
	}
	for _, m := range all {
		for kind := -1; kind <= 11; kind++ {
			for _, who := range append(ids(m), "no id") {
				for _, other := range append(ids(m), "no id") {
					for at := range len(m.Bag) + 1 {
						mesh.Do(m, mesh.Op{Kind: kind, Who: who, Other: other, Key: at, At: at, Text: "a", Zone: sample.Zone("all,not")})
						mesh.Do(m, mesh.Op{Kind: kind, Who: who, Other: other, Key: -at, At: -at, Spot: complex(math.NaN(), math.Inf(1))})
					}
				}
				mesh.Find(m, who)
			}
		}
		mesh.Live(m)
	}
}
