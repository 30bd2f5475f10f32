package swap_test

import (
	"slices"
	"testing"

	"cenotaph/api"
	"cenotaph/cert"
	"cenotaph/frame"
	"cenotaph/id"
	"cenotaph/item"
	"cenotaph/know"
	"cenotaph/matrix"
	"cenotaph/node"
	"cenotaph/sample"
	"cenotaph/span"
	"cenotaph/store"
	"cenotaph/swap"
	"cenotaph/vec"
	"cenotaph/zone"
)

// taken is rich when telling came, but for what it knows then.
func taken(t *testing.T) node.State {
	s := rich()
	s.Clock = 20
	s.Store = store.Store{
		heldOne(0, version("0", 2, 2), 3+4i, "in"), // what came is older
		deadOne(1, version("02", 2, 4)), heldOne(2, version("0", 5, 7), 8, "new"), heldOne(3, version("0", 4, 5), 1i, "its text"),
		stubOf(4, version("02", 3, 6), 9), stubOf(7, version("04", 2, 12), 2), deadOne(9, version("03", 4, 4)),
		stubOf(31, version("0", 6, 8), -5),
	}
	s.Members = []id.Id{"0", "01", "011", "02", "021", "03", "04"}
	s.Certs = cert.List{at("021", 1), at("03", 6)}
	return s
}

func TestTakeOfAPart(t *testing.T) {
	want := taken(t)
	want.Know = know.Know{knows("0", 2, 4, 5, 6), knows("01", 3), knows("02", 0, 2, 3, 4), knows("04", 0, 2)}
	want.Rows = matrix.Matrix{row("0", at("0", 5), at("01", 1)), row("01", at("0", 2), at("01", 3), at("02", 1), at("03", 4)),
		row("02", at("0", 1)), row("04", at("04", 2))}
	if got, e := swap.Take(rich(), telling()); e != api.OK || !same(got, want) {
		t.Errorf("%d,\n%v\n%v", e, got, want)
	}
}

func TestTakeOfAWhole(t *testing.T) {
	want := taken(t)
	want.Know = know.Know{knows("0", 6), knows("01", 3), knows("02", 5), knows("04", 2)}
	want.Rows = matrix.Matrix{row("0", at("0", 5), at("01", 1)), row("01", at("0", 6), at("01", 3), at("02", 5), at("03", 4), at("04", 2)),
		row("02", at("0", 1)), row("04", at("04", 2))}
	f := with(telling(), func(f *frame.Frame) { f.Whole = true })
	if got, e := swap.Take(rich(), f); e != api.OK || !same(got, want) {
		t.Errorf("%d,\n%v\n%v", e, got, want)
	}
	// of whom more came than it had in Gone there is a Row again
	f.Know[3] = knows("03", 3, 5)
	want.Gone = nil
	want.Know = know.Know{want.Know[0], want.Know[1], want.Know[2], knows("03", 5), want.Know[3]}
	want.Rows[1] = row("01", at("0", 6), at("01", 3), at("02", 5), at("03", 5), at("04", 2))
	if got, e := swap.Take(rich(), f); e != api.OK || !same(got, want) {
		t.Errorf("%d,\n%v\n%v", e, got, want)
	}
}

// An item that isn't known comes if it is newer; of one that is known, and not overwritten, a text that lacks.
func TestTakeOfOneItem(t *testing.T) {
	v := version("0", 2, 5)
	for i, x := range []struct {
		has   store.Store
		came  item.Item
		known bool
		want  store.Store
	}{
		{nil, heldOne(1, v, 1, "a"), false, store.Store{heldOne(1, v, 1, "a")}},
		{nil, stubOf(1, v, 1), false, store.Store{stubOf(1, v, 1)}},
		{nil, deadOne(1, v), false, store.Store{deadOne(1, v)}},
		{nil, heldOne(1, v, 1, "a"), true, nil}, // let go
		{nil, deadOne(1, v), true, nil},
		{store.Store{stubOf(1, v, 1)}, heldOne(1, v, 1, "a"), true, store.Store{heldOne(1, v, 1, "a")}},
		{store.Store{stubOf(1, v, 1)}, stubOf(1, v, 1), true, store.Store{stubOf(1, v, 1)}},
		{store.Store{heldOne(1, v, 1, "a")}, stubOf(1, v, 1), true, store.Store{heldOne(1, v, 1, "a")}},
		{store.Store{stubOf(1, version("01", 1, 6), 1)}, heldOne(1, v, 1, "a"), true, store.Store{stubOf(1, version("01", 1, 6), 1)}},
		{store.Store{stubOf(1, version("01", 1, 4), 1)}, heldOne(1, v, 1, "a"), true, store.Store{stubOf(1, version("01", 1, 4), 1)}},
		{store.Store{stubOf(2, v, 1)}, heldOne(1, v, 1, "a"), true, store.Store{stubOf(2, v, 1)}},
		{store.Store{deadOne(1, version("01", 1, 4))}, heldOne(1, v, 1, "a"), false, store.Store{heldOne(1, v, 1, "a")}},
		{store.Store{deadOne(1, version("01", 1, 5))}, heldOne(1, v, 1, "a"), false, store.Store{deadOne(1, version("01", 1, 5))}},
		{store.Store{deadOne(1, version("01", 1, 6))}, heldOne(1, v, 1, "a"), false, store.Store{deadOne(1, version("01", 1, 6))}},
		{store.Store{heldOne(1, version("01", 1, 4), 1, "b")}, deadOne(1, v), false, store.Store{deadOne(1, v)}},
	} {
		s := node.State{Id: "01", Seq: 1, Clock: 9, Know: know.Know{knows("01", 1)}, Store: x.has, Zone: zone.Everywhere(), Members: []id.Id{"0", "01"}}
		if x.known {
			s.Know = know.Add(s.Know, "0", 2)
		}
		for _, whole := range []bool{false, true} {
			f := frame.Frame{Kind: frame.Data, From: "0", To: "01", Know: know.Know{knows("0", 2)}, Clock: 5, Items: []item.Item{x.came}, Whole: whole}
			got, e := swap.Take(node.Settle(s), f)
			if e != api.OK || !store.Same(got.Store, x.want) || !know.Has(node.All(got), "0", 2) || know.Has(node.All(got), "0", 1) != whole {
				t.Errorf("%d: %d, %v", i, e, got)
			}
		}
	}
}

// What is known in Gone is known, too, and what was let go doesn't come back.
func TestTakeOfWhatIsInGone(t *testing.T) {
	s := node.State{Id: "01", Gone: vec.Vec{at("0", 2)}, Clock: 9, Zone: zone.Everywhere(), Members: []id.Id{"0", "01"}}
	for _, whole := range []bool{false, true} {
		f := frame.Frame{Kind: frame.Data, From: "0", To: "01", Know: know.Know{knows("0", 2)}, Whole: whole,
			Items: []item.Item{heldOne(1, version("0", 2, 5), 1, "a")}}
		if got, e := swap.Take(node.Settle(s), f); e != api.OK || !same(got, node.Settle(s)) {
			t.Error(e, got)
		}
	}
}

func TestTakeLeavesTheGreaterClock(t *testing.T) {
	for _, x := range [][3]int{{9, 0, 9}, {9, 8, 9}, {9, 9, 9}, {9, 10, 10}, {0, api.MaxSeq, api.MaxSeq}} {
		s := with(node.Root(), func(s *node.State) { s.Clock = x[0] })
		got, e := swap.Take(s, frame.Frame{Kind: frame.Data, From: "01", To: "0", Clock: x[1]})
		if e != api.OK || got.Clock != x[2] {
			t.Error(e, got.Clock, x)
		}
	}
}

func TestTakeOfAnOwnCertificate(t *testing.T) {
	f := with(telling(), func(f *frame.Frame) { f.Certs = cert.List{at("01", 3)} })
	got, e := swap.Take(rich(), f)
	if e != api.OK || got.How != node.Retired || got.Clock != 20 || len(got.Store) != 8 {
		t.Error(e, got)
	}
	if again, e := swap.Take(got, f); e != api.ErrState || !same(again, got) {
		t.Error(e, again)
	}
}

func TestTakenTwice(t *testing.T) {
	for _, whole := range []bool{false, true} {
		f := with(telling(), func(f *frame.Frame) { f.Whole = whole; f.Items = append(f.Items, f.Items...) })
		once, e := swap.Take(rich(), f)
		twice, wrong := swap.Take(once, f)
		if e != api.OK || wrong != api.OK || !same(once, twice) {
			t.Errorf("%d, %d,\n%v\n%v", e, wrong, once, twice)
		}
	}
}

// What was sent by one that didn't know of all that was let go here comes too late.
func TestTakeOfWhatIsOld(t *testing.T) {
	s := rich()
	for i, k := range []know.Know{nil, {knows("0", 1)}, {knows("0", 6), knows("03", 2)}, {knows("0", 6), knows("03", 2, 4)}, {knows("0", 0, 2), knows("03", 3)}} {
		refusesTake(t, s, with(telling(), func(f *frame.Frame) { f.Know = k; f.Whole = true }), api.ErrOld, i)
	}
	f := with(telling(), func(f *frame.Frame) { f.Know = know.Know{knows("0", 1), knows("03", 3)} })
	if _, e := swap.Take(s, f); e != api.OK {
		t.Error(e)
	}
}

func TestTakeOfAStale(t *testing.T) {
	for i, f := range []frame.Frame{
		stale(), stale(at("0", 2)), stale(at("0", 1), at("01", 3), at("03", 4)), // in Gone it is known, too
	} {
		refusesTake(t, rich(), f, api.ErrOld, i)
	}
	want := with(unsettled(rich()), func(s *node.State) { s.How = node.Expelled })
	for i, f := range []frame.Frame{
		stale(at("0", 3)), stale(at("0", 4)), stale(at("01", 4)), stale(at("02", 1)), stale(at("0", 2), at("03", 5)), stale(at("09", 1)),
	} {
		got, e := swap.Take(unsettled(rich()), f)
		if e != api.ErrStale || !same(got, want) {
			t.Errorf("%d: %d, %v", i, e, got)
		}
		refusesTake(t, got, f, api.ErrState, i)
	}
}

func TestTakeErrors(t *testing.T) {
	right := telling()
	for i, f := range []frame.Frame{
		{}, asking(), {Kind: 4, From: "02", To: "01"}, with(right, func(f *frame.Frame) { f.Kind = 0 }),
		with(right, func(f *frame.Frame) { f.Kind = frame.Stale }), with(right, func(f *frame.Frame) { f.From = "" }),
		with(right, func(f *frame.Frame) { f.Zone = zone.Everywhere() }), with(right, func(f *frame.Frame) { f.Clock = api.MaxSeq + 1 }),
		with(right, func(f *frame.Frame) { f.Floor = vec.Vec{at("0", 1)} }), with(stale(), func(f *frame.Frame) { f.Whole = true }),
		stale(at("0", 0)), with(right, func(f *frame.Frame) { f.Items = make([]item.Item, 1) }),
	} {
		refusesTake(t, rich(), f, api.ErrArg, i)
	}
	for n := range 64 {
		s, f, want := rich(), pick(n&32 != 0, stale(at("0", 1)), right), api.OK
		if n&8 != 0 {
			f, want = pick(f.Kind == frame.Stale, stale(), with(f, func(f *frame.Frame) { f.Know = nil })), api.ErrOld
		}
		if n&4 != 0 {
			s.How, want = 1+n>>4%2, api.ErrState
		}
		if n&2 != 0 {
			f.To, want = "02", api.ErrId
		}
		if n&1 != 0 {
			f.From, want = "03.", api.ErrArg
		}
		if want != api.OK {
			refusesTake(t, s, f, want, n)
		}
	}
}

func pick[T any](first bool, a, b T) T {
	if first {
		return a
	}
	return b
}

func refusesTake(t *testing.T, s node.State, f frame.Frame, want api.Errno, i int) {
	t.Helper()
	for _, s := range []node.State{s, unsettled(s)} {
		if got, e := swap.Take(s, f); e != want || !same(got, s) {
			t.Errorf("%d: %d, not %d: %v", i, e, want, got)
		}
	}
}

// Behind an answer that is whole, taken at once, the one that asked knows all that the other one did; behind one that
// isn't, the events of what came.
func TestWhatIsKnownBehindAnAnswer(t *testing.T) {
	s := node.Root()
	for key := range 5 {
		s, _ = node.Write(s, key, complex(float64(key), 0), "a")
	}
	s, _ = node.Delete(s, 0)
	for most := 1; most <= 6; most++ {
		far := node.State{Id: "05", Zone: zoneOf("half 1 0 3"), Members: []id.Id{"05"}}
		ask, _ := swap.Ask(far, "0")
		_, d, _ := swap.Answer(s, ask, most)
		got, e := swap.Take(far, d)
		if e != api.OK || d.Whole != (most >= 5) {
			t.Fatal(most, e, d)
		}
		want := know.Know{knows("0", 6)}
		if !d.Whole {
			want = know.Know{{Id: "0", Span: span.Union(span.Span{}, span.Span{Extra: []int{2, 3, 4, 5}[:most]})}}
		}
		if !know.Same(node.All(got), want) || !slices.Equal(got.Members, []id.Id{"0", "05"}) {
			t.Error(most, got)
		}
		if len(got.Store) != min(most, 5) {
			t.Error(most, got.Store)
		}
	}
}

func TestNoCallPanics(t *testing.T) {
	frames := []frame.Frame{{}, asking(), telling(), stale(at("0", 1)), stale(at("0", 9)), {Kind: frame.Ask, Zone: zone.Zone{{Op: 99}}, Know: know.Know{{}}}}
	for _, s := range append(sample.WrongStates(rich()), rich(), node.Root()) {
		ask, _ := swap.Ask(s, "02")
		_, d, _ := swap.Answer(rich(), with(asking(), func(f *frame.Frame) { f.To = "01" }), 32)
		for _, f := range append(frames, ask, d) {
			f.To = s.Id
			swap.Answer(s, f, 32)
			swap.Take(s, f)
		}
	}
}
