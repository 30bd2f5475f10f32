package swap_test

import (
	"math"
	"slices"
	"testing"

	"cenotaph/api"
	"cenotaph/cert"
	"cenotaph/frame"
	"cenotaph/id"
	"cenotaph/item"
	"cenotaph/know"
	"cenotaph/matrix"
	"cenotaph/node"
	"cenotaph/sample"
	"cenotaph/store"
	"cenotaph/swap"
	"cenotaph/vec"
	"cenotaph/zone"
)

// The names by which the tests speak of what package sample has.
var (
	at, row, knows, version  = sample.At, sample.Row, sample.Knows, sample.Version
	deadOne, stubOf, heldOne = sample.Dead, sample.Stub, sample.Held
	zoneOf, same             = sample.Zone, sample.Same
)

// with is x, changed.
func with[T any](x T, change func(*T)) T {
	change(&x)
	return x
}

// rich is a State that has something of each kind: 01, that the root named, heard of 02 and 03, and gave 03 up.
func rich() node.State {
	return node.State{
		Id: "01", Kids: 1, Seq: 3, Clock: 9,
		Know:  know.Know{knows("0", 2, 4, 6), knows("01", 3), knows("02", 0, 3)},
		Gone:  vec.Vec{at("03", 4)},
		Floor: vec.Vec{at("0", 1), at("03", 3)},
		Store: store.Store{
			heldOne(0, version("0", 2, 2), 3+4i, "in"), deadOne(2, version("01", 1, 3)), stubOf(3, version("0", 4, 5), 1i),
			stubOf(4, version("02", 3, 6), 9), heldOne(7, version("01", 3, 9), 9, "out"), deadOne(9, version("03", 4, 4)),
			stubOf(31, version("0", 6, 8), -5),
		},
		Zone:    zoneOf("disc 0 0 5"),
		Members: []id.Id{"0", "01", "011", "02", "03"},
		Certs:   cert.List{at("03", 5)},
		Rows:    matrix.Matrix{row("0", at("0", 2), at("01", 1)), row("01", at("0", 2), at("01", 3), at("03", 4)), row("02", at("0", 1))},
	}
}

// richAll is all that rich knows.
func richAll() know.Know {
	return know.Know{knows("0", 2, 4, 6), knows("01", 3), knows("02", 0, 3), knows("03", 4)}
}

// asking is what 02 asks of rich, that knows as much as rich's Floor says, of no other's events, and wants nothing.
func asking() frame.Frame {
	return frame.Frame{
		Kind: frame.Ask, From: "02", To: "01", Clock: 30,
		Know:    know.Know{knows("0", 1), knows("02", 1), knows("03", 3)},
		Members: []id.Id{"0", "01", "02", "021", "03"},
		Certs:   cert.List{at("021", 1), at("03", 2)},
		Rows:    matrix.Matrix{row("0", at("0", 1), at("03", 3)), row("01", at("01", 1)), row("02", at("0", 1), at("02", 1)), row("021", at("0", 1))},
		Zone:    zoneOf("disc 9 0 0,disc 0 1 0,or"),
	}
}

// telling is what 02 tells rich, of which some is new.
func telling() frame.Frame {
	return frame.Frame{
		Kind: frame.Data, From: "02", To: "01", Clock: 20,
		Know:    know.Know{knows("0", 6), knows("01", 2), knows("02", 5), knows("03", 3), knows("04", 2)},
		Members: []id.Id{"0", "01", "02", "021", "03", "04"},
		Certs:   cert.List{at("021", 1), at("03", 6)},
		Rows:    matrix.Matrix{row("0", at("0", 5)), row("01", at("02", 1)), row("04", at("04", 2))},
		Items: []item.Item{
			heldOne(0, version("02", 4, 1), 2, "too old"), deadOne(1, version("02", 2, 4)), heldOne(2, version("0", 5, 7), 8, "new"),
			stubOf(7, version("04", 2, 12), 2), heldOne(3, version("0", 4, 5), 1i, "its text"),
		},
	}
}

func stale(floor ...vec.At) frame.Frame {
	return frame.Frame{Kind: frame.Stale, From: "02", To: "01", Floor: floor}
}

// The chapter's example.
func TestExample(t *testing.T) {
	root, kid, _ := node.Child(node.Root())
	root, _ = node.Write(root, 3, 1+2i, "hi")
	f, e := swap.Ask(kid, "0")
	if e != api.OK {
		t.Fatal(e)
	}
	root, f, e = swap.Answer(root, f, 1)
	if e != api.OK || !f.Whole {
		t.Fatal(e, f)
	}
	kid, e = swap.Take(kid, f)
	if text, wrong := node.Read(kid, 3); e != api.OK || wrong != api.OK || text != "hi" {
		t.Error(e, wrong, text)
	}
	// the one that was asked knows how far the other one was when it asked
	if want := (matrix.Matrix{row("0", at("0", 1))}); !matrix.Same(root.Rows, want) {
		t.Error(root.Rows)
	}
	if want := (matrix.Matrix{row("0", at("0", 1)), row("01", at("0", 1))}); !matrix.Same(kid.Rows, want) {
		t.Error(kid.Rows)
	}
}

func TestAsk(t *testing.T) {
	s := rich()
	f, e := swap.Ask(s, "0444")
	want := frame.Frame{
		Kind: frame.Ask, From: "01", To: "0444", Know: richAll(), Clock: 9,
		Members: s.Members, Certs: s.Certs, Rows: s.Rows, Zone: s.Zone,
		Items: []item.Item{s.Store[2], s.Store[6]},
	}
	if e != api.OK || !frame.Same(f, want) || !frame.Right(f) {
		t.Error(e, f)
	}
	f, e = swap.Ask(node.Root(), "01")
	want = frame.Frame{Kind: frame.Ask, From: "0", To: "01", Members: []id.Id{"0"}, Zone: zone.Everywhere()}
	if e != api.OK || !frame.Same(f, want) || !frame.Right(f) {
		t.Error(e, f)
	}
}

func TestAskErrors(t *testing.T) {
	for _, how := range []int{node.Live, node.Retired, node.Expelled} {
		for to, want := range map[id.Id]api.Errno{"": api.ErrArg, "1": api.ErrArg, "00": api.ErrArg, "0111111": api.ErrArg,
			"01": api.ErrArg, "0": api.OK, "02": api.OK, "011": api.OK, "099999": api.OK} {
			s := rich()
			if s.How = how; how != node.Live {
				want = api.ErrState
			}
			f, e := swap.Ask(s, to)
			if e != want || want != api.OK && !frame.Same(f, frame.Frame{}) || want == api.OK && f.To != to {
				t.Errorf("one that is %d asks %q: %d, %v", how, to, e, f)
			}
		}
	}
}

func TestAnswer(t *testing.T) {
	s, f := rich(), asking()
	want := rich()
	want.Members = []id.Id{"0", "01", "011", "02", "021", "03"}
	want.Certs = cert.List{at("021", 1), at("03", 5)}
	want.Rows = matrix.Matrix{row("0", at("0", 2), at("01", 1), at("03", 3)), row("01", at("0", 2), at("01", 3), at("03", 4)),
		row("02", at("0", 1), at("02", 1), at("03", 3)), row("021", at("0", 1))}
	got, d, e := swap.Answer(s, f, api.MaxBatch)
	if e != api.OK || !same(got, want) {
		t.Errorf("%d,\n%v\n%v", e, got, want)
	}
	data := frame.Frame{
		Kind: frame.Data, From: "01", To: "02", Know: richAll(), Clock: 9,
		Members: want.Members, Certs: want.Certs, Rows: want.Rows,
		Items: []item.Item{
			stubOf(0, version("0", 2, 2), 3+4i), // it doesn't read there
			deadOne(2, version("01", 1, 3)), deadOne(9, version("03", 4, 4)),
			// what is under 3 and 4 is withheld: it reads there, and the texts aren't here
			stubOf(31, version("0", 6, 8), -5), heldOne(7, version("01", 3, 9), 9, "out"),
		},
	}
	if !frame.Same(d, data) || !frame.Right(d) {
		t.Errorf("\n%v\n%v", d, data)
	}
}

// What is sent is the first ones, and all of it is whole, just if nothing is withheld.
func TestAnswerOfSomeAtMost(t *testing.T) {
	all := zoneOf("half 1 0 3")
	_, whole, _ := swap.Answer(rich(), with(asking(), func(f *frame.Frame) { f.Zone = all; f.Know[1] = knows("02", 3) }), 32)
	if len(whole.Items) != 6 || !whole.Whole {
		t.Fatal(whole)
	}
	for most := 1; most <= api.MaxBatch; most++ {
		f := with(asking(), func(f *frame.Frame) { f.Zone = all; f.Know[1] = knows("02", 3) })
		_, d, e := swap.Answer(rich(), f, most)
		if n := min(most, 6); e != api.OK || !slices.Equal(d.Items, whole.Items[:n]) || d.Whole != (most >= 6) {
			t.Errorf("at most %d: %d, %v", most, e, d)
		}
		f = with(asking(), func(f *frame.Frame) { f.Zone = all })
		_, d, e = swap.Answer(rich(), f, most)
		if n := min(most, 6); e != api.OK || !slices.Equal(d.Items, whole.Items[:n]) || d.Whole {
			t.Errorf("at most %d, and one is withheld: %d, %v", most, e, d)
		}
	}
}

// Each of what one doesn't know by itself: what is sent of it, and is that whole?
func TestAnswerOfOne(t *testing.T) {
	v := version("01", 1, 1)
	for i, x := range []struct {
		has   item.Item
		want  []item.Item
		whole bool
	}{
		{deadOne(1, v), []item.Item{deadOne(1, v)}, true},
		{heldOne(1, v, 5, "a"), []item.Item{heldOne(1, v, 5, "a")}, true},
		{heldOne(1, v, 5, ""), []item.Item{heldOne(1, v, 5, "")}, true},
		{heldOne(1, v, 6, "a"), []item.Item{stubOf(1, v, 6)}, true},
		{stubOf(1, v, 6), []item.Item{stubOf(1, v, 6)}, true},
		{stubOf(1, v, 5), nil, false},
	} {
		s := node.Settle(node.State{Id: "01", Seq: 1, Clock: 1, Know: know.Know{knows("01", 1)}, Store: store.Store{x.has},
			Zone: zoneOf("all,not"), Members: []id.Id{"0", "01"}})
		f := frame.Frame{Kind: frame.Ask, From: "0", To: "01", Members: []id.Id{"0"}, Zone: zoneOf("disc 0 0 5")}
		_, d, e := swap.Answer(s, f, 1)
		if e != api.OK || !slices.Equal(d.Items, x.want) || d.Whole != x.whole {
			t.Errorf("%d: %d, %v", i, e, d)
		}
		// what it knows isn't sent, nor withheld
		f.Know = know.Know{knows("01", 1)}
		if _, d, e = swap.Answer(s, f, 1); e != api.OK || len(d.Items) > 0 || !d.Whole {
			t.Errorf("%d: %d, %v", i, e, d)
		}
	}
}

// What is wanted comes behind what isn't known, in the order in which it is wanted, and where it is here.
func TestAnswerOfWhatIsWanted(t *testing.T) {
	s, f := rich(), asking()
	f.Know = know.Know{knows("0", 6), knows("01", 1, 3), knows("02", 3), knows("03", 3)}
	f.Items = []item.Item{
		stubOf(7, version("01", 3, 9), 9), stubOf(3, version("0", 4, 5), 1i), stubOf(0, version("0", 1, 2), 3+4i),
		stubOf(0, version("0", 2, 1), 3+4i), stubOf(0, version("02", 2, 2), 3+4i), stubOf(0, version("0", 2, 2), 0),
		stubOf(2, version("01", 1, 3), 0), stubOf(30, version("0", 2, 2), 3+4i),
	}
	want := []item.Item{deadOne(9, version("03", 4, 4)), heldOne(7, version("01", 3, 9), 9, "out"), heldOne(0, version("0", 2, 2), 3+4i, "in")}
	for most := 1; most <= 4; most++ {
		_, d, e := swap.Answer(s, f, most)
		if n := min(most, 3); e != api.OK || !slices.Equal(d.Items, want[:n]) || d.Whole != (most >= 3) {
			t.Errorf("at most %d: %d, %v", most, e, d)
		}
	}
}

// As many as there are keys is what there may be in all.
func TestAnswerOfAllKeys(t *testing.T) {
	s := node.Root()
	for key := range api.MaxKeys {
		s, _ = node.Write(s, api.MaxKeys-1-key, 0, "a")
	}
	f := frame.Frame{Kind: frame.Ask, From: "01", To: "0", Members: []id.Id{"0", "01"}, Zone: zone.Everywhere()}
	for _, most := range []int{31, 32} {
		_, d, e := swap.Answer(s, f, most)
		if e != api.OK || len(d.Items) != most || d.Whole != (most == 32) || d.Items[0].Key != 31 || d.Items[30].Key != 1 {
			t.Error(e, d)
		}
	}
}

// Who was let go too much of is told so, and nothing else happens.
func TestAnswerOfOneThatKnowsTooLittle(t *testing.T) {
	for i, k := range []know.Know{
		nil, {knows("03", 3)}, {knows("0", 9), knows("02", 9), knows("03", 2)}, {knows("0", 9), knows("03", 0, 3)},
		{knows("0", 9), knows("03", 1, 3, 4, 5)}, {knows("0", 0, 2), knows("03", 3)}, {knows("0", 9), knows("031", 3)},
	} {
		s, f := rich(), asking()
		f.Know = k
		f.Certs = cert.List{at("01", 4)}
		want := frame.Frame{Kind: frame.Stale, From: "01", To: "02", Floor: s.Floor}
		for _, s := range []node.State{s, unsettled(s)} {
			if got, d, e := swap.Answer(s, f, 1); e != api.OK || !same(got, s) || !frame.Same(d, want) {
				t.Errorf("%d: %d, %v, %v", i, e, d, got)
			}
		}
	}
	for i, k := range []know.Know{
		{knows("0", 1), knows("03", 3)}, {knows("0", 1, 3), knows("03", 4, 7)}, {knows("0", 9), knows("01", 9), knows("03", 9)},
	} {
		f := asking()
		f.Know = k
		if _, d, e := swap.Answer(rich(), f, 1); e != api.OK || d.Kind != frame.Data {
			t.Errorf("%d: %d, %v", i, e, d)
		}
	}
}

// Who hears, as it is asked, that it is no member any more is retired, but answers still.
func TestAnswerOfOneThatHearsOfItsCertificate(t *testing.T) {
	f := asking()
	f.Certs = cert.List{at("01", 4)}
	got, d, e := swap.Answer(rich(), f, 32)
	if e != api.OK || got.How != node.Retired || d.Kind != frame.Data || len(d.Items) != 5 || cert.Last(d.Certs, "01") != 3 {
		t.Error(e, got, d)
	}
	if _, _, e = swap.Answer(got, f, 32); e != api.ErrState {
		t.Error(e)
	}
}

// Who isn't settled is so when it sends.
func TestAnswerSettles(t *testing.T) {
	s := rich()
	s.Rows = nil
	want := row("01", at("0", 2), at("01", 3), at("03", 4))
	got, d, e := swap.Answer(s, asking(), 32)
	if e != api.OK || !vec.Same(matrix.Of(got.Rows, "01"), want.Vec) || !vec.Same(matrix.Of(d.Rows, "01"), want.Vec) {
		t.Error(e, got.Rows, d.Rows)
	}
}

// Of one that asked it is known how far it was without holes; who knows nothing has no Row.
func TestAnswerPutsARow(t *testing.T) {
	s := node.Root()
	for _, x := range []struct {
		k    know.Know
		want vec.Vec
	}{{nil, nil}, {know.Know{knows("0", 0, 2), knows("05", 2, 4)}, vec.Vec{at("05", 2)}}} {
		f := frame.Frame{Kind: frame.Ask, From: "05", To: "0", Know: x.k, Zone: zone.Everywhere()}
		got, d, e := swap.Answer(s, f, 32)
		if e != api.OK || !vec.Same(matrix.Of(got.Rows, "05"), x.want) || !matrix.Same(d.Rows, got.Rows) || !matrix.Right(d.Rows) {
			t.Error(e, got, d)
		}
		// it isn't a member by that alone, and what it knows isn't known here
		if len(got.Members) != 1 || len(got.Know) != 0 || got.Clock != 0 {
			t.Error(got)
		}
	}
}

func TestAnswerErrors(t *testing.T) {
	right := asking()
	for i, f := range []frame.Frame{
		{}, telling(), stale(at("0", 1)), {Kind: 4, From: "02", To: "01"}, with(right, func(f *frame.Frame) { f.Kind = 0 }),
		with(right, func(f *frame.Frame) { f.Kind = frame.Data; f.Zone = nil }), with(right, func(f *frame.Frame) { f.From = "2" }),
		with(right, func(f *frame.Frame) { f.Zone = nil }), with(right, func(f *frame.Frame) { f.Clock = -1 }),
		with(right, func(f *frame.Frame) { f.Whole = true }), with(right, func(f *frame.Frame) { f.Items = telling().Items }),
	} {
		refusesAnswer(t, rich(), f, 1, api.ErrArg, i)
	}
	for _, most := range []int{math.MinInt, -1, 0, 33, math.MaxInt} {
		refusesAnswer(t, rich(), right, most, api.ErrArg, most)
	}
	for n := range 8 {
		s, f, most, want := rich(), right, 32, api.OK
		if n&4 != 0 {
			s.How, want = 1+n%2, api.ErrState
		}
		if n&2 != 0 {
			f.To, want = "02", api.ErrId
		}
		if n&1 != 0 {
			most, want = 0, api.ErrArg
		}
		if want != api.OK {
			refusesAnswer(t, s, f, most, want, n)
			// that comes ahead of whether it knows enough
			refusesAnswer(t, s, with(f, func(f *frame.Frame) { f.Know = nil }), most, want, n)
		}
	}
}

func refusesAnswer(t *testing.T, s node.State, f frame.Frame, most int, want api.Errno, i int) {
	t.Helper()
	for _, s := range []node.State{s, unsettled(s)} {
		got, d, e := swap.Answer(s, f, most)
		if e != want || !same(got, s) || !frame.Same(d, frame.Frame{}) {
			t.Errorf("%d: %d, not %d: %v, %v", i, e, want, got, d)
		}
	}
}

// unsettled is s that doesn't tell yet how far it is itself, as behind node.Learn: what stays as it is isn't settled.
func unsettled(s node.State) node.State {
	s.Rows = matrix.Drop(s.Rows, s.Id)
	return s
}
