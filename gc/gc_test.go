package gc_test

import (
	"slices"
	"testing"

	"cenotaph/api"
	"cenotaph/cert"
	"cenotaph/gc"
	"cenotaph/id"
	"cenotaph/know"
	"cenotaph/matrix"
	"cenotaph/node"
	"cenotaph/sample"
	"cenotaph/store"
	"cenotaph/vec"
	"cenotaph/zone"
)

// The names by which the tests speak of what package sample has.
var (
	at, row, knows, version  = sample.At, sample.Row, sample.Knows, sample.Version
	deadOne, stubOf, heldOne = sample.Dead, sample.Stub, sample.Held
	zoneOf, same             = sample.Zone, sample.Same
)

func sameReport(a, b gc.Report) bool {
	return slices.Equal(a.Tombs, b.Tombs) && slices.Equal(a.Texts, b.Texts) && slices.Equal(a.Ids, b.Ids)
}

// with is x, changed.
func with[T any](x T, change func(*T)) T {
	change(&x)
	return x
}

// rich is 01, that knows that 0 and 02 are as far as 0: 3, 01: 4, 03: 5, and 05: 2; of 03 to 06 there are certificates.
func rich() node.State {
	return node.State{
		Id: "01", Kids: 2, Seq: 5, Clock: 20,
		Know:  know.Know{knows("0", 4), knows("01", 5), knows("02", 1), knows("03", 5), knows("04", 1), knows("05", 2, 4)},
		Gone:  vec.Vec{at("06", 3)},
		Floor: vec.Vec{at("01", 2), at("03", 5)},
		Store: store.Store{
			deadOne(1, version("0", 3, 5)), deadOne(2, version("0", 4, 6)), deadOne(3, version("01", 1, 4)),
			heldOne(4, version("01", 4, 10), 6, "out"), heldOne(5, version("01", 5, 11), 7, "out, and new"),
			heldOne(6, version("01", 3, 9), 5, "in"), deadOne(8, version("03", 4, 8)), stubOf(9, version("0", 1, 1), 8),
			stubOf(10, version("0", 2, 2), 1), deadOne(11, version("05", 2, 9)), deadOne(12, version("05", 4, 12)),
			heldOne(20, version("03", 1, 1), -6, "out"), deadOne(31, version("0", 1, 7)),
		},
		Zone:    zoneOf("disc 0 0 5"),
		Members: []id.Id{"0", "01", "02", "03", "04", "05", "06"},
		Certs:   cert.List{at("03", 6), at("04", 1), at("05", 2), at("06", 1)},
		Rows: matrix.Matrix{
			row("0", at("0", 4), at("01", 4), at("03", 5), at("05", 2)),
			row("01", at("0", 4), at("01", 5), at("02", 1), at("03", 5), at("04", 1), at("05", 2), at("06", 3)),
			row("02", at("0", 3), at("01", 5), at("03", 9), at("05", 2)),
			row("03", at("0", 1)), row("05", at("03", 1)),
		},
	}
}

// The chapter's example.
func TestExample(t *testing.T) {
	s, _ := node.Write(node.Root(), 7, 0, "a")
	s, _ = node.Delete(s, 7)
	got, r := gc.Step(s)
	want := with(s, func(s *node.State) { s.Store, s.Floor = nil, vec.Vec{at("0", 2)} })
	if !same(got, want) || !sameReport(r, gc.Report{Tombs: []int{7}}) {
		t.Error(got, r)
	}
}

func TestStable(t *testing.T) {
	want := vec.Vec{at("0", 3), at("01", 4), at("03", 5), at("05", 2)}
	for _, how := range []int{node.Live, node.Retired, node.Expelled} {
		if v := gc.Stable(with(rich(), func(s *node.State) { s.How = how })); !vec.Same(v, want) {
			t.Error(how, v)
		}
	}
	for i, x := range []struct {
		change func(*node.State)
		want   vec.Vec
	}{
		{func(s *node.State) { s.Rows = matrix.Drop(s.Rows, "01") }, want}, // it is Settled first
		{func(s *node.State) { s.Rows[1] = row("01", at("0", 1)) }, want},
		{func(s *node.State) { s.Rows = matrix.Drop(s.Rows, "03") }, want}, // it is no member any more
		{func(s *node.State) { s.Rows = matrix.Drop(s.Rows, "02") }, nil},
		{func(s *node.State) { s.Members = append(s.Members, "07") }, nil}, // it may be nowhere yet
		{func(s *node.State) { s.Certs = cert.Put(s.Certs, "02", 0) }, vec.Vec{at("0", 4), at("01", 4), at("03", 5), at("05", 2)}},
		{func(s *node.State) { s.Certs = nil }, nil},
		{func(s *node.State) { s.Members = []id.Id{"01"} }, know.Firsts(node.All(rich()))},
		{func(s *node.State) { s.Members = nil }, nil},
		{func(s *node.State) { s.Members = []id.Id{"03", "04"} }, nil},
	} {
		if v := gc.Stable(with(rich(), x.change)); !vec.Same(v, x.want) {
			t.Errorf("%d: %v, not %v", i, v, x.want)
		}
	}
	if v := gc.Stable(node.Root()); len(v) != 0 {
		t.Error(v)
	}
}

func TestStep(t *testing.T) {
	s := rich()
	want := with(rich(), func(s *node.State) {
		s.Floor = vec.Vec{at("0", 3), at("01", 2), at("03", 5), at("05", 2)}
		s.Store = store.Store{
			s.Store[1], stubOf(4, version("01", 4, 10), 6), s.Store[4], s.Store[5], s.Store[7], s.Store[8], s.Store[10],
			stubOf(20, version("03", 1, 1), -6),
		}
		s.Know, s.Gone = know.Drop(s.Know, "03"), vec.Vec{at("03", 5), at("06", 3)}
		s.Rows = s.Rows[:3]
	})
	got, r := gc.Step(s)
	if !same(got, want) {
		t.Errorf("\n%v\n%v", got, want)
	}
	if !sameReport(r, gc.Report{Tombs: []int{1, 3, 8, 11, 31}, Texts: []int{4, 20}, Ids: []id.Id{"03"}}) {
		t.Error(r)
	}
	// all that goes goes at once
	if again, r := gc.Step(got); !same(again, got) || !sameReport(r, gc.Report{}) {
		t.Error(again, r)
	}
}

// Nothing goes from one that isn't Live, nor is it settled; one that is is settled though nothing goes.
func TestStepOfOneThatIsNotLive(t *testing.T) {
	for _, how := range []int{node.Live, node.Retired, node.Expelled} {
		s := with(rich(), func(s *node.State) { s.How, s.Rows = how, nil })
		want := s
		if how == node.Live {
			want = node.Settle(s)
		}
		if got, r := gc.Step(s); !same(got, want) || !sameReport(r, gc.Report{}) {
			t.Error(how, got, r)
		}
	}
}

// pair is the root with a child that is as far as that; of both all is known without holes up to n.
func pair(n, far int) node.State {
	return node.Settle(node.State{
		Id: "0", Kids: 1, Seq: n, Clock: n, Know: know.Know{knows("0", n)}, Zone: zone.Everywhere(),
		Members: []id.Id{"0", "01"}, Rows: matrix.Put(nil, "01", know.Firsts(know.From(vec.Set(nil, "0", far)))),
	})
}

// A tombstone goes as soon as all know of it, and not ahead of that.
func TestTombs(t *testing.T) {
	for far := range 5 {
		s := pair(4, far)
		s.Store = store.Store{deadOne(0, version("0", 2, 2)), deadOne(1, version("0", 3, 3)), heldOne(2, version("0", 1, 1), 0, "a")}
		got, r := gc.Step(s)
		floor, keys := vec.Vec(nil), []int(nil)
		if far >= 2 {
			floor, keys = vec.Vec{at("0", 2)}, []int{0}
		}
		if far >= 3 {
			floor, keys = vec.Vec{at("0", 3)}, []int{0, 1}
		}
		if !vec.Same(got.Floor, floor) || !sameReport(r, gc.Report{Tombs: keys}) || !store.Same(got.Store, s.Store[len(keys):]) {
			t.Error(far, got, r)
		}
	}
}

// The Floor of one never sinks, whichever of its tombstones goes last.
func TestFloorRises(t *testing.T) {
	for _, floor := range []int{0, 1, 2, 3, 4} {
		s := pair(4, 4)
		s.Floor = vec.Set(nil, "0", floor)
		s.Store = store.Store{deadOne(0, version("0", 3, 3)), deadOne(1, version("0", 2, 2))}
		if got, _ := gc.Step(s); !vec.Same(got.Floor, vec.Vec{at("0", max(3, floor))}) {
			t.Error(floor, got.Floor)
		}
	}
}

// A text goes where it isn't read, and as soon as all know of it; what is left is its stub.
func TestTexts(t *testing.T) {
	for far := range 4 {
		for _, spot := range []complex128{5, 6} {
			s := pair(3, far)
			s.Zone = zoneOf("disc 0 0 5")
			s.Store = store.Store{heldOne(3, version("0", 2, 2), spot, "a"), stubOf(4, version("0", 1, 1), 7)}
			want, keys := slices.Clone(s.Store), []int(nil)
			if far >= 2 && spot == 6 {
				want[0], keys = stubOf(3, version("0", 2, 2), 6), []int{3}
			}
			if got, r := gc.Step(s); !store.Same(got.Store, want) || !sameReport(r, gc.Report{Texts: keys}) || len(got.Floor) > 0 {
				t.Error(far, spot, got, r)
			}
		}
	}
}

// Who went is left out of Know once all is known of it, by all; its Row of Rows goes in any case.
func TestIds(t *testing.T) {
	for i, x := range []struct {
		knows  []know.Row // of 02
		last   int
		stable int
		goes   bool
	}{
		{[]know.Row{knows("02", 3)}, 3, 3, true}, {[]know.Row{knows("02", 3)}, 3, 2, false}, {[]know.Row{knows("02", 3)}, 3, 4, true},
		{[]know.Row{knows("02", 3)}, 2, 3, true}, {[]know.Row{knows("02", 3)}, 4, 3, false}, {[]know.Row{knows("02", 3)}, 4, 4, false},
		{[]know.Row{knows("02", 3)}, 0, 3, true}, {[]know.Row{knows("02", 1)}, 0, 1, true}, {[]know.Row{knows("02", 1)}, 0, 0, false},
		{[]know.Row{knows("02", 3, 5)}, 3, 3, false}, {[]know.Row{knows("02", 3, 5)}, 5, 5, false}, {[]know.Row{knows("02", 0, 2)}, 0, 0, false},
		{nil, 0, 0, false}, {nil, 0, 3, false}, {nil, 3, 3, false},
	} {
		s := pair(4, 4)
		s.Know = append(s.Know, x.knows...)
		s.Members = []id.Id{"0", "01", "02"}
		s.Certs = cert.Put(nil, "02", x.last)
		s.Rows = matrix.Put(s.Rows, "02", vec.Vec{at("0", 1)})
		s.Rows = matrix.Put(s.Rows, "01", vec.Set(nil, "02", x.stable))
		// its own Row tells of more than it knows, so that Stable hangs on the other one's alone
		s.Rows = matrix.Put(s.Rows, "0", vec.Vec{at("02", 9)})
		got, r := gc.Step(s)
		want := with(s, func(s *node.State) { s.Rows = matrix.Drop(s.Rows, "02") })
		var ids []id.Id
		if x.goes {
			ids, want.Know, want.Gone = []id.Id{"02"}, s.Know[:1], vec.Vec{at("02", x.knows[0].Span.Upto)}
		}
		if !same(got, want) || !sameReport(r, gc.Report{Ids: ids}) || !know.Same(node.All(got), node.All(s)) {
			t.Errorf("%d: %v, %v", i, got, r)
		}
	}
}

// Of several all that may go goes, in their order; those without a certificate stay.
func TestIdsOfSeveral(t *testing.T) {
	s := pair(2, 2)
	s.Members = []id.Id{"0", "01", "02", "021", "03", "04"}
	s.Know = know.Know{knows("0", 2), knows("01", 1), knows("02", 2), knows("021", 1), knows("03", 1)}
	s.Gone = vec.Vec{at("04", 7)}
	s.Certs = cert.List{at("02", 3), at("021", 2), at("03", 2), at("04", 8)}
	s.Rows = matrix.Put(s.Rows, "01", vec.Vec{at("01", 1), at("02", 2), at("021", 1), at("03", 1)})
	got, r := gc.Step(node.Settle(s))
	if !sameReport(r, gc.Report{Ids: []id.Id{"02", "021", "03"}}) || !know.Same(got.Know, know.Know{knows("0", 2), knows("01", 1)}) {
		t.Error(got, r)
	}
	if want := (vec.Vec{at("02", 2), at("021", 1), at("03", 1), at("04", 7)}); !vec.Same(got.Gone, want) {
		t.Error(got.Gone)
	}
}

// What is known, and read, is as ahead.
func TestStepLeavesWhatIsKnownAndRead(t *testing.T) {
	s := rich()
	got, _ := gc.Step(s)
	if !know.Same(node.All(got), node.All(s)) {
		t.Error(node.All(got))
	}
	for key := range api.MaxKeys {
		a, e := node.Read(s, key)
		b, f := node.Read(got, key)
		if a != b || e != f {
			t.Error(key, a, e, b, f)
		}
	}
}

func TestNoCallPanics(t *testing.T) {
	for _, s := range sample.WrongStates(rich()) {
		gc.Stable(s)
		gc.Step(s)
		s.How = node.Retired
		gc.Step(s)
	}
}
