package node_test

import (
	"math"
	"slices"
	"strings"
	"testing"

	"cenotaph/api"
	"cenotaph/id"
	"cenotaph/item"
	"cenotaph/know"
	"cenotaph/matrix"
	"cenotaph/node"
	"cenotaph/store"
	"cenotaph/vec"
	"cenotaph/zone"
)

// hows is what How may be, and what it may not: of these just 0 is Live.
var hows = []int{node.Live, node.Retired, node.Expelled, 3, -1, math.MaxInt}

func TestRead(t *testing.T) {
	want := map[int]api.Errno{0: api.OK, 1: api.ErrNone, 2: api.ErrNone, 3: api.ErrPending, 4: api.ErrHidden, 7: api.ErrHidden,
		9: api.ErrNone, 30: api.ErrNone, 31: api.ErrPending}
	for _, how := range hows {
		for _, key := range keys {
			s := rich(t)
			s.How = how
			e, inside := want[key]
			switch {
			case how != node.Live:
				e = api.ErrState
			case !inside:
				e = api.ErrKey
			}
			text := ""
			if e == api.OK {
				text = "in"
			}
			if got, f := node.Read(s, key); got != text || f != e {
				t.Errorf("one that is %d reads under %d: %q, %d", how, key, got, f)
			}
		}
	}
}

func TestReadOfTexts(t *testing.T) {
	for _, text := range []string{"", "a", "\x00\xff", "sixteen bytes !!"} {
		s := rich(t)
		s.Store = store.Store{heldOne(5, version("0", 1, 1), 0, text)}
		if got, e := node.Read(s, 5); got != text || e != api.OK {
			t.Errorf("%q, %d", got, e)
		}
	}
}

func TestWants(t *testing.T) {
	for _, how := range hows {
		s := rich(t)
		s.How = how
		want := []item.Item{stubOf(3, version("0", 4, 5), 1i), stubOf(31, version("0", 6, 8), -5)}
		if got := node.Wants(s); !slices.Equal(got, want) {
			t.Errorf("one that is %d wants %v", how, got)
		}
		s.Zone = zone.Everywhere()
		want = slices.Insert(want, 1, stubOf(4, version("02", 3, 6), 9))
		if got := node.Wants(s); !slices.Equal(got, want) {
			t.Errorf("one that is %d wants %v", how, got)
		}
		s.Zone = zoneOf(t, "all,not")
		if got := node.Wants(s); len(got) != 0 {
			t.Errorf("one that is %d wants %v", how, got)
		}
	}
	if got := node.Wants(node.Root()); len(got) != 0 {
		t.Error(got)
	}
}

// Wants is of just those keys of which Read tells that they are pending, in all zones.
func TestWantsIsWhatIsPending(t *testing.T) {
	for _, text := range []string{"all", "disc 0 0 5", "disc 0 1 0", "half 1 0 9", "half 1 0 9,not", "disc 0 0 5,not"} {
		s := rich(t)
		s.Zone = zoneOf(t, text)
		var want []item.Item
		for key := range api.MaxKeys {
			if _, e := node.Read(s, key); e == api.ErrPending {
				x, _ := store.Get(s.Store, key)
				want = append(want, x)
			}
		}
		if got := node.Wants(s); !slices.Equal(got, want) {
			t.Errorf("in %s: %v", text, got)
		}
	}
}

// first is the error named first of those that apply.
func first(l []api.Errno, applies int) api.Errno {
	for i, e := range l {
		if applies>>i&1 == 1 {
			return e
		}
	}
	return api.OK
}

func pick[T any](wrong bool, ifWrong, else_ T) T {
	if wrong {
		return ifWrong
	}
	return else_
}

// All ways in which a call may be wrong, at once: the error named first is answered, and the State is as it was.
func TestWriteErrors(t *testing.T) {
	errors := []api.Errno{api.ErrState, api.ErrKey, api.ErrSpot, api.ErrZone, api.ErrText, api.ErrSeq, api.ErrSeq}
	for n := range 1 << len(errors) {
		wrong := func(i int) bool { return n>>i&1 == 1 }
		s := rich(t)
		s.How = pick(wrong(0), node.Retired, node.Live)
		key := pick(wrong(1), 32, 31)
		spot := pick(wrong(2), 1.5, pick(wrong(3), 6+0i, 5))
		text := strings.Repeat("a", pick(wrong(4), 17, 16))
		s.Seq = pick(wrong(5), api.MaxSeq-1, 3)
		s.Clock = pick(wrong(6), api.MaxSeq-1, 9)
		got, e := node.Write(s, key, spot, text)
		if want := first(errors, n); e != want || want != api.OK && !same(got, s) {
			t.Errorf("%07b: %d, %v", n, e, got)
		}
	}
}

func TestDeleteErrors(t *testing.T) {
	errors := []api.Errno{api.ErrState, api.ErrKey, api.ErrNone, api.ErrSeq, api.ErrSeq}
	for n := range 1 << len(errors) {
		wrong := func(i int) bool { return n>>i&1 == 1 }
		for _, none := range []int{1, 2, 9, 30} {
			s := rich(t)
			s.How = pick(wrong(0), node.Expelled, node.Live)
			key := pick(wrong(1), -1, pick(wrong(2), none, 0))
			s.Seq = pick(wrong(3), api.MaxSeq-1, 3)
			s.Clock = pick(wrong(4), api.MaxSeq-1, 9)
			got, e := node.Delete(s, key)
			if want := first(errors, n); e != want || want != api.OK && !same(got, s) {
				t.Errorf("%05b: %d, %v", n, e, got)
			}
		}
	}
}

func TestSetZoneErrors(t *testing.T) {
	for n := range 8 {
		for _, z := range []zone.Zone{nil, {{Op: zone.Not}}, {{Op: zone.All}, {Op: zone.All}}, {{Op: zone.Disc, Size: 2001}}} {
			s := rich(t)
			s.How = pick(n&1 == 1, node.Retired, node.Live)
			s.Id = pick[id.Id](n&2 == 2, "0", "01")
			if n&4 == 0 {
				z = zoneOf(t, "half 1 0 3")
			}
			got, e := node.SetZone(s, z)
			if want := first([]api.Errno{api.ErrState, api.ErrRoot, api.ErrZone}, n); e != want || want != api.OK && !same(got, s) {
				t.Errorf("%03b: %d, %v", n, e, got)
			}
		}
	}
}

func TestWrongKeysAndHows(t *testing.T) {
	for _, how := range hows {
		for _, key := range keys {
			s := rich(t)
			s.How = how
			want := api.OK
			switch {
			case how != node.Live:
				want = api.ErrState
			case key < 0 || key > 31:
				want = api.ErrKey
			}
			if got, e := node.Write(s, key, 0, ""); e != want || want != api.OK && !same(got, s) {
				t.Errorf("one that is %d writes under %d: %d", how, key, e)
			}
			if x, found := store.Get(s.Store, key); want == api.OK && (!found || x.Dead) {
				want = api.ErrNone
			}
			if got, e := node.Delete(s, key); e != want || want != api.OK && !same(got, s) {
				t.Errorf("one that is %d deletes under %d: %d", how, key, e)
			}
		}
	}
}

func TestSpots(t *testing.T) {
	null := math.Copysign(0, -1)
	for _, c := range []struct {
		spot complex128
		want api.Errno
	}{
		{0, api.OK}, {complex(null, null), api.OK}, {1000 - 1000i, api.OK}, {-1000 + 1000i, api.OK},
		{1001, api.ErrSpot}, {-1001i, api.ErrSpot}, {0.5, api.ErrSpot}, {1 + 1e-9i, api.ErrSpot},
		{complex(math.NaN(), 0), api.ErrSpot}, {complex(0, math.NaN()), api.ErrSpot}, {complex(math.Inf(1), 0), api.ErrSpot}, {complex(0, math.Inf(-1)), api.ErrSpot},
	} {
		s, e := node.Write(node.Root(), 0, c.spot, "a")
		if e != c.want {
			t.Errorf("%v: %d", c.spot, e)
		}
		if x, found := store.Get(s.Store, 0); found != (e == api.OK) || found && x.Spot != c.spot {
			t.Errorf("%v: %v", c.spot, x)
		}
	}
}

func TestWriteChangesJustThis(t *testing.T) {
	for _, key := range []int{0, 1, 2, 3, 7, 31} {
		for _, text := range []string{"", "new", "sixteen bytes !!"} {
			s := rich(t)
			want := s
			want.Seq, want.Clock = 4, 10
			want.Know = know.Know{s.Know[0], knows("01", 4), s.Know[2]}
			want.Rows = matrix.Matrix{s.Rows[0], row("01", at("0", 2), at("01", 4), at("03", 4)), s.Rows[2]}
			want.Store = store.Drop(s.Store, key)
			want.Store, _ = store.Put(want.Store, heldOne(key, version("01", 4, 10), -3+4i, text))
			got, e := node.Write(s, key, -3+4i, text)
			if e != api.OK || !same(got, want) {
				t.Errorf("%d, %q: %d, %v", key, text, e, got)
			}
			if back, e := node.Read(got, key); back != text || e != api.OK {
				t.Errorf("%d, %q: %q, %d", key, text, back, e)
			}
		}
	}
}

// What is hidden, or pending, is deleted as well.
func TestDeleteChangesJustThis(t *testing.T) {
	for _, key := range []int{0, 3, 4, 7, 31} {
		s := rich(t)
		want := s
		want.Seq, want.Clock = 4, 10
		want.Know = know.Know{s.Know[0], knows("01", 4), s.Know[2]}
		want.Rows = matrix.Matrix{s.Rows[0], row("01", at("0", 2), at("01", 4), at("03", 4)), s.Rows[2]}
		want.Store = store.Drop(s.Store, key)
		want.Store, _ = store.Put(want.Store, deadOne(key, version("01", 4, 10)))
		got, e := node.Delete(s, key)
		if e != api.OK || !same(got, want) {
			t.Errorf("%d: %d, %v", key, e, got)
		}
		if text, e := node.Read(got, key); text != "" || e != api.ErrNone {
			t.Errorf("%d: %q, %d", key, text, e)
		}
		if again, e := node.Delete(got, key); e != api.ErrNone || !same(again, got) {
			t.Errorf("%d: %d", key, e)
		}
	}
}

func TestFirstEventOfAll(t *testing.T) {
	s, e := node.Write(node.Root(), 0, 0, "a")
	want := node.Root()
	want.Seq, want.Clock, want.Know = 1, 1, know.Know{knows("0", 1)}
	want.Store = store.Store{heldOne(0, version("0", 1, 1), 0, "a")}
	want.Rows = matrix.Matrix{row("0", at("0", 1))}
	if e != api.OK || !same(s, want) {
		t.Error(e, s)
	}
}

func TestSetZoneChangesJustThis(t *testing.T) {
	for _, text := range []string{"all", "half 1 0 3", "disc 0 0 5,not", "disc 0 0 5"} {
		s := rich(t)
		want := s
		want.Zone = zoneOf(t, text)
		if got, e := node.SetZone(s, zoneOf(t, text)); e != api.OK || !same(got, want) {
			t.Errorf("%s: %d, %v", text, e, got)
		}
	}
}

// The last number that is left: 1048575, as an event's number and as a stamp.
func TestLastNumbers(t *testing.T) {
	for _, c := range []struct {
		seq, clock int
		want       api.Errno
	}{
		{api.MaxSeq - 2, api.MaxSeq - 2, api.OK}, {5, api.MaxSeq - 2, api.OK},
		{api.MaxSeq - 1, api.MaxSeq - 1, api.ErrSeq}, {5, api.MaxSeq - 1, api.ErrSeq}, {5, api.MaxSeq, api.ErrSeq},
		{api.MaxSeq - 1, api.MaxSeq - 2, api.ErrSeq}, {api.MaxSeq, api.MaxSeq, api.ErrSeq}, {math.MaxInt, 5, api.ErrSeq}, {5, math.MaxInt, api.ErrSeq},
	} {
		s := node.Root()
		s.Seq, s.Clock = c.seq, c.clock
		s.Know = know.From(vec.Set(nil, "0", c.seq))
		s.Store = store.Store{heldOne(3, version("0", 5, 5), 0, "a")}
		s = node.Settle(s)
		for i, call := range []func() (node.State, api.Errno){
			func() (node.State, api.Errno) { return node.Write(s, 3, 0, "b") },
			func() (node.State, api.Errno) { return node.Delete(s, 3) },
		} {
			got, e := call()
			if e != c.want || e != api.OK && !same(got, s) {
				t.Fatalf("%d: Seq %d, Clock %d: %d", i, c.seq, c.clock, e)
			}
			if e != api.OK {
				continue
			}
			x, _ := store.Get(got.Store, 3)
			if x.Ver != version("0", c.seq+1, c.clock+1) || got.Seq != c.seq+1 || got.Clock != c.clock+1 || !store.Right(got.Store) ||
				!know.Right(got.Know) || !know.Has(got.Know, "0", c.seq+1) || vec.Of(matrix.Of(got.Rows, "0"), "0") != c.seq+1 {
				t.Errorf("%d: %v", i, got)
			}
		}
	}
}

// Each call that changes a State settles it, whatever it changes.
func TestCallsSettle(t *testing.T) {
	s := rich(t)
	s.Rows = nil
	full := matrix.Matrix{row("01", at("0", 2), at("01", 3), at("03", 4))}
	more := matrix.Matrix{row("01", at("0", 2), at("01", 4), at("03", 4))}
	written, _ := node.Write(s, 0, 0, "")
	deleted, _ := node.Delete(s, 0)
	zoned, _ := node.SetZone(s, zone.Everywhere())
	expelled, _ := node.Expel(s, "02")
	for i, c := range []struct {
		got  node.State
		want matrix.Matrix
	}{{written, more}, {deleted, more}, {zoned, full}, {expelled, full}} {
		if !matrix.Same(c.got.Rows, c.want) {
			t.Errorf("%d: %v", i, c.got.Rows)
		}
	}
}
