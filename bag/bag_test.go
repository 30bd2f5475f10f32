package bag_test

import (
	"bytes"
	"fmt"
	"math"
	"math/rand/v2"
	"slices"
	"testing"

	"cenotaph/api"
	"cenotaph/bag"
	"cenotaph/cert"
	"cenotaph/frame"
	"cenotaph/id"
	"cenotaph/item"
	"cenotaph/know"
	"cenotaph/matrix"
	"cenotaph/sample"
	"cenotaph/vec"
)

// The names by which the tests speak of what package sample has.
var (
	at, row, knows, version = sample.At, sample.Row, sample.Knows, sample.Version
	stubOf, heldOne, zoneOf = sample.Stub, sample.Held, sample.Zone
)

func ask() frame.Frame {
	return frame.Frame{
		Kind: frame.Ask, From: "01", To: "0", Clock: 9, Know: know.Know{knows("0", 2, 4, 6), knows("01", 3)},
		Members: []id.Id{"0", "01", "02"}, Certs: cert.List{at("02", 3)}, Rows: matrix.Matrix{row("0", at("0", 2)), row("01", at("01", 3))},
		Zone: zoneOf("disc 0 0 5"), Items: []item.Item{stubOf(3, version("0", 4, 5), 1i)},
	}
}

func data() frame.Frame {
	return frame.Frame{
		Kind: frame.Data, From: "0", To: "01", Clock: 9, Know: know.Know{knows("0", 4)}, Members: []id.Id{"0", "01"},
		Certs: cert.List{at("02", 3)}, Rows: matrix.Matrix{row("0", at("0", 4))},
		Items: []item.Item{heldOne(3, version("0", 4, 5), 1i, "text")}, Whole: true,
	}
}

func stale() frame.Frame {
	return frame.Frame{Kind: frame.Stale, From: "02", To: "011", Floor: vec.Vec{at("0", 1), at("03", 3)}}
}

func frames() []frame.Frame { return []frame.Frame{ask(), data(), stale()} }

// bagOf is those frames under way.
func bagOf(l ...frame.Frame) bag.Bag {
	var b bag.Bag
	for _, f := range l {
		b = append(b, frame.Put(f))
	}
	return b
}

// many is so many frames, each another one.
func many(n int) bag.Bag {
	var b bag.Bag
	for i := range n {
		b = append(b, frame.Put(frame.Frame{Kind: frame.Stale, From: "0", To: "01", Floor: vec.Vec{at("02", 1+i)}}))
	}
	return b
}

// noFrames is bytes that are no frame's.
func noFrames() bag.Bag {
	return bag.Bag{nil, {}, {0}, {3}, {4}, {9, 9}, {3, 1, '0', 2, '0', '1', 0, 0}, {3, 1, '1', 1, '0', 0}, {0x80, 0}, frame.Put(ask())[1:],
		frame.Put(data())[:20], []byte("no frame"), bytes.Repeat([]byte{0xff}, 20)}
}

func sameBag(a, b bag.Bag) bool {
	return slices.EqualFunc(a, b, func(x, y []byte) bool { return bytes.Equal(x, y) })
}

// The chapter's example.
func TestExample(t *testing.T) {
	b, e := bag.Send(nil, stale())
	if e != api.OK || len(b) != 1 {
		t.Fatal(e, b)
	}
	b, e = bag.Double(b, 0)
	if e != api.OK || len(b) != 2 {
		t.Fatal(e, b)
	}
	f, b, e := bag.Take(b, 0)
	if e != api.OK || !frame.Same(f, stale()) || !sameBag(b, bagOf(stale())) {
		t.Error(e, f, b)
	}
}

// What is sent stands behind, and is taken as it was.
func TestSend(t *testing.T) {
	for _, first := range []bag.Bag{nil, {}, many(1), many(5), many(63), noFrames()} {
		for _, f := range frames() {
			b, e := bag.Send(first, f)
			if e != api.OK || !sameBag(b, append(slices.Clone(first), frame.Put(f))) {
				t.Fatal(e, b)
			}
			g, e := bag.Look(b, len(first))
			if e != api.OK || !frame.Same(g, f) {
				t.Error(e, g)
			}
			g, b, e = bag.Take(b, len(first))
			if e != api.OK || !frame.Same(g, f) || !sameBag(b, first) {
				t.Error(e, g, b)
			}
		}
	}
}

// So it is also when others were sent behind, and went, or were lost.
func TestSentIsTakenAsItWas(t *testing.T) {
	for _, order := range [][]int{{0, 1, 2}, {0, 2, 1}, {1, 0, 2}, {1, 2, 0}, {2, 0, 1}, {2, 1, 0}} {
		var b bag.Bag
		for _, n := range order {
			b, _ = bag.Send(b, frames()[n])
		}
		for i, n := range order {
			f, rest, e := bag.Take(b, 0)
			if e != api.OK || !frame.Same(f, frames()[n]) || len(rest) != 2-i {
				t.Errorf("%v: place %d has %v, %d", order, i, f, e)
			}
			b, _ = bag.Drop(b, 0)
			if !sameBag(b, rest) {
				t.Errorf("%v: without place %d: %v, %v", order, i, b, rest)
			}
		}
	}
}

func TestSendErrors(t *testing.T) {
	wrong := []frame.Frame{
		{}, {Kind: frame.Stale}, {Kind: frame.Stale, From: "0", To: "1"}, {Kind: 4, From: "0", To: "01"},
		{Kind: frame.Ask, From: "0", To: "01"}, {Kind: frame.Stale, From: "0", To: "01", Clock: 1},
		{Kind: frame.Data, From: "0", To: "01", Clock: api.MaxSeq + 1}, {Kind: frame.Data, From: "0", To: "01", Floor: vec.Vec{at("0", 1)}},
	}
	for n := range 67 {
		full := many(n)
		for i, f := range wrong {
			if b, e := bag.Send(full, f); e != api.ErrArg || !sameBag(b, full) {
				t.Errorf("of %d, wrong frame %d: %d", n, i, e)
			}
		}
		b, e := bag.Send(full, stale())
		if want := errorOf(n < 64, api.ErrFull); e != want || want != api.OK && !sameBag(b, full) || want == api.OK && len(b) != n+1 {
			t.Errorf("of %d: %d", n, e)
		}
	}
}

func errorOf(ok bool, e api.Errno) api.Errno {
	if ok {
		return api.OK
	}
	return e
}

// Each place has its own, and no other place is one.
func TestPlaces(t *testing.T) {
	for _, n := range []int{0, 1, 2, 3, 63, 64, 65, 100} {
		b := many(n)
		for i := -3; i < n+3; i++ {
			checkPlace(t, b, i)
		}
		for _, i := range []int{math.MinInt, math.MinInt + 1, -n, math.MaxInt, math.MaxInt - 1, n + 1<<32} {
			if i < 0 || i >= n {
				checkPlace(t, b, i)
			}
		}
	}
}

// checkPlace holds what all calls answer of one place against what b has there.
func checkPlace(t *testing.T, b bag.Bag, i int) {
	t.Helper()
	there := i >= 0 && i < len(b)
	f, rest, twice, want := frame.Frame{}, b, b, api.ErrNone
	if there {
		f, want = frame.Frame{Kind: frame.Stale, From: "0", To: "01", Floor: vec.Vec{at("02", 1+i)}}, api.OK
		rest = append(slices.Clone(b[:i]), b[i+1:]...)
	}
	if there && len(b) < 64 {
		twice = append(slices.Clone(b), b[i])
	}
	if g, e := bag.Look(b, i); e != want || !frame.Same(g, f) {
		t.Errorf("Look of %d of %d: %d, %v", i, len(b), e, g)
	}
	if g, got, e := bag.Take(b, i); e != want || !frame.Same(g, f) || !sameBag(got, rest) {
		t.Errorf("Take of %d of %d: %d, %v, %v", i, len(b), e, g, got)
	}
	if got, e := bag.Drop(b, i); e != want || !sameBag(got, rest) {
		t.Errorf("Drop of %d of %d: %d, %v", i, len(b), e, got)
	}
	if there && len(b) >= 64 {
		want = api.ErrFull
	}
	if got, e := bag.Double(b, i); e != want || !sameBag(got, twice) {
		t.Errorf("Double of %d of %d: %d, %v", i, len(b), e, got)
	}
}

// What is no frame's is refused as by frame.Take, and stays; but it may be lost, or come twice.
func TestBytesOfNoFrame(t *testing.T) {
	seen := map[api.Errno]bool{}
	b := noFrames()
	for i := range b {
		_, want := frame.Take(b[i])
		seen[want] = true
		if f, e := bag.Look(b, i); e != want || e == api.OK || !frame.Same(f, frame.Frame{}) {
			t.Errorf("Look of %v: %d, not %d; %v", b[i], e, want, f)
		}
		if f, got, e := bag.Take(b, i); e != want || !frame.Same(f, frame.Frame{}) || !sameBag(got, b) {
			t.Errorf("Take of %v: %d, not %d; %v, %v", b[i], e, want, f, got)
		}
		if got, e := bag.Drop(b, i); e != api.OK || !sameBag(got, slices.Delete(noFrames(), i, i+1)) {
			t.Errorf("Drop of %v: %d, %v", b[i], e, got)
		}
		if got, e := bag.Double(b, i); e != api.OK || !sameBag(got, append(noFrames(), b[i])) {
			t.Errorf("Double of %v: %d, %v", b[i], e, got)
		}
	}
	for _, e := range []api.Errno{api.ErrShort, api.ErrForm} {
		if !seen[e] {
			t.Errorf("the test's bytes are never refused by %d: %v", e, seen)
		}
	}
}

// All that is done to a Bag, against a list of the bytes that it should have.
func TestHistories(t *testing.T) {
	r := rand.New(rand.NewPCG(15, 9))
	for range 20 {
		var b bag.Bag
		var want [][]byte
		sends := 1 + r.IntN(8)
		for range 400 {
			b, want = act(t, r, b, want, sends)
			if !sameBag(b, want) {
				t.Fatalf("%v, not %v", b, want)
			}
		}
	}
}

func act(t *testing.T, r *rand.Rand, b bag.Bag, want [][]byte, sends int) (bag.Bag, [][]byte) {
	t.Helper()
	i, f, n := r.IntN(66)-1, frames()[r.IntN(3)], len(want)
	f.From = id.Id(fmt.Sprintf("0%d", 1+r.IntN(9)))
	there := i >= 0 && i < n
	var e, should api.Errno
	switch op := r.IntN(10); {
	case op < sends:
		if b, e = bag.Send(b, f); n >= 64 {
			should = api.ErrFull
		} else {
			want = append(want, frame.Put(f))
		}
	case op == 8:
		b, e = bag.Double(b, i)
		switch {
		case !there:
			should = api.ErrNone
		case n >= 64:
			should = api.ErrFull
		default:
			want = append(want, want[i])
		}
	case !there:
		b, e = bag.Drop(b, i)
		should = api.ErrNone
	default:
		if f, b, e = bag.Take(b, i); !bytes.Equal(frame.Put(f), want[i]) {
			t.Fatalf("%v, not %v", f, want[i])
		}
		want = append(slices.Clone(want[:i]), want[i+1:]...)
	}
	if e != should {
		t.Fatalf("%d, not %d", e, should)
	}
	return b, want
}

// answers is all Bags that the calls answer, those beside an error, too.
func answers(b bag.Bag) []bag.Bag {
	var l []bag.Bag
	for _, f := range append(frames(), frame.Frame{}) {
		x, _ := bag.Send(b, f)
		l = append(l, x)
	}
	for i := -1; i <= len(b); i++ {
		_, x, _ := bag.Take(b, i)
		y, _ := bag.Drop(b, i)
		z, _ := bag.Double(b, i)
		l = append(l, x, y, z)
	}
	return l
}

// roomy is b in new memory, with spare room behind the list and behind each one's bytes, in which something stands.
func roomy(b bag.Bag) bag.Bag {
	l := make(bag.Bag, len(b)+2)
	for i := range l {
		x := []byte("spare room")
		if i < len(b) {
			x = append(slices.Clone(b[i]), x...)
		}
		l[i] = x[:len(x)-len("spare room")]
	}
	return l[:len(b)]
}

// whole is b with all spare room, in new memory.
func whole(b bag.Bag) bag.Bag {
	l := slices.Clone(b[:cap(b)])
	for i, x := range l {
		l[i] = slices.Clone(x[:cap(x)])
	}
	return l
}

// scratch writes over b, over the bytes, and over all spare room.
func scratch(b bag.Bag) {
	b = b[:cap(b)]
	for i, x := range b {
		for k := range x[:cap(x)] {
			x[:cap(x)][k] = '!'
		}
		b[i] = []byte("scratched")
	}
}

func TestWhatIsHandedInStaysAndIsNotShared(t *testing.T) {
	for _, first := range []bag.Bag{nil, bagOf(frames()...), noFrames(), many(64), many(66)} {
		given := roomy(first)
		kept, want := whole(given), answers(first)
		for i, x := range answers(given) {
			scratch(x)
			if !sameBag(whole(given), kept) {
				t.Fatalf("answer %d changed what was handed in", i)
			}
		}
		again := answers(given)
		scratch(given)
		for i, x := range again {
			if !sameBag(x, want[i]) {
				t.Fatalf("answer %d is kept", i)
			}
		}
	}
}

// Nor do two lists of one answer share anything: what comes twice does so in memory of its own.
func TestAnswersShareNothingWithinThemselves(t *testing.T) {
	x := frame.Put(data())
	for n, b := range answers(bag.Bag{x, x, x}) {
		for i := range b {
			was := slices.Clone(b)
			for k := range b {
				was[k] = slices.Clone(b[k])
			}
			for k := range b[i][:cap(b[i])] {
				b[i][:cap(b[i])][k] = '!'
			}
			for k := range b {
				if k != i && !bytes.Equal(b[k], was[k]) {
					t.Fatalf("answer %d: places %d and %d share something", n, i, k)
				}
			}
		}
	}
}

// A frame that was handed in isn't kept, nor are bytes by one that was answered.
func TestFramesAreNotShared(t *testing.T) {
	f := data()
	b, _ := bag.Send(nil, f)
	scratchFrame(f)
	looked, _ := bag.Look(b, 0)
	taken, _, _ := bag.Take(b, 0)
	third, _ := bag.Look(b, 0)
	scratchFrame(looked)
	if !frame.Same(taken, data()) {
		t.Error(taken)
	}
	scratchFrame(taken)
	if !sameBag(b, bagOf(data())) {
		t.Error(b)
	}
	scratch(b)
	if !frame.Same(third, data()) {
		t.Error(third)
	}
}

func scratchFrame(f frame.Frame) {
	f.Know[0], f.Members[0], f.Certs[0], f.Rows[0].Vec[0] = know.Row{}, "", vec.At{}, vec.At{}
	f.Rows[0], f.Items[0] = matrix.Row{}, item.Item{}
}
