package frame_test

import (
	"bytes"
	"math/rand"
	"slices"
	"testing"

	"cenotaph/api"
	"cenotaph/frame"
	"cenotaph/id"
	"cenotaph/item"
	"cenotaph/know"
	"cenotaph/matrix"
	"cenotaph/span"
	"cenotaph/vec"
	"cenotaph/zone"
)

// reader takes bytes as the document's words say, by itself: it stops with a panic at what is wrong first.
type reader struct{ rest []byte }

func (r *reader) num(most int) int {
	size := slices.IndexFunc(r.rest, func(x byte) bool { return x < 128 }) + 1
	switch {
	case size == 0 && len(r.rest) >= 9 || size > 9:
		panic(api.ErrForm)
	case size == 0:
		panic(api.ErrShort)
	case size > 1 && r.rest[size-1] == 0:
		panic(api.ErrForm)
	}
	n := 0
	for i := size - 1; i >= 0; i-- {
		n = n*128 + int(r.rest[i]&127)
	}
	if n > most {
		panic(api.ErrForm)
	}
	r.rest = r.rest[size:]
	return n
}

func (r *reader) text(most int) string {
	n := r.num(most)
	if n > len(r.rest) {
		panic(api.ErrShort)
	}
	s := string(r.rest[:n])
	r.rest = r.rest[n:]
	return s
}

func (r *reader) id() id.Id { return id.Id(r.text(6)) }

func (r *reader) vec() vec.Vec {
	var v vec.Vec
	for n := r.num(64); n > 0; n-- {
		x := vec.At{Id: r.id()}
		x.N = r.num(1048576)
		v = append(v, x)
	}
	return v
}

func (r *reader) know() know.Know {
	var k know.Know
	for n := r.num(64); n > 0; n-- {
		x := know.Row{Id: r.id()}
		x.Span = span.Span{Upto: r.num(1048576)}
		for e := r.num(4096); e > 0; e-- {
			x.Span.Extra = append(x.Span.Extra, r.num(1048576))
		}
		k = append(k, x)
	}
	return k
}

func (r *reader) item() item.Item {
	x := item.Item{Key: r.num(31)}
	x.Ver.Id = r.id()
	x.Ver.Seq = r.num(1048576)
	x.Ver.Stamp = r.num(1048576)
	kind := r.num(2)
	x.Dead, x.Held = kind == 0, kind == 2
	if kind > 0 {
		real := r.num(2000) - 1000
		x.Spot = complex(float64(real), float64(r.num(2000)-1000))
	}
	if kind == 2 {
		x.Text = r.text(16)
	}
	if !item.Right(x) {
		panic(api.ErrForm)
	}
	return x
}

func (r *reader) zone() zone.Zone {
	z, ok := zone.Parse(r.text(2000))
	if !ok {
		panic(api.ErrForm)
	}
	return z
}

func (r *reader) frame() frame.Frame {
	f := frame.Frame{Kind: r.num(3)}
	if f.Kind == 0 {
		panic(api.ErrForm)
	}
	f.From = r.id()
	f.To = r.id()
	if f.Kind == 3 {
		f.Floor = r.vec()
		return f
	}
	f.Know = r.know()
	f.Clock = r.num(1048576)
	for n := r.num(64); n > 0; n-- {
		f.Members = append(f.Members, r.id())
	}
	f.Certs = r.vec()
	for n := r.num(64); n > 0; n-- {
		x := matrix.Row{Id: r.id()}
		x.Vec = r.vec()
		f.Rows = append(f.Rows, x)
	}
	if f.Kind == 1 {
		f.Zone = r.zone()
	}
	for n := r.num(32); n > 0; n-- {
		f.Items = append(f.Items, r.item())
	}
	f.Whole = f.Kind == 2 && r.num(1) == 1
	return f
}

// right: of what is taken, which the counts bound already, are all parts right?
func right(f frame.Frame) bool {
	all := id.Right(f.From) && id.Right(f.To) && know.Right(f.Know) && vec.Right(f.Certs) && matrix.Right(f.Rows) && vec.Right(f.Floor)
	for i, a := range f.Members {
		all = all && id.Right(a) && (i == 0 || f.Members[i-1] < a)
	}
	for _, x := range f.Items {
		all = all && (f.Kind == 2 || !x.Dead && !x.Held)
	}
	return all
}

func model(b []byte) (f frame.Frame, errno api.Errno) {
	defer func() {
		if wrong := recover(); wrong != nil {
			f, errno = frame.Frame{}, wrong.(api.Errno)
		}
	}()
	r := &reader{rest: b}
	f = r.frame()
	if len(r.rest) > 0 || !right(f) {
		panic(api.ErrForm)
	}
	return f, api.OK
}

// check holds Take of b against the model, and what is taken against its bytes. It tells whether anything is.
func check(t *testing.T, b []byte) bool {
	t.Helper()
	want, errno := model(b)
	got, e := frame.Take(b)
	if e != errno || !frame.Same(got, want) {
		t.Fatalf("Take(%q) = %v, %d, not %v, %d", b, got, e, want, errno)
	}
	if e != api.OK {
		return false
	}
	if !frame.Right(got) || !bytes.Equal(frame.Put(got), b) {
		t.Fatalf("%q was taken as %v, put as %q", b, got, frame.Put(got))
	}
	return true
}

// All that comes of a frame's bytes by one that is changed, left out or put between.
func TestTakeOfChangedBytes(t *testing.T) {
	taken, all := 0, 0
	count := func(b []byte) {
		all++
		if check(t, b) {
			taken++
		}
	}
	for _, c := range packed() {
		b := []byte(c.want)
		for i := range b {
			count(b[:i])
			count(slices.Delete(slices.Clone(b), i, i+1))
			for v := range 256 {
				changed := slices.Clone(b)
				changed[i] = byte(v)
				count(changed)
				count(slices.Insert(slices.Clone(b), i, byte(v)))
			}
		}
	}
	if taken < 2000 || taken > all/2 {
		t.Errorf("%d of %d were taken", taken, all)
	}
}

// All bytes of a few signs that are much in frames: some are a Stale's.
func TestTakeOfAllShortBytes(t *testing.T) {
	signs := []byte{0, 1, 2, 3, '0', '1', 0x80}
	var l [][]byte
	level := [][]byte{nil}
	for range 7 {
		var next [][]byte
		for _, b := range level {
			check(t, b)
			for _, x := range signs {
				next = append(next, append(slices.Clone(b), x))
			}
		}
		l, level = level, next
	}
	taken := 0
	for _, b := range append(l, level...) {
		if check(t, b) {
			taken++
		}
	}
	// of 6 bytes 0 to 0; of 7 0 to 01 and 01 to 0: of no Floor all
	if taken != 3 {
		t.Errorf("%d were taken", taken)
	}
}

// Frames that are joined from pieces of others, and bytes from nowhere.
func TestTakeOfAnyBytes(t *testing.T) {
	chance := rand.New(rand.NewSource(12))
	all := packed()
	for range 200000 {
		a, b := []byte(all[chance.Intn(len(all))].want), []byte(all[chance.Intn(len(all))].want)
		piece := append(slices.Clone(a[:chance.Intn(len(a)+1)]), b[chance.Intn(len(b)+1):]...)
		for range chance.Intn(3) {
			if len(piece) > 0 {
				piece[chance.Intn(len(piece))] = byte(chance.Intn(256) >> chance.Intn(8))
			}
		}
		check(t, piece)
		noise := make([]byte, chance.Intn(40))
		for i := range noise {
			noise[i] = byte(chance.Intn(256) >> chance.Intn(8))
		}
		check(t, noise)
	}
	for _, x := range []byte{0, 1, 2, 3, 0x7F, 0x80, 0xFF} {
		for _, kind := range []byte{1, 2, 3} {
			check(t, append([]byte{kind}, bytes.Repeat([]byte{x}, 100000)...))
		}
	}
}

// grown is frames by chance that are Right.
func grown(chance *rand.Rand) frame.Frame {
	some := func() []id.Id {
		var l []id.Id
		for _, a := range ids(most) {
			if chance.Intn(20) == 0 {
				l = append(l, a)
			}
		}
		return l
	}
	number := func() int { return 1 + chance.Intn(api.MaxSeq)>>chance.Intn(20) }
	far := func() vec.Vec {
		var v vec.Vec
		for _, a := range some() {
			v = append(v, at(a, number()))
		}
		return v
	}
	f := frame.Frame{Kind: 1 + chance.Intn(3), From: ids(most)[chance.Intn(most)], To: ids(most)[chance.Intn(most)]}
	if f.Kind == frame.Stale {
		f.Floor = far()
		return f
	}
	f.Clock, f.Members, f.Certs, f.Whole = number()-1, some(), far(), f.Kind == frame.Data && chance.Intn(2) == 0
	for _, a := range some() {
		for range 1 + chance.Intn(5) {
			f.Know = know.Add(f.Know, a, number())
		}
		f.Rows = matrix.Put(f.Rows, a, far())
	}
	for range chance.Intn(api.MaxBatch + 1) {
		x := stubOf(chance.Intn(api.MaxKeys), version(ids(most)[chance.Intn(most)], number(), number()), complex(float64(chance.Intn(2001)-1000), float64(chance.Intn(2001)-1000)))
		if f.Kind == frame.Data && chance.Intn(2) == 0 {
			x.Held, x.Text = true, "any text of some"[:chance.Intn(17)]
		} else if f.Kind == frame.Data && chance.Intn(2) == 0 {
			x = deadOne(x.Key, x.Ver)
		}
		f.Items = append(f.Items, x)
	}
	if f.Kind == frame.Ask {
		f.Zone = zoneOf(1 + 2*chance.Intn(16))
	}
	return f
}

func TestGrownFramesComeBack(t *testing.T) {
	chance := rand.New(rand.NewSource(7))
	for range 3000 {
		f := grown(chance)
		b := frame.Put(f)
		if !frame.Right(f) || !check(t, b) {
			t.Fatalf("%v isn't taken: %q", f, b)
		}
		if got, _ := frame.Take(b); !frame.Same(got, f) {
			t.Fatalf("%v became %v", f, got)
		}
	}
}
