package frame_test

import (
	"math"
	"slices"
	"strings"
	"testing"

	"cenotaph/api"
	"cenotaph/cert"
	"cenotaph/frame"
	"cenotaph/id"
	"cenotaph/item"
	"cenotaph/know"
	"cenotaph/matrix"
	"cenotaph/sample"
	"cenotaph/span"
	"cenotaph/vec"
	"cenotaph/zone"
)

// most is how many ids a list of a frame may have.
const most = 64

var null = math.Copysign(0, -1)

// The names by which the tests speak of what package sample has.
var (
	at, row, knows, version  = sample.At, sample.Row, sample.Knows, sample.Version
	deadOne, stubOf, heldOne = sample.Dead, sample.Stub, sample.Held
)

var first = version("0", 1, 3)

// ids is n of them, rising.
func ids(n int) []id.Id {
	l := []id.Id{"0"}
	for i := 0; len(l) < n; i++ {
		for k := '1'; k <= '9'; k++ {
			l = append(l, l[i]+id.Id(k))
		}
	}
	l = l[:n]
	slices.SortFunc(l, id.Compare)
	return l
}

func vecOf(n int) vec.Vec {
	var v vec.Vec
	for i, a := range ids(n) {
		v = append(v, at(a, api.MaxSeq-i))
	}
	return v
}

func rowsOf(n, each int) matrix.Matrix {
	var m matrix.Matrix
	for _, a := range ids(n) {
		m = append(m, row(a, vecOf(each)...))
	}
	return m
}

func knowOf(n, extra int) know.Know {
	var k know.Know
	for i, a := range ids(n) {
		x := knows(a, i+1)
		for j := range extra {
			x.Span.Extra = append(x.Span.Extra, api.MaxSeq-2*(extra-1-j))
		}
		k = append(k, x)
	}
	return k
}

func itemsOf(n int, x item.Item) []item.Item {
	var l []item.Item
	for i := range n {
		x.Key = i % api.MaxKeys
		l = append(l, x)
	}
	return l
}

// zoneOf is a zone of n steps: n is odd.
func zoneOf(n int) zone.Zone {
	z := zone.Everywhere()
	for len(z) < n {
		z = append(z, zone.Step{Op: zone.Half, At: complex(-1000, -1000), Size: -2000000}, zone.Step{Op: zone.Or})
	}
	return z
}

func askOf() frame.Frame {
	return frame.Frame{
		Kind: frame.Ask, From: "01", To: "0", Clock: 300,
		Know:    know.Know{knows("0", 1, 3, 200), knows("012", 2), knows("02", 0, 5)},
		Members: []id.Id{"0", "01", "012", "02"},
		Certs:   cert.List{at("02", 6)},
		Rows:    matrix.Matrix{row("0", at("0", 9), at("012", 1)), row("012", at("012", 2))},
		Zone:    zone.Zone{{Op: zone.Disc, Size: 5}, {Op: zone.Half, At: 1, Size: 3}, {Op: zone.And}},
		Items:   []item.Item{stubOf(1, first, 0), stubOf(31, version("012", 2, 128), complex(-1000, 1000))},
	}
}

const askBytes = "\x01\x0201\x010" +
	"\x03\x010\x01\x02\x03\xC8\x01\x03012\x02\x00\x0202\x00\x01\x05" +
	"\xAC\x02" +
	"\x04\x010\x0201\x03012\x0202" +
	"\x01\x0202\x06" +
	"\x02\x010\x02\x010\x09\x03012\x01\x03012\x01\x03012\x02" +
	"\x19disc 0 0 5,half 1 0 3,and" +
	"\x02\x01\x010\x01\x03\x01\xE8\x07\xE8\x07\x1F\x03012\x02\x80\x01\x01\x00\xD0\x0F"

func dataOf() frame.Frame {
	return frame.Frame{
		Kind: frame.Data, From: "012", To: "0123", Clock: 9,
		Know:    know.Know{knows("0", api.MaxSeq)},
		Members: []id.Id{"012345"},
		Certs:   cert.List{at("0", 1), at("011", api.MaxSeq)},
		Rows:    matrix.Matrix{row("03", at("01", 1))},
		Items: []item.Item{
			deadOne(2, version("0", 5, 9)), heldOne(0, first, complex(1, -2), "hi"), stubOf(2, first, 0), heldOne(0, first, 0, ""),
		},
		Whole: true,
	}
}

const dataBytes = "\x02\x03012\x040123" +
	"\x01\x010\x80\x80\x40\x00" +
	"\x09" +
	"\x01\x06012345" +
	"\x02\x010\x01\x03011\x80\x80\x40" +
	"\x01\x0203\x01\x0201\x01" +
	"\x04\x02\x010\x05\x09\x00\x00\x010\x01\x03\x02\xE9\x07\xE6\x07\x02hi\x02\x010\x01\x03\x01\xE8\x07\xE8\x07\x00\x010\x01\x03\x02\xE8\x07\xE8\x07\x00" +
	"\x01"

func staleOf() frame.Frame {
	return frame.Frame{Kind: frame.Stale, From: "0", To: "01", Floor: vec.Vec{at("0", 127), at("013", 128)}}
}

// with is f with something else.
func with(f frame.Frame, change func(*frame.Frame)) frame.Frame {
	change(&f)
	return f
}

type pack struct {
	f    frame.Frame
	want string
}

// packed is frames that are Right, with their bytes.
func packed() []pack {
	return []pack{
		{frame.Frame{Kind: frame.Stale, From: "0", To: "01"}, "\x03\x010\x0201\x00"},
		{frame.Frame{Kind: frame.Stale, From: "0", To: "01", Floor: vec.Vec{}, Members: []id.Id{}, Zone: zone.Zone{}}, "\x03\x010\x0201\x00"},
		{frame.Frame{Kind: frame.Stale, From: "0", To: "0"}, "\x03\x010\x010\x00"},
		{frame.Frame{Kind: frame.Stale, From: "012345", To: "099999"}, "\x03\x06012345\x06099999\x00"},
		{staleOf(), "\x03\x010\x0201\x02\x010\x7F\x03013\x80\x01"},
		{askOf(), askBytes},
		{frame.Frame{Kind: frame.Ask, From: "0", To: "01", Zone: zone.Everywhere()}, "\x01\x010\x0201\x00\x00\x00\x00\x00\x03all\x00"},
		{frame.Frame{Kind: frame.Ask, From: "0", To: "01", Zone: zone.Zone{{Op: zone.Disc, At: complex(null, null), Size: null}}},
			"\x01\x010\x0201\x00\x00\x00\x00\x00\x0Adisc 0 0 0\x00"},
		{frame.Frame{Kind: frame.Ask, From: "0", To: "01", Clock: api.MaxSeq, Zone: zone.Everywhere(), Items: []item.Item{stubOf(1, first, complex(null, 7))}},
			"\x01\x010\x0201\x00\x80\x80\x40\x00\x00\x00\x03all\x01\x01\x010\x01\x03\x01\xE8\x07\xEF\x07"},
		{dataOf(), dataBytes},
		{with(dataOf(), func(f *frame.Frame) { f.Whole = false }), dataBytes[:len(dataBytes)-1] + "\x00"},
		{frame.Frame{Kind: frame.Data, From: "0", To: "01"}, "\x02\x010\x0201\x00\x00\x00\x00\x00\x00\x00"},
		{frame.Frame{Kind: frame.Data, From: "0", To: "01", Whole: true}, "\x02\x010\x0201\x00\x00\x00\x00\x00\x00\x01"},
	}
}

// fullOnes is frames that are as great in something as may be.
func fullOnes() []frame.Frame {
	l := []frame.Frame{
		with(staleOf(), func(f *frame.Frame) { f.Floor = vecOf(most) }),
		with(askOf(), func(f *frame.Frame) { f.Zone = zoneOf(31) }),
		with(askOf(), func(f *frame.Frame) { f.Zone = append(zoneOf(31), zone.Step{Op: zone.Not}) }),
		with(askOf(), func(f *frame.Frame) {
			f.Items = itemsOf(32, stubOf(0, version("012345", api.MaxSeq, api.MaxSeq), 1000))
		}),
		with(dataOf(), func(f *frame.Frame) { f.Items = itemsOf(32, heldOne(0, first, 1000, "sixteen bytes !!")) }),
	}
	for _, f := range []frame.Frame{askOf(), dataOf()} {
		l = append(l, with(f, func(f *frame.Frame) { f.Know = knowOf(most, 0) }))
		l = append(l, with(f, func(f *frame.Frame) { f.Know = knowOf(1, api.MaxExtra) }))
		l = append(l, with(f, func(f *frame.Frame) { f.Clock = api.MaxSeq }))
		l = append(l, with(f, func(f *frame.Frame) { f.Members = ids(most) }))
		l = append(l, with(f, func(f *frame.Frame) { f.Certs = vecOf(most) }))
		l = append(l, with(f, func(f *frame.Frame) { f.Rows = rowsOf(most, 1) }))
		l = append(l, with(f, func(f *frame.Frame) { f.Rows = rowsOf(1, most) }))
	}
	return l
}

// wrongNews is frames of f's kind that aren't Right, by one thing each, in what an Ask and a Data have.
func wrongNews(f frame.Frame) []frame.Frame {
	var l []frame.Frame
	add := func(change func(*frame.Frame)) { l = append(l, with(f, change)) }
	for _, k := range []know.Know{
		knowOf(most+1, 0), knowOf(1, api.MaxExtra+1),
		{knows("0", 0)}, {knows("0", 1), knows("01", 0)}, {knows("", 1)}, {knows("1", 1)}, {knows("0123456", 1)},
		{knows("01", 1), knows("0", 1)}, {knows("0", 1), knows("0", 1)},
		{knows("0", -1)}, {knows("0", -1, 5)}, {knows("0", api.MaxSeq+1)}, {knows("0", math.MaxInt)},
		{knows("0", 1, 2)}, {knows("0", 1, 1)}, {knows("0", 1, 0)}, {knows("0", 1, -1)}, {knows("0", 1, 4, 3)}, {knows("0", 1, 3, 3)}, {knows("0", 0, 1)},
		{knows("0", 1, api.MaxSeq+1)},
	} {
		add(func(f *frame.Frame) { f.Know = k })
	}
	for _, n := range []int{-1, api.MaxSeq + 1, math.MinInt, math.MaxInt} {
		add(func(f *frame.Frame) { f.Clock = n })
	}
	for _, m := range [][]id.Id{ids(most + 1), {""}, {"1"}, {"0", "010"}, {"0123456"}, {"01", "0"}, {"0", "0"}, {"02", "013"}} {
		add(func(f *frame.Frame) { f.Members = m })
	}
	for _, v := range wrongVecs() {
		add(func(f *frame.Frame) { f.Certs = v })
		add(func(f *frame.Frame) { f.Rows = matrix.Matrix{row("0", v...)} })
		add(func(f *frame.Frame) { f.Rows = matrix.Matrix{row("0", at("0", 1)), row("01", v...)} })
	}
	for _, m := range []matrix.Matrix{
		rowsOf(most+1, 1), {row("0")}, {row("", at("0", 1))}, {row("1", at("0", 1))}, {row("0123456", at("0", 1))},
		{row("01", at("0", 1)), row("0", at("0", 1))}, {row("0", at("0", 1)), row("0", at("0", 1))},
	} {
		add(func(f *frame.Frame) { f.Rows = m })
	}
	for _, x := range []item.Item{
		{}, stubOf(-1, first, 0), stubOf(32, first, 0), stubOf(1, version("1", 1, 3), 0), stubOf(1, version("0", 0, 3), 0),
		stubOf(1, version("0", 1, api.MaxSeq+1), 0), stubOf(1, first, 1001), stubOf(1, first, 0.5), stubOf(1, first, complex(0, math.NaN())),
		{Key: 1, Ver: first, Text: "a"}, heldOne(1, first, 0, "seventeen bytes !"), {Key: 1, Ver: first, Dead: true, Spot: 1},
		{Key: 1, Ver: first, Dead: true, Held: true},
	} {
		add(func(f *frame.Frame) { f.Items = []item.Item{x} })
		add(func(f *frame.Frame) { f.Items = []item.Item{stubOf(1, first, 0), x} })
	}
	add(func(f *frame.Frame) { f.Items = itemsOf(api.MaxBatch+1, stubOf(0, first, 0)) })
	add(func(f *frame.Frame) { f.Floor = vec.Vec{at("0", 1)} })
	return l
}

func wrongVecs() []vec.Vec {
	return []vec.Vec{
		vecOf(most + 1), {at("", 1)}, {at("1", 1)}, {at("0123456", 1)}, {at("01", 1), at("0", 1)}, {at("0", 1), at("0", 1)},
		{at("0", 0)}, {at("0", -1)}, {at("0", api.MaxSeq+1)}, {at("0", 1), at("01", math.MinInt)},
	}
}

// wrongOnes is frames that aren't Right, by one thing each.
func wrongOnes() []frame.Frame {
	l := []frame.Frame{{}, {Kind: frame.Stale}}
	for _, f := range []frame.Frame{staleOf(), askOf(), dataOf()} {
		for _, kind := range []int{0, 4, -1, 256 + f.Kind, math.MinInt, math.MaxInt} {
			l = append(l, with(f, func(f *frame.Frame) { f.Kind = kind }))
		}
		for _, a := range []id.Id{"", "1", "00", "010", "0123456", "0 ", "\xFF"} {
			l = append(l, with(f, func(f *frame.Frame) { f.From = a }), with(f, func(f *frame.Frame) { f.To = a }))
		}
	}
	for _, kind := range []int{frame.Ask, frame.Data} {
		l = append(l, with(staleOf(), func(f *frame.Frame) { f.Kind = kind }))
	}
	l = append(l, with(dataOf(), func(f *frame.Frame) { f.Kind = frame.Ask }), with(askOf(), func(f *frame.Frame) { f.Kind = frame.Data }))
	l = append(l, append(wrongNews(askOf()), wrongNews(dataOf())...)...)
	return append(l, append(wrongAsks(), wrongStales()...)...)
}

func wrongAsks() []frame.Frame {
	var l []frame.Frame
	for _, z := range []zone.Zone{
		nil, {}, {{Op: zone.Not}}, {{Op: 7}}, {{Op: zone.All}, {Op: zone.All}}, {{Op: zone.Disc, Size: -1}}, {{Op: zone.Disc, At: 1001}},
		{{Op: zone.Half, Size: 0.5}}, {{Op: zone.All, Size: math.NaN()}}, zoneOf(33),
	} {
		l = append(l, with(askOf(), func(f *frame.Frame) { f.Zone = z }))
	}
	for _, x := range []item.Item{deadOne(1, first), heldOne(1, first, 0, ""), heldOne(1, first, 0, "a")} {
		l = append(l, with(askOf(), func(f *frame.Frame) { f.Items = []item.Item{x} }))
		l = append(l, with(askOf(), func(f *frame.Frame) { f.Items = []item.Item{stubOf(1, first, 0), x} }))
	}
	return append(l,
		with(askOf(), func(f *frame.Frame) { f.Whole = true }),
		with(dataOf(), func(f *frame.Frame) { f.Zone = zone.Everywhere() }),
		with(dataOf(), func(f *frame.Frame) { f.Zone = zone.Zone{{Op: 7}} }))
}

func wrongStales() []frame.Frame {
	var l []frame.Frame
	for _, v := range wrongVecs() {
		l = append(l, with(staleOf(), func(f *frame.Frame) { f.Floor = v }))
	}
	for _, change := range []func(*frame.Frame){
		func(f *frame.Frame) { f.Know = know.Know{knows("0", 1)} },
		func(f *frame.Frame) { f.Know = know.Know{knows("", 0)} },
		func(f *frame.Frame) { f.Clock = 1 },
		func(f *frame.Frame) { f.Clock = -1 },
		func(f *frame.Frame) { f.Members = []id.Id{"0"} },
		func(f *frame.Frame) { f.Members = []id.Id{""} },
		func(f *frame.Frame) { f.Certs = vec.Vec{at("0", 1)} },
		func(f *frame.Frame) { f.Certs = vec.Vec{{}} },
		func(f *frame.Frame) { f.Rows = matrix.Matrix{row("0", at("0", 1))} },
		func(f *frame.Frame) { f.Rows = matrix.Matrix{{}} },
		func(f *frame.Frame) { f.Zone = zone.Everywhere() },
		func(f *frame.Frame) { f.Zone = zone.Zone{{}} },
		func(f *frame.Frame) { f.Zone = zone.Zone{{Op: zone.All, Size: math.NaN()}} },
		func(f *frame.Frame) { f.Items = []item.Item{stubOf(1, first, 0)} },
		func(f *frame.Frame) { f.Items = []item.Item{{}} },
		func(f *frame.Frame) { f.Whole = true },
	} {
		l = append(l, with(staleOf(), change))
	}
	return l
}

func rightOnes() []frame.Frame {
	l := fullOnes()
	for _, c := range packed() {
		l = append(l, c.f)
	}
	return l
}

func TestRight(t *testing.T) {
	for i, f := range rightOnes() {
		if !frame.Right(f) {
			t.Errorf("%d: %v isn't Right", i, f)
		}
	}
	for i, f := range wrongOnes() {
		if frame.Right(f) {
			t.Errorf("%d: %v is Right", i, f)
		}
	}
}

func TestLimits(t *testing.T) {
	for n := range 2 * most {
		fits := n <= most
		for _, f := range []frame.Frame{
			{Kind: frame.Data, From: "0", To: "01", Know: knowOf(n, 0)},
			{Kind: frame.Data, From: "0", To: "01", Members: ids(max(n, 1))},
			{Kind: frame.Data, From: "0", To: "01", Certs: vecOf(max(n, 1))},
			{Kind: frame.Data, From: "0", To: "01", Rows: rowsOf(n, 1)},
			{Kind: frame.Data, From: "0", To: "01", Rows: rowsOf(2, max(n, 1))},
			{Kind: frame.Stale, From: "0", To: "01", Floor: vecOf(max(n, 1))},
		} {
			if frame.Right(f) != fits || (len(frame.Put(f)) > 0) != fits {
				t.Fatalf("%d in a list of %v", n, f)
			}
		}
		f := frame.Frame{Kind: frame.Data, From: "0", To: "01", Items: itemsOf(n, deadOne(0, first))}
		if frame.Right(f) != (n <= 32) {
			t.Fatalf("%d items", n)
		}
	}
	for _, n := range []int{-2, -1, 0, 1, 1048575, 1048576, 1048577} {
		f := frame.Frame{Kind: frame.Data, From: "0", To: "01", Clock: n}
		if frame.Right(f) != (n >= 0 && n <= 1048576) {
			t.Errorf("a Clock of %d", n)
		}
	}
}

func TestPut(t *testing.T) {
	for i, c := range packed() {
		if got := frame.Put(c.f); string(got) != c.want {
			t.Errorf("%d: Put(%v) = %q, not %q", i, c.f, got, c.want)
		}
	}
	for i, f := range wrongOnes() {
		if got := frame.Put(f); len(got) > 0 {
			t.Errorf("%d: Put(%v) = %q", i, f, got)
		}
	}
}

func TestTake(t *testing.T) {
	for i, c := range packed() {
		got, errno := frame.Take([]byte(c.want))
		if errno != api.OK || !frame.Same(got, c.f) || !frame.Right(got) {
			t.Errorf("%d: Take(%q) = %v, %d", i, c.want, got, errno)
		}
	}
}

// What ends too early is short, at whatever place; what goes on has another form.
func TestTakeOfBeginningsAndOfMore(t *testing.T) {
	for _, c := range packed() {
		for i := range len(c.want) {
			refused(t, c.want[:i], api.ErrShort)
		}
		for v := range 256 {
			refused(t, c.want+string([]byte{byte(v)}), api.ErrForm)
		}
		refused(t, c.want+c.want, api.ErrForm)
	}
}

func refused(t *testing.T, b string, want api.Errno) {
	t.Helper()
	got, errno := frame.Take([]byte(b))
	if errno != want || !frame.Same(got, frame.Frame{}) {
		t.Errorf("Take(%q) = %v, %d, not %d", b, got, errno, want)
	}
}

func TestTakeOfWrongBytes(t *testing.T) {
	const beyond = "\x41" // a count above 64
	for _, c := range []struct {
		b    string
		want api.Errno
	}{
		{"", api.ErrShort},
		{"\x00", api.ErrForm}, // Kind 0: nothing behind it is taken
		{"\x00\x80", api.ErrForm},
		{"\x00\x010\x0201\x00", api.ErrForm},
		{"\x04", api.ErrForm},
		{"\x04\x010\x0201\x00", api.ErrForm},
		{"\x7F", api.ErrForm},
		{"\x80", api.ErrShort},
		{"\x80\x00", api.ErrForm},
		{"\x83\x00\x010\x0201\x00", api.ErrForm},
		{"\x03\x070123456\x0201\x00", api.ErrForm},
		{"\x03\x07", api.ErrForm},
		{"\x03\x06012", api.ErrShort},
		{"\x03\x011\x0201\x00", api.ErrForm}, // what isn't Right is held back till all is taken
		{"\x03\x011\x0201", api.ErrShort},
		{"\x03\x010\x00", api.ErrShort},
		{"\x03\x010\x00\x00", api.ErrForm},
		{"\x03\x00\x00\x01\x00", api.ErrShort},
		{"\x03\x010\x0201" + beyond, api.ErrForm},
		{"\x03\x010\x0201\x40", api.ErrShort},
		{"\x03\x010\x0201\x01\x010\x00", api.ErrForm}, // 0 far
		{"\x03\x010\x0201\x02\x010\x00", api.ErrShort},
		{"\x03\x010\x0201\x01\x010\x81\x80\x40", api.ErrForm},
		{"\x03\x010\x0201\x02\x010\x81\x80\x40", api.ErrForm},
		{"\x03\x010\x0201\x02\x010\x01\x010\x01", api.ErrForm},
		{"\x03\x010\x0201\x02\x0201\x01\x010\x01", api.ErrForm},
		{"\x02\x010\x0201" + beyond, api.ErrForm},
		{"\x02\x010\x0201\x01\x010\x00\x00\x00\x00\x00\x00\x00\x00", api.ErrForm}, // a Row of no number
		{"\x02\x010\x0201\x01\x010\x00\x00\x00\x00\x00\x00\x00", api.ErrShort},
		{"\x02\x010\x0201\x01\x010\x01\x81\x20", api.ErrForm}, // 4097 in Extra
		{"\x02\x010\x0201\x01\x010\x01\x80\x20", api.ErrShort},
		{"\x02\x010\x0201\x01\x010\x81\x80\x40", api.ErrForm},
		{"\x02\x010\x0201\x01\x010\x01\x01\x81\x80\x40", api.ErrForm},
		{"\x02\x010\x0201\x01\x010\x01\x01\x02\x00\x00\x00\x00\x00\x00", api.ErrForm}, // in Extra what stands right behind Upto
		{"\x02\x010\x0201\x00\x81\x80\x40", api.ErrForm},
		{"\x02\x010\x0201\x00\x00" + beyond, api.ErrForm},
		{"\x02\x010\x0201\x00\x00\x02\x0201\x010\x00\x00\x00\x00", api.ErrForm},
		{"\x02\x010\x0201\x00\x00\x00" + beyond, api.ErrForm},
		{"\x02\x010\x0201\x00\x00\x00\x00" + beyond, api.ErrForm},
		{"\x02\x010\x0201\x00\x00\x00\x00\x01\x010" + beyond, api.ErrForm},
		{"\x02\x010\x0201\x00\x00\x00\x00\x01\x010\x00\x00\x00", api.ErrForm}, // an empty Vec
		{"\x02\x010\x0201\x00\x00\x00\x00\x01\x010\x00\x00", api.ErrShort},
		{"\x02\x010\x0201\x00\x00\x00\x00\x00\x21", api.ErrForm}, // 33 items
		{"\x02\x010\x0201\x00\x00\x00\x00\x00\x20", api.ErrShort},
		{"\x02\x010\x0201\x00\x00\x00\x00\x00\x01\x20", api.ErrForm},
		{"\x02\x010\x0201\x00\x00\x00\x00\x00\x01\x01\x011\x01\x03\x00", api.ErrForm}, // no Item: nothing behind it is taken
		{"\x02\x010\x0201\x00\x00\x00\x00\x00\x01\x01\x011\x01\x03", api.ErrShort},
		{"\x02\x010\x0201\x00\x00\x00\x00\x00\x02\x01\x010\x00\x03\x00", api.ErrForm},
		{"\x02\x010\x0201\x00\x00\x00\x00\x00\x01\x01\x010\x01\x03\x03", api.ErrForm},
		{"\x02\x010\x0201\x00\x00\x00\x00\x00\x00\x02", api.ErrForm},
		{"\x02\x010\x0201\x00\x00\x00\x00\x00\x00\x80\x00", api.ErrForm},
		{"\x02\x010\x0201\x00\x00\x00\x00\x00\x00\x81", api.ErrShort},
		{"\x01\x010\x0201\x00\x00\x00\x00\x00\x00", api.ErrForm}, // a Zone's text that is none's: likewise
		{"\x01\x010\x0201\x00\x00\x00\x00\x00\x03alL", api.ErrForm},
		{"\x01\x010\x0201\x00\x00\x00\x00\x00\x03alL\x80", api.ErrForm},
		{"\x01\x010\x0201\x00\x00\x00\x00\x00\x03al", api.ErrShort},
		{"\x01\x010\x0201\x00\x00\x00\x00\x00\x0Bdisc 0 0 05\x00", api.ErrForm},
		{"\x01\x010\x0201\x00\x00\x00\x00\x00\xD1\x0F", api.ErrForm}, // a text of 2001
		{"\x01\x010\x0201\x00\x00\x00\x00\x00\xD0\x0F", api.ErrShort},
		{"\x01\x010\x0201\x00\x00\x00\x00\x00\xD0\x0F" + strings.Repeat("a", 2000), api.ErrForm},
		{"\x01\x010\x0201\x00\x00\x00\x00\x00\x03all\x01\x01\x010\x01\x03\x00", api.ErrForm}, // an Ask's item that is dead: taken to the end
		{"\x01\x010\x0201\x00\x00\x00\x00\x00\x03all\x02\x01\x010\x01\x03\x00", api.ErrShort},
		{"\x01\x010\x0201\x00\x00\x00\x00\x00\x03all\x01\x01\x010\x01\x03\x02\xE8\x07\xE8\x07\x01a", api.ErrForm},
		{"\x01\x010\x0201\x00\x00\x00\x00\x00\x03all\x02\x01\x010\x01\x03\x02\xE8\x07\xE8\x07\x01a", api.ErrShort},
		{"\x01\x010\x0201\x00\x00\x00\x00\x00\x03all\x02\x01\x011\x01\x03\x01\x00\x00", api.ErrForm},
		{"\x01\x010\x0201\x00\x00\x00\x00\x00\x03all\x00\x00", api.ErrForm}, // an Ask has no Whole
		{"\x02\x010\x0201\x00\x00\x00\x00\x00\x03all\x00\x00", api.ErrForm}, // nor a Data a Zone: 97 is no key
	} {
		refused(t, c.b, c.want)
	}
	if got, errno := frame.Take(nil); errno != api.ErrShort || !frame.Same(got, frame.Frame{}) {
		t.Errorf("Take(nil) = %v, %d", got, errno)
	}
}

func TestSame(t *testing.T) {
	changes := []func(*frame.Frame){
		func(f *frame.Frame) {},
		func(f *frame.Frame) { f.Kind++ },
		func(f *frame.Frame) { f.From = "09" },
		func(f *frame.Frame) { f.To = "09" },
		func(f *frame.Frame) { f.From, f.To = f.To, f.From },
		func(f *frame.Frame) { f.Know = append(know.Know{knows("00", 1)}, f.Know...) },
		func(f *frame.Frame) { f.Know = know.Know{knows("0", 1, 9)} },
		func(f *frame.Frame) { f.Know = know.Know{knows("0", 2, 9)} },
		func(f *frame.Frame) { f.Clock = 77 },
		func(f *frame.Frame) { f.Members = []id.Id{"0", "07"} },
		func(f *frame.Frame) { f.Members = []id.Id{"07", "0"} },
		func(f *frame.Frame) { f.Certs = vec.Vec{at("07", 1)} },
		func(f *frame.Frame) { f.Certs = vec.Vec{at("07", 2)} },
		func(f *frame.Frame) { f.Rows = matrix.Matrix{row("0", at("07", 1))} },
		func(f *frame.Frame) { f.Rows = matrix.Matrix{row("0", at("07", 2))} },
		func(f *frame.Frame) { f.Zone = zone.Zone{{Op: zone.Disc, Size: 77}} },
		func(f *frame.Frame) { f.Zone = zone.Zone{{Op: zone.Disc, Size: 78}} },
		func(f *frame.Frame) { f.Items = []item.Item{heldOne(7, first, 0, "a")} },
		func(f *frame.Frame) { f.Items = []item.Item{heldOne(7, first, 0, "b")} },
		func(f *frame.Frame) { f.Whole = !f.Whole },
		func(f *frame.Frame) { f.Floor = vec.Vec{at("07", 1)} },
		func(f *frame.Frame) { f.Floor = vec.Vec{at("07", 2)} },
	}
	for _, f := range []frame.Frame{askOf(), dataOf(), staleOf()} {
		for i, x := range changes {
			for k, y := range changes {
				if got := frame.Same(with(f, x), with(f, y)); got != (i == k) {
					t.Errorf("of %v the changes %d and %d: %v", f, i, k, got)
				}
			}
		}
	}
}

func TestSameOfNothingAndOfNull(t *testing.T) {
	a := frame.Frame{Know: know.Know{}, Members: []id.Id{}, Certs: cert.List{}, Rows: matrix.Matrix{}, Zone: zone.Zone{}, Items: []item.Item{}, Floor: vec.Vec{}}
	if !frame.Same(a, frame.Frame{}) || !frame.Same(frame.Frame{}, a) {
		t.Error("nil and empty lists aren't one")
	}
	a.Know, a.Rows = know.Know{{Id: "0", Span: span.Span{Upto: 1, Extra: []int{}}}}, matrix.Matrix{{Id: "0", Vec: vec.Vec{}}}
	if !frame.Same(a, frame.Frame{Know: know.Know{knows("0", 1)}, Rows: matrix.Matrix{{Id: "0"}}}) {
		t.Error("nor are they further in")
	}
	b := frame.Frame{Zone: zone.Zone{{Op: zone.Half, At: complex(null, null), Size: null}}, Items: []item.Item{stubOf(1, first, complex(null, 1))}}
	if !frame.Same(b, frame.Frame{Zone: zone.Zone{{Op: zone.Half}}, Items: []item.Item{stubOf(1, first, 1i)}}) {
		t.Error("-0 isn't 0")
	}
}

// What is put is taken again, and no two frames have the same bytes.
func TestWhatIsPutIsTaken(t *testing.T) {
	seen := map[string]frame.Frame{}
	for i, f := range rightOnes() {
		b := frame.Put(f)
		got, errno := frame.Take(b)
		if errno != api.OK || !frame.Same(got, f) || !frame.Right(got) {
			t.Fatalf("%d: %v became %v, %d", i, f, got, errno)
		}
		if other, is := seen[string(b)]; is && !frame.Same(other, f) {
			t.Fatalf("%v and %v have the same bytes", f, other)
		}
		seen[string(b)] = f
	}
}

// The greatest frames that there are: were all bytes copied for each number, this would take minutes.
func TestTheGreatestFrames(t *testing.T) {
	for _, f := range []frame.Frame{
		{Kind: frame.Ask, Zone: zoneOf(31), Items: itemsOf(api.MaxBatch, stubOf(0, version("099999", api.MaxSeq, api.MaxSeq), complex(1000, 1000)))},
		{Kind: frame.Data, Whole: true, Items: itemsOf(api.MaxBatch, heldOne(0, version("099999", api.MaxSeq, api.MaxSeq), complex(1000, 1000), "sixteen bytes !!"))},
	} {
		f.From, f.To, f.Clock = "099999", "099998", api.MaxSeq
		f.Know, f.Members, f.Certs, f.Rows = knowOf(most, api.MaxExtra), ids(most), vecOf(most), rowsOf(most, most)
		b := frame.Put(f)
		got, errno := frame.Take(b)
		if len(b) < 700000 || errno != api.OK || !frame.Same(got, f) {
			t.Errorf("%d bytes, %d", len(b), errno)
		}
		refused(t, string(b[:len(b)-1]), api.ErrShort)
		refused(t, string(b)+"\x00", api.ErrForm)
	}
}
