package item_test

import (
	"bytes"
	"math"
	"slices"
	"strings"
	"testing"

	"cenotaph/api"
	"cenotaph/id"
	"cenotaph/item"
	"cenotaph/wire"
)

var null = math.Copysign(0, -1)

func version(a id.Id, seq, stamp int) item.Version {
	return item.Version{Id: a, Seq: seq, Stamp: stamp}
}

func deadOne(key int, v item.Version) item.Item {
	return item.Item{Key: key, Ver: v, Dead: true}
}

func stubOf(key int, v item.Version, spot complex128) item.Item {
	return item.Item{Key: key, Ver: v, Spot: spot}
}

func heldOne(key int, v item.Version, spot complex128, text string) item.Item {
	return item.Item{Key: key, Ver: v, Spot: spot, Text: text, Held: true}
}

var first = version("0", 1, 3)

// packed is items that are Right, with their bytes.
var packed = []struct {
	x    item.Item
	want string
}{
	{deadOne(1, first), "\x01\x010\x01\x03\x00"},
	{deadOne(0, version("0", 1, 1)), "\x00\x010\x01\x01\x00"},
	{deadOne(31, version("012345", api.MaxSeq, api.MaxSeq)), "\x1F\x06012345\x80\x80\x40\x80\x80\x40\x00"},
	{item.Item{Key: 1, Ver: first, Dead: true, Spot: complex(null, null)}, "\x01\x010\x01\x03\x00"},
	{stubOf(2, first, 0), "\x02\x010\x01\x03\x01\xE8\x07\xE8\x07"},
	{stubOf(2, first, complex(null, null)), "\x02\x010\x01\x03\x01\xE8\x07\xE8\x07"},
	{stubOf(2, first, complex(-1000, 1000)), "\x02\x010\x01\x03\x01\x00\xD0\x0F"},
	{stubOf(2, version("099", 128, 129), complex(1000, -1000)), "\x02\x03099\x80\x01\x81\x01\x01\xD0\x0F\x00"},
	{stubOf(2, first, complex(-873, -872)), "\x02\x010\x01\x03\x01\x7F\x80\x01"},
	{heldOne(3, first, complex(1, 2), ""), "\x03\x010\x01\x03\x02\xE9\x07\xEA\x07\x00"},
	{heldOne(3, first, complex(-1, -2), "hi"), "\x03\x010\x01\x03\x02\xE7\x07\xE6\x07\x02hi"},
	{heldOne(31, version("012", 2, 2), complex(-1000, 7), "\x00\xFF\x80"), "\x1F\x03012\x02\x02\x02\x00\xEF\x07\x03\x00\xFF\x80"},
	{heldOne(3, first, 0, "sixteen bytes !!"), "\x03\x010\x01\x03\x02\xE8\x07\xE8\x07\x10sixteen bytes !!"},
}

// wrongOnes is items that aren't Right, by one thing each.
func wrongOnes() []item.Item {
	var l []item.Item
	for _, key := range []int{-1, api.MaxKeys, 256, math.MinInt, math.MaxInt} {
		l = append(l, deadOne(key, first), stubOf(key, first, 0), heldOne(key, first, 0, "a"))
	}
	for _, a := range []id.Id{"", "1", "00", "010", "0123456", "0 ", "\xFF"} {
		l = append(l, deadOne(1, version(a, 1, 3)), heldOne(1, version(a, 1, 3), 0, "a"))
	}
	for _, n := range []int{0, -1, api.MaxSeq + 1, math.MinInt, math.MaxInt} {
		l = append(l, deadOne(1, version("0", n, 3)), deadOne(1, version("0", 1, n)))
		l = append(l, heldOne(1, version("0", n, 3), 0, ""), stubOf(1, version("0", 1, n), 0))
	}
	for _, part := range []float64{-1001, 1001, 0.5, -999.5, 1e300, math.Inf(1), math.Inf(-1), math.NaN()} {
		l = append(l, stubOf(1, first, complex(part, 0)), stubOf(1, first, complex(0, part)))
		l = append(l, heldOne(1, first, complex(part, 0), "a"), heldOne(1, first, complex(0, part), "a"))
	}
	for _, x := range []item.Item{
		{},
		heldOne(1, first, 0, "seventeen bytes !"),
		heldOne(1, first, 0, strings.Repeat("\u00e9", 9)),
		{Key: 1, Ver: first, Dead: true, Held: true},
		{Key: 1, Ver: first, Dead: true, Held: true, Text: "a"},
		{Key: 1, Ver: first, Dead: true, Text: "a"},
		{Key: 1, Ver: first, Dead: true, Spot: 1},
		{Key: 1, Ver: first, Dead: true, Spot: 1i},
		{Key: 1, Ver: first, Text: "a"},
	} {
		l = append(l, x)
	}
	return l
}

func TestNewer(t *testing.T) {
	for _, c := range []struct {
		a, b item.Version
		want bool
	}{
		{version("0", 1, 3), version("0", 1, 2), true},
		{version("0", 1, 2), version("0", 1, 3), false},
		{version("0", 1, 3), version("09", 9, 2), true},
		{version("09", 9, 2), version("0", 1, 3), false},
		{version("01", 1, 3), version("0", 1, 3), true},
		{version("0", 1, 3), version("01", 1, 3), false},
		{version("02", 1, 3), version("013", 9, 3), true},
		{version("013", 9, 3), version("02", 1, 3), false},
		{version("0", 1, 3), version("0", 1, 3), false},
		{version("0", 2, 3), version("0", 1, 3), false},
		{version("0", 1, 3), version("0", 2, 3), false},
		{version("", 0, math.MaxInt), version("0", 0, math.MinInt), true},
		{version("0", 0, math.MinInt), version("", 0, math.MaxInt), false},
		{version("0", 0, 0), version("", 0, 0), true},
		{version("\xFF", 0, 0), version("a", 0, 0), true},
	} {
		if item.Newer(c.a, c.b) != c.want {
			t.Errorf("Newer(%v, %v) isn't %v", c.a, c.b, c.want)
		}
	}
}

func someVersions() []item.Version {
	var l []item.Version
	for _, a := range []id.Id{"", "0", "01", "013", "02", "1", "any text"} {
		for _, seq := range []int{-1, 0, 1, 2} {
			for _, stamp := range []int{math.MinInt, -1, 0, 1, 2, api.MaxSeq, math.MaxInt} {
				l = append(l, version(a, seq, stamp))
			}
		}
	}
	return l
}

func TestOneIsNewerAndNeverBoth(t *testing.T) {
	all := someVersions()
	for _, a := range all {
		for _, b := range all {
			same := a.Stamp == b.Stamp && a.Id == b.Id
			ab, ba := item.Newer(a, b), item.Newer(b, a)
			if same && (ab || ba) || !same && ab == ba {
				t.Fatalf("%v and %v: %v, %v", a, b, ab, ba)
			}
		}
	}
	for _, a := range all[:60] {
		for _, b := range all {
			for _, c := range all {
				if item.Newer(a, b) && item.Newer(b, c) && !item.Newer(a, c) {
					t.Fatalf("%v, %v, %v", a, b, c)
				}
			}
		}
	}
}

func TestRight(t *testing.T) {
	for _, c := range packed {
		if !item.Right(c.x) {
			t.Errorf("%v isn't Right", c.x)
		}
	}
	for _, x := range wrongOnes() {
		if item.Right(x) {
			t.Errorf("%v is Right", x)
		}
	}
	for key := -3; key < api.MaxKeys+3; key++ {
		if item.Right(deadOne(key, first)) != (key >= 0 && key < 32) {
			t.Errorf("key %d", key)
		}
	}
	for size := range 40 {
		if item.Right(heldOne(1, first, 0, strings.Repeat("x", size))) != (size <= 16) {
			t.Errorf("a text of %d", size)
		}
	}
}

func TestStub(t *testing.T) {
	for _, c := range []struct{ x, want item.Item }{
		{heldOne(3, first, complex(1, 2), "hi"), stubOf(3, first, complex(1, 2))},
		{heldOne(3, first, complex(1, 2), ""), stubOf(3, first, complex(1, 2))},
		{stubOf(3, first, complex(1, 2)), stubOf(3, first, complex(1, 2))},
		{deadOne(3, first), deadOne(3, first)},
		{item.Item{}, item.Item{}},
		{item.Item{Key: -1, Ver: version("x", -1, -2), Dead: true, Spot: 0.5, Text: "a", Held: true}, item.Item{Key: -1, Ver: version("x", -1, -2), Dead: true, Spot: 0.5}},
		{item.Item{Key: 3, Ver: first, Text: "a"}, stubOf(3, first, 0)},
	} {
		if got := item.Stub(c.x); got != c.want {
			t.Errorf("Stub(%v) = %v", c.x, got)
		}
	}
}

func TestPut(t *testing.T) {
	for _, b := range []string{"", "\x00", "ahead"} {
		for _, c := range packed {
			if got := item.Put([]byte(b), c.x); string(got) != b+c.want {
				t.Errorf("Put(%q, %v) = %x", b, c.x, got)
			}
		}
		for _, x := range wrongOnes() {
			if got := item.Put([]byte(b), x); string(got) != b {
				t.Errorf("Put(%q, %v) = %x", b, x, got)
			}
		}
	}
	if got := item.Put(nil, packed[0].x); string(got) != packed[0].want || len(item.Put(nil, item.Item{})) != 0 {
		t.Error("nil isn't as empty")
	}
}

func TestTake(t *testing.T) {
	var b []byte
	for _, c := range packed {
		r := wire.Read([]byte(c.want))
		if got, ok := item.Take(r); !ok || got != c.x || r.End() != api.OK {
			t.Errorf("Take of %x: %v, %v, %d", c.want, got, ok, r.End())
		}
		b = item.Put(b, c.x)
	}
	r := wire.Read(b)
	for _, c := range packed {
		if got, ok := item.Take(r); !ok || got != c.x {
			t.Errorf("%v instead of %v", got, c.x)
		}
	}
	if r.End() != api.OK {
		t.Error(r.End())
	}
}

// What r has is wrong: its Err tells so.
func TestTakeOfWrongBytes(t *testing.T) {
	for _, c := range []struct {
		b    string
		want api.Errno
	}{
		{"", api.ErrShort},
		{"\x20\x010\x01\x03\x00", api.ErrForm},
		{"\x81\x00\x010\x01\x03\x00", api.ErrForm},
		{"\x01\x070123456\x01\x03\x00", api.ErrForm},
		{"\x01\x06012", api.ErrShort},
		{"\x01\x010\x81\x80\x40\x03\x00", api.ErrForm},
		{"\x01\x010\x01\x81\x80\x40\x00", api.ErrForm},
		{"\x01\x010\x01\x03\x03", api.ErrForm},
		{"\x01\x010\x01\x03", api.ErrShort},
		{"\x01\x010\x01\x03\x01", api.ErrShort},
		{"\x01\x010\x01\x03\x01\xD1\x0F\x00", api.ErrForm},
		{"\x01\x010\x01\x03\x01\x00\xD1\x0F", api.ErrForm},
		{"\x01\x010\x01\x03\x02\xE8\x07\xE8\x07", api.ErrShort},
		{"\x01\x010\x01\x03\x02\xE8\x07\xE8\x07\x02a", api.ErrShort},
		{"\x01\x010\x01\x03\x02\xE8\x07\xE8\x07\x11seventeen bytes !", api.ErrForm},
		{"\x20\x011", api.ErrForm}, // wrong ahead of being too short, and of no Id
		{"\x01\x011\x01", api.ErrShort},
	} {
		r := wire.Read([]byte(c.b))
		if got, ok := item.Take(r); ok || got != (item.Item{}) || r.Err() != c.want {
			t.Errorf("Take of %x: %v, %v, %d", c.b, got, ok, r.Err())
		}
	}
}

// Each part may be taken, but it is no Item: r has nothing wrong, and goes on behind it.
func TestTakeOfNoItem(t *testing.T) {
	next := deadOne(1, first)
	for _, b := range []string{
		"\x01\x011\x01\x03\x00",
		"\x01\x00\x01\x03\x00",
		"\x01\x0200\x01\x03\x01\x00\x00",
		"\x01\x06012340\x01\x03\x02\x00\x00\x01a",
		"\x01\x010\x00\x03\x00",
		"\x01\x010\x01\x00\x02\xE8\x07\xE8\x07\x10sixteen bytes !!",
		"\x00\x00\x00\x00\x00",
	} {
		r := wire.Read(item.Put([]byte(b), next))
		if got, ok := item.Take(r); ok || got != (item.Item{}) || r.Err() != api.OK {
			t.Errorf("Take of %x: %v, %v, %d", b, got, ok, r.Err())
		}
		if got, ok := item.Take(r); !ok || got != next || r.End() != api.OK {
			t.Errorf("behind %x: %v, %v, %d", b, got, ok, r.End())
		}
	}
}

func TestTakeOfReadersThatHaveNothing(t *testing.T) {
	if got, ok := item.Take(nil); ok || got != (item.Item{}) {
		t.Error("of nil", got)
	}
	r := wire.Read([]byte("\x05" + packed[0].want))
	r.Num(4)
	if got, ok := item.Take(r); ok || got != (item.Item{}) || r.Err() != api.ErrForm {
		t.Error("of one that is wrong already", got, r.Err())
	}
}

// grown is items of each edge with each other one.
func grown() []item.Item {
	var l []item.Item
	spots := []complex128{0, complex(-1000, -1000), complex(1000, 1000), complex(-1, 1), complex(-873, 999), complex(null, 5)}
	for _, key := range []int{0, 1, 30, 31} {
		for _, a := range []id.Id{"0", "01", "099", "012345"} {
			for _, seq := range []int{1, 127, 128, api.MaxSeq} {
				for _, stamp := range []int{1, 16383, 16384, api.MaxSeq} {
					v := version(a, seq, stamp)
					l = append(l, deadOne(key, v))
					for _, spot := range spots {
						l = append(l, stubOf(key, v, spot), heldOne(key, v, spot, ""), heldOne(key, v, spot, "\x00\x80"), heldOne(key, v, spot, "sixteen bytes !!"))
					}
				}
			}
		}
	}
	return l
}

func TestWhatIsPutIsTaken(t *testing.T) {
	seen := map[string]item.Item{}
	for _, x := range grown() {
		b := item.Put(nil, x)
		r := wire.Read(b)
		got, ok := item.Take(r)
		if !ok || got != x || r.End() != api.OK {
			t.Fatalf("%v became %v, %v, %d", x, got, ok, r.End())
		}
		if other, is := seen[string(b)]; is && other != x {
			t.Fatalf("%v and %v have one text: %x", x, other, b)
		}
		seen[string(b)] = x
	}
}

// Of all that comes by one byte that is changed, left out or put between, and of all beginnings: what is taken has
// just those bytes.
func TestWhatIsTakenIsPut(t *testing.T) {
	taken := 0
	check := func(b []byte) {
		r := wire.Read(b)
		x, ok := item.Take(r)
		if !ok && x != (item.Item{}) || ok && !item.Right(x) {
			t.Fatalf("%x: %v, %v", b, x, ok)
		}
		if !ok {
			return
		}
		taken++
		put := item.Put(nil, x)
		if !bytes.HasPrefix(b, put) || (r.End() == api.OK) != (len(put) == len(b)) {
			t.Fatalf("%x was taken as %v, put as %x", b, x, put)
		}
	}
	for _, c := range packed {
		b := []byte(c.want)
		for i := range b {
			check(b[:i])
			check(slices.Delete(slices.Clone(b), i, i+1))
			for v := range 256 {
				changed := slices.Clone(b)
				changed[i] = byte(v)
				check(changed)
				check(slices.Insert(slices.Clone(b), i, byte(v)))
			}
		}
	}
	if taken < 1000 {
		t.Errorf("only %d were taken", taken)
	}
}

func TestBytesHandedInStayAndAreNotShared(t *testing.T) {
	for _, size := range []int{0, 1, 5} {
		for _, x := range []item.Item{packed[0].x, packed[4].x, packed[12].x, {}} {
			whole := []byte("bytes and spare room that is long enough for all of them")
			kept := bytes.Clone(whole)
			answer, second := item.Put(whole[:size], x), item.Put(whole[:size], x)
			want := string(second)
			scratch(answer)
			if !bytes.Equal(whole, kept) {
				t.Fatalf("Put of %v and what was handed in share: %q", x, whole)
			}
			scratch(whole)
			if string(second) != want {
				t.Fatalf("Put of %v keeps, or shares with another answer: %q", x, second)
			}
		}
	}
}

func scratch(b []byte) {
	b = b[:cap(b)]
	for i := range b {
		b[i] = '!'
	}
}

func TestNoCallPanics(t *testing.T) {
	all := append(grown()[:50], wrongOnes()...)
	for _, x := range all {
		item.Put(nil, item.Stub(x))
		for _, y := range all {
			item.Newer(x.Ver, y.Ver)
		}
	}
	for _, b := range []string{strings.Repeat("\x00", 1000), strings.Repeat("\x01", 1000), strings.Repeat("\x80", 1000), strings.Repeat("\xFF", 1000)} {
		r := wire.Read([]byte(b))
		for range 300 {
			item.Take(r)
		}
	}
}
