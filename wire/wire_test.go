package wire_test

import (
	"bytes"
	"math"
	"slices"
	"strings"
	"testing"

	"cenotaph/api"
	"cenotaph/wire"
)

// numbers is some with their bytes, edges of each length among them.
var numbers = []struct {
	n    int
	want string
}{
	{0, "\x00"},
	{1, "\x01"},
	{127, "\x7F"},
	{128, "\x80\x01"},
	{129, "\x81\x01"},
	{255, "\xFF\x01"},
	{256, "\x80\x02"},
	{300, "\xAC\x02"},
	{16383, "\xFF\x7F"},
	{16384, "\x80\x80\x01"},
	{api.MaxSeq, "\x80\x80\x40"},
	{1<<21 - 1, "\xFF\xFF\x7F"},
	{1 << 21, "\x80\x80\x80\x01"},
	{1 << 31, "\x80\x80\x80\x80\x08"},
	{1 << 32, "\x80\x80\x80\x80\x10"},
	{1<<56 - 1, "\xFF\xFF\xFF\xFF\xFF\xFF\xFF\x7F"},
	{1 << 56, "\x80\x80\x80\x80\x80\x80\x80\x80\x01"},
	{1 << 62, "\x80\x80\x80\x80\x80\x80\x80\x80\x40"},
	{math.MaxInt, "\xFF\xFF\xFF\xFF\xFF\xFF\xFF\xFF\x7F"},
}

func TestPut(t *testing.T) {
	for _, c := range numbers {
		for _, b := range []string{"", "\x00", "ahead"} {
			if got := wire.Put([]byte(b), c.n); string(got) != b+c.want {
				t.Errorf("Put(%q, %d) = %x", b, c.n, got)
			}
		}
	}
	for _, n := range []int{-1, -127, -128, -300, math.MinInt + 1, math.MinInt} {
		if got := wire.Put([]byte("b"), n); string(got) != "b\x00" {
			t.Errorf("Put of %d: %x", n, got)
		}
	}
}

func TestPutText(t *testing.T) {
	long := strings.Repeat("x", 300)
	for _, c := range []struct{ b, s, want string }{
		{"", "", "\x00"},
		{"b", "", "b\x00"},
		{"", "ab", "\x02ab"},
		{"b", "\x00", "b\x01\x00"},
		{"", "\xFF\xFE\x80", "\x03\xFF\xFE\x80"},
		{"", "\u00e9", "\x02\xC3\xA9"},
		{"", long[:127], "\x7F" + long[:127]},
		{"", long[:128], "\x80\x01" + long[:128]},
		{"b", long, "b\xAC\x02" + long},
	} {
		if got := wire.PutText([]byte(c.b), c.s); string(got) != c.want {
			t.Errorf("PutText(%q, %q) = %q", c.b, c.s, got)
		}
	}
	if wire.Put(nil, 5)[0] != 5 || string(wire.PutText(nil, "a")) != "\x01a" {
		t.Error("nil isn't as empty")
	}
}

func TestNum(t *testing.T) {
	for _, c := range numbers {
		for _, most := range []int{c.n, max(c.n, math.MaxInt-1), math.MaxInt} {
			r := wire.Read([]byte(c.want))
			if got := r.Num(most); got != c.n || r.Err() != api.OK || r.End() != api.OK {
				t.Errorf("%x: Num(%d) = %d, %d, %d", c.want, most, got, r.Err(), r.End())
			}
		}
		for _, most := range []int{c.n - 1, -1, math.MinInt} {
			r := wire.Read([]byte(c.want))
			if got := r.Num(most); got != 0 || r.Err() != api.ErrForm || r.End() != api.ErrForm {
				t.Errorf("%x: Num(%d) = %d, %d, %d", c.want, most, got, r.Err(), r.End())
			}
		}
	}
}

func TestNumOfWrongBytes(t *testing.T) {
	eight := strings.Repeat("\x80", 8)
	for _, c := range []struct {
		b    string
		most int
		want api.Errno
	}{
		{"", 9, api.ErrShort},
		{"", -1, api.ErrShort},
		{"\x80", 9, api.ErrShort},
		{"\xFF", -1, api.ErrShort},
		{"\xFF\xFF", 9, api.ErrShort},
		{eight, 9, api.ErrShort},
		{eight, math.MaxInt, api.ErrShort},
		{eight + "\x80", math.MaxInt, api.ErrForm},
		{eight + "\x80\x01", math.MaxInt, api.ErrForm},
		{eight + "\xFF", math.MaxInt, api.ErrForm},
		{strings.Repeat("\xFF", 9), math.MaxInt, api.ErrForm},
		{strings.Repeat("\xFF", 9) + "\x00", math.MaxInt, api.ErrForm},
		{strings.Repeat("\xFF", 9) + "\x7F", math.MaxInt, api.ErrForm},
		{strings.Repeat("\xFF", 1000), math.MaxInt, api.ErrForm},
		{eight + "\x00", math.MaxInt, api.ErrForm},
		{"\x80\x00", 9, api.ErrForm},
		{"\x81\x00", 9, api.ErrForm},
		{"\x80\x80\x00", math.MaxInt, api.ErrForm},
		{"\x80\x00\x01", math.MaxInt, api.ErrForm},
		{"\x0A", 9, api.ErrForm},
		{"\x80\x01", 127, api.ErrForm},
		{"\x01", 0, api.ErrForm},
		{"\x00", -1, api.ErrForm},
		{"\x00", math.MinInt, api.ErrForm},
	} {
		r := wire.Read([]byte(c.b))
		if got := r.Num(c.most); got != 0 || r.Err() != c.want || r.End() != c.want {
			t.Errorf("%x: Num(%d) = %d, %d, %d", c.b, c.most, got, r.Err(), r.End())
		}
	}
}

func TestText(t *testing.T) {
	long := strings.Repeat("x", 300)
	for _, c := range []struct {
		b    string
		most int
		want string
		err  api.Errno
	}{
		{"\x00", 0, "", api.OK},
		{"\x00", 9, "", api.OK},
		{"\x02ab", 2, "ab", api.OK},
		{"\x02ab", math.MaxInt, "ab", api.OK},
		{"\x03\x00\xFF\x80", 3, "\x00\xFF\x80", api.OK},
		{"\xAC\x02" + long, 300, long, api.OK},
		{"\x02ab", 1, "", api.ErrForm},
		{"\x02ab", -1, "", api.ErrForm},
		{"\x00", -1, "", api.ErrForm},
		{"\xAC\x02" + long, 299, "", api.ErrForm},
		{"\x03", 2, "", api.ErrForm}, // too many ahead of too few
		{"\x03ab", 9, "", api.ErrShort},
		{"\x01", 9, "", api.ErrShort},
		{"\xAC\x02" + long[1:], 300, "", api.ErrShort},
		{"\xFF\xFF\xFF\xFF\xFF\xFF\xFF\xFF\x7Fab", math.MaxInt, "", api.ErrShort},
		{"", 9, "", api.ErrShort},
		{"\x80", 9, "", api.ErrShort},
		{"\x82\x00ab", 9, "", api.ErrForm},
		{strings.Repeat("\x80", 9) + "ab", math.MaxInt, "", api.ErrForm},
	} {
		r := wire.Read([]byte(c.b))
		if got := r.Text(c.most); got != c.want || r.Err() != c.err || r.End() != c.err {
			t.Errorf("%q: Text(%d) = %q, %d, %d", c.b, c.most, got, r.Err(), r.End())
		}
	}
}

// What comes behind something wrong is never taken, and what is wrong later isn't told.
func TestWhatIsWrongFirstCounts(t *testing.T) {
	for _, c := range []struct {
		b    string
		do   func(r *wire.Reader)
		want api.Errno
	}{
		{"\x05\x01\x01a", func(r *wire.Reader) { r.Num(4) }, api.ErrForm},
		{"\x80\x00\x01", func(r *wire.Reader) { r.Num(9) }, api.ErrForm},
		{"\x09\x01a", func(r *wire.Reader) { r.Text(9) }, api.ErrShort},
		{"\x09\x01a", func(r *wire.Reader) { r.Text(8) }, api.ErrForm},
		{"\x01a\x80", func(r *wire.Reader) { r.Text(1); r.Num(9) }, api.ErrShort},
		{"\x01a\x02\x01a", func(r *wire.Reader) { r.Text(1); r.Num(1) }, api.ErrForm},
	} {
		r := wire.Read([]byte(c.b))
		c.do(r)
		for range 3 {
			if n, s := r.Num(math.MaxInt), r.Text(math.MaxInt); n != 0 || s != "" {
				t.Errorf("%q: %d and %q behind what is wrong", c.b, n, s)
			}
			if n, s := r.Num(-1), r.Text(-1); n != 0 || s != "" {
				t.Errorf("%q: %d and %q behind what is wrong", c.b, n, s)
			}
			if r.Err() != c.want || r.End() != c.want {
				t.Errorf("%q: %d, %d", c.b, r.Err(), r.End())
			}
		}
	}
}

// That something isn't taken yet is told by End alone, and ends nothing.
func TestEnd(t *testing.T) {
	r := wire.Read([]byte("\x07\x01a\xAC\x02"))
	if r.End() != api.ErrForm || r.Err() != api.OK || r.Num(7) != 7 {
		t.Error("ahead of all", r.End(), r.Err())
	}
	if r.End() != api.ErrForm || r.Err() != api.OK || r.Text(1) != "a" {
		t.Error("ahead of the text", r.End(), r.Err())
	}
	if r.End() != api.ErrForm || r.Err() != api.OK || r.Num(300) != 300 {
		t.Error("ahead of the last one", r.End(), r.Err())
	}
	if r.End() != api.OK || r.Err() != api.OK {
		t.Error("behind all", r.End(), r.Err())
	}
	if r.Num(9) != 0 || r.End() != api.ErrShort || r.Err() != api.ErrShort {
		t.Error("beyond all", r.End(), r.Err())
	}
	for _, b := range [][]byte{nil, {}} {
		if r := wire.Read(b); r == nil || r.End() != api.OK || r.Err() != api.OK {
			t.Error("of no bytes")
		}
	}
}

func TestNilReader(t *testing.T) {
	var r *wire.Reader
	for _, most := range []int{math.MinInt, -1, 0, 9, math.MaxInt} {
		if r.Num(most) != 0 || r.Text(most) != "" || r.End() != api.ErrArg || r.Err() != api.ErrArg {
			t.Error(most)
		}
	}
}

func TestWhatIsPutIsTaken(t *testing.T) {
	var b []byte
	texts := []string{"", "a", "\xFF\x00", strings.Repeat("\x80", 127), strings.Repeat("long", 5000)}
	for _, c := range numbers {
		b = wire.Put(b, c.n)
		for _, s := range texts {
			b = wire.PutText(b, s)
		}
	}
	r := wire.Read(b)
	for _, c := range numbers {
		if got := r.Num(c.n); got != c.n {
			t.Errorf("%d instead of %d", got, c.n)
		}
		for _, s := range texts {
			if got := r.Text(len(s)); got != s {
				t.Errorf("%q instead of %q", got, s)
			}
		}
	}
	if r.End() != api.OK {
		t.Error(r.End())
	}
	for n := range 100000 {
		if r := wire.Read(wire.Put(nil, n)); r.Num(n) != n || r.End() != api.OK {
			t.Fatal(n)
		}
	}
}

// model tells the document's words of a number, byte by byte, apart from the program's loop.
func model(b []byte) (int, int, api.Errno) {
	last := slices.IndexFunc(b, func(x byte) bool { return x < 128 })
	if last > 8 || last < 0 && len(b) > 8 {
		return 0, 0, api.ErrForm
	}
	if last < 0 {
		return 0, 0, api.ErrShort
	}
	if last > 0 && b[last] == 0 {
		return 0, 0, api.ErrForm
	}
	n := 0
	for i := last; i >= 0; i-- {
		n = n*128 + int(b[i])%128
	}
	return n, last + 1, api.OK
}

func checkBytes(t *testing.T, b []byte) {
	t.Helper()
	n, size, errno := model(b)
	r := wire.Read(b)
	if got := r.Num(math.MaxInt); got != n || r.Err() != errno {
		t.Fatalf("%x: %d, %d", b, got, r.Err())
	}
	if errno == api.OK && !bytes.Equal(wire.Put(nil, n), b[:size]) {
		t.Fatalf("%x: taken %d, put %x", b, n, wire.Put(nil, n))
	}
	if errno == api.OK && (r.End() == api.OK) != (size == len(b)) {
		t.Fatalf("%x: of %d bytes %d are taken", b, len(b), size)
	}
	s := wire.Read(b).Text(math.MaxInt)
	if errno == api.OK && n <= len(b)-size {
		if s != string(b[size:size+n]) || !bytes.HasPrefix(b, wire.PutText(nil, s)) {
			t.Fatalf("%x: the text %q", b, s)
		}
	} else if s != "" {
		t.Fatalf("%x: the text %q", b, s)
	}
}

// All of up to two bytes, and all of up to ten of few kinds: each number that is taken has just its own bytes.
func TestAllShortBytes(t *testing.T) {
	checkBytes(t, nil)
	for i := range 256 {
		checkBytes(t, []byte{byte(i)})
		for j := range 256 {
			checkBytes(t, []byte{byte(i), byte(j)})
		}
	}
	for _, kinds := range []string{"\x00\x01\x80", "\x00\x7F\xFF", "\x02\x81\x83"} {
		rows := [][]byte{nil}
		for i := 0; i < len(rows); i++ {
			checkBytes(t, rows[i])
			for k := 0; k < len(kinds) && len(rows[i]) < 10; k++ {
				rows = append(rows, append(slices.Clone(rows[i]), kinds[k]))
			}
		}
	}
}

func TestBytesHandedInStayAndAreNotShared(t *testing.T) {
	for _, size := range []int{0, 1, 5} {
		whole := []byte("bytes and spare room that is long enough")
		kept := bytes.Clone(whole)
		b := whole[:size]
		answers := [][]byte{wire.Put(b, 300), wire.Put(b, -1), wire.PutText(b, ""), wire.PutText(b, "text"), wire.Put(b, 300)}
		want := []string{"\xAC\x02", "\x00", "\x00", "\x04text", "\xAC\x02"}
		for i, l := range answers {
			if string(l) != string(kept[:size])+want[i] {
				t.Errorf("answer %d is %q", i, l)
			}
		}
		for i, l := range answers {
			l = l[:cap(l)]
			for j := range l {
				l[j] = '!'
			}
			if !bytes.Equal(whole, kept) {
				t.Fatalf("answer %d changed what was handed in: %q", i, whole)
			}
			if i+1 < len(answers) && string(answers[i+1]) != string(kept[:size])+want[i+1] {
				t.Fatalf("answer %d shares with the next one: %q", i, answers[i+1])
			}
		}
	}
}

func TestReadersKeepNothing(t *testing.T) {
	whole := []byte("\x05\x02ab\xAC\x02spare room")
	kept := bytes.Clone(whole)
	r, other := wire.Read(whole[:6]), wire.Read(whole[:6])
	if r.Num(9) != 5 || r.Text(9) != "ab" || r.Num(300) != 300 || r.End() != api.OK {
		t.Error(r.Err())
	}
	if !bytes.Equal(whole, kept) {
		t.Errorf("it was changed: %q", whole)
	}
	for i := range whole {
		whole[i] = 0xFF
	}
	if other.Num(9) != 5 || other.Text(9) != "ab" || other.Num(300) != 300 || other.End() != api.OK {
		t.Error("what was handed in is kept")
	}
}
