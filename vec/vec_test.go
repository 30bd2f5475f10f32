package vec_test

import (
	"math"
	"slices"
	"testing"

	"cenotaph/api"
	"cenotaph/id"
	"cenotaph/vec"
)

func TestRight(t *testing.T) {
	for _, v := range []vec.Vec{
		nil,
		{},
		{{Id: "0", N: 1}},
		{{Id: "0", N: api.MaxSeq}},
		{{Id: "012345", N: 7}},
		{{Id: "0", N: 3}, {Id: "01", N: 2}},
		{{Id: "01", N: 3}, {Id: "013", N: 2}, {Id: "02", N: 1}},
	} {
		if !vec.Right(v) {
			t.Errorf("%v isn't Right", v)
		}
	}
	for _, v := range []vec.Vec{
		{{Id: "0", N: 0}},
		{{Id: "0", N: -1}},
		{{Id: "0", N: math.MinInt}},
		{{Id: "0", N: api.MaxSeq + 1}},
		{{Id: "0", N: math.MaxInt}},
		{{Id: "", N: 1}},
		{{Id: "1", N: 1}},
		{{Id: "00", N: 1}},
		{{Id: "0123456", N: 1}},
		{{}},
		{{Id: "01", N: 1}, {Id: "0", N: 1}},
		{{Id: "0", N: 1}, {Id: "0", N: 1}},
		{{Id: "0", N: 1}, {Id: "0", N: 2}},
		{{Id: "0", N: 1}, {Id: "02", N: 1}, {Id: "013", N: 1}},
		{{Id: "0", N: 1}, {Id: "01", N: 0}},
		{{Id: "0", N: 1}, {Id: "010", N: 1}},
	} {
		if vec.Right(v) {
			t.Errorf("%v is Right", v)
		}
	}
}

func TestOf(t *testing.T) {
	v := vec.Vec{{Id: "0", N: 3}, {Id: "013", N: 2}, {Id: "02", N: api.MaxSeq}}
	for _, c := range []struct {
		a    id.Id
		want int
	}{{"0", 3}, {"013", 2}, {"02", api.MaxSeq}, {"01", 0}, {"0131", 0}, {"03", 0}, {"", 0}, {"1", 0}, {"\xff", 0}} {
		if got := vec.Of(v, c.a); got != c.want {
			t.Errorf("Of %q: %d", c.a, got)
		}
		if got := vec.Of(nil, c.a); got != 0 {
			t.Errorf("Of %q in none: %d", c.a, got)
		}
	}
}

func TestSet(t *testing.T) {
	v := vec.Vec{{Id: "0", N: 3}, {Id: "02", N: 2}}
	for _, c := range []struct {
		v    vec.Vec
		a    id.Id
		n    int
		want vec.Vec
	}{
		{nil, "0", 1, vec.Vec{{Id: "0", N: 1}}},
		{vec.Vec{}, "012345", 9, vec.Vec{{Id: "012345", N: 9}}},
		{nil, "0", 0, nil},
		{v, "0", 4, vec.Vec{{Id: "0", N: 4}, {Id: "02", N: 2}}},
		{v, "0", 3, v},
		{v, "0", 2, v},
		{v, "02", 5, vec.Vec{{Id: "0", N: 3}, {Id: "02", N: 5}}},
		{v, "013", 1, vec.Vec{{Id: "0", N: 3}, {Id: "013", N: 1}, {Id: "02", N: 2}}},
		{v, "03", 1, vec.Vec{{Id: "0", N: 3}, {Id: "02", N: 2}, {Id: "03", N: 1}}},
		{v[1:], "0", 7, vec.Vec{{Id: "0", N: 7}, {Id: "02", N: 2}}},
		{v, "02", api.MaxSeq, vec.Vec{{Id: "0", N: 3}, {Id: "02", N: api.MaxSeq}}},
		{v, "02", api.MaxSeq + 1, vec.Vec{{Id: "0", N: 3}, {Id: "02", N: api.MaxSeq}}},
		{v, "01", math.MaxInt, vec.Vec{{Id: "0", N: 3}, {Id: "01", N: api.MaxSeq}, {Id: "02", N: 2}}},
		{v, "0", 0, v},
		{v, "01", 0, v},
		{v, "01", -1, v},
		{v, "0", math.MinInt, v},
		{v, "", 5, v},
		{v, "1", 5, v},
		{v, "010", 5, v},
		{v, "0123456", 5, v},
	} {
		got := vec.Set(c.v, c.a, c.n)
		if !slices.Equal(got, c.want) || !vec.Right(got) {
			t.Errorf("Set(%v, %q, %d) = %v", c.v, c.a, c.n, got)
		}
	}
}

func TestJoinMeet(t *testing.T) {
	for _, c := range []struct{ a, b, join, meet vec.Vec }{
		{nil, vec.Vec{}, nil, nil},
		{
			vec.Vec{{Id: "0", N: 3}, {Id: "01", N: 2}},
			vec.Vec{{Id: "0", N: 1}},
			vec.Vec{{Id: "0", N: 3}, {Id: "01", N: 2}},
			vec.Vec{{Id: "0", N: 1}},
		},
		{
			vec.Vec{{Id: "0", N: 3}, {Id: "01", N: 2}, {Id: "03", N: 4}},
			vec.Vec{{Id: "01", N: 5}, {Id: "013", N: 6}, {Id: "03", N: 4}},
			vec.Vec{{Id: "0", N: 3}, {Id: "01", N: 5}, {Id: "013", N: 6}, {Id: "03", N: 4}},
			vec.Vec{{Id: "01", N: 2}, {Id: "03", N: 4}},
		},
		{
			vec.Vec{{Id: "0", N: api.MaxSeq}},
			vec.Vec{{Id: "012345", N: api.MaxSeq}},
			vec.Vec{{Id: "0", N: api.MaxSeq}, {Id: "012345", N: api.MaxSeq}},
			nil,
		},
	} {
		for i, p := range [][2]vec.Vec{{c.a, c.b}, {c.b, c.a}} {
			if got := vec.Join(p[0], p[1]); !slices.Equal(got, c.join) {
				t.Errorf("Join(%v, %v) (%d) = %v", p[0], p[1], i, got)
			}
			if got := vec.Meet(p[0], p[1]); !slices.Equal(got, c.meet) {
				t.Errorf("Meet(%v, %v) (%d) = %v", p[0], p[1], i, got)
			}
		}
	}
}

func TestDrop(t *testing.T) {
	v := vec.Vec{{Id: "0", N: 3}, {Id: "01", N: 2}, {Id: "02", N: 1}}
	for _, c := range []struct {
		v    vec.Vec
		a    id.Id
		want vec.Vec
	}{
		{v, "0", v[1:]},
		{v, "01", vec.Vec{{Id: "0", N: 3}, {Id: "02", N: 1}}},
		{v, "02", v[:2]},
		{v, "03", v},
		{v, "", v},
		{v, "no id", v},
		{v[:1], "0", nil},
		{nil, "0", nil},
	} {
		if got := vec.Drop(c.v, c.a); !slices.Equal(got, c.want) {
			t.Errorf("Drop(%v, %q) = %v", c.v, c.a, got)
		}
	}
}

func TestNilAndEmptyAreOne(t *testing.T) {
	if !vec.Same(nil, vec.Vec{}) || !vec.Same(vec.Vec{}, nil) || !vec.Within(vec.Vec{}, nil) || !vec.Within(nil, vec.Vec{}) {
		t.Error("nil and empty differ")
	}
	if vec.Same(nil, vec.Vec{{Id: "0", N: 1}}) || vec.Within(vec.Vec{{Id: "0", N: 1}}, nil) {
		t.Error("something is nothing")
	}
}

var some = []id.Id{"0", "01", "013", "02"}

// small is all Vecs of some ids, each 0 to 2 far, by how far each id is.
func small() [][]int {
	all := [][]int{nil}
	for range some {
		var next [][]int
		for _, far := range all {
			for n := range 3 {
				next = append(next, append(slices.Clone(far), n))
			}
		}
		all = next
	}
	return all
}

func vecOf(far []int) vec.Vec {
	var v vec.Vec
	for i, n := range far {
		if n > 0 {
			v = append(v, vec.At{Id: some[i], N: n})
		}
	}
	return v
}

// each is what a pair's numbers come to, one by one.
func each(a, b []int, f func(x, y int) int) []int {
	var l []int
	for i := range a {
		l = append(l, f(a[i], b[i]))
	}
	return l
}

func TestAllSmallVecs(t *testing.T) {
	all := small()
	for _, a := range all {
		x := vecOf(a)
		if !vec.Right(x) {
			t.Fatalf("%v isn't Right", x)
		}
		for i, name := range some {
			if vec.Of(x, name) != a[i] {
				t.Fatalf("Of(%v, %q)", x, name)
			}
			without := slices.Clone(a)
			without[i] = 0
			if got := vec.Drop(x, name); !slices.Equal(got, vecOf(without)) {
				t.Fatalf("Drop(%v, %q) = %v", x, name, got)
			}
			for n := -1; n < 4; n++ {
				with := slices.Clone(a)
				with[i] = max(a[i], n)
				if got := vec.Set(x, name, n); !slices.Equal(got, vecOf(with)) {
					t.Fatalf("Set(%v, %q, %d) = %v", x, name, n, got)
				}
			}
		}
		for _, b := range all {
			y := vecOf(b)
			join := each(a, b, func(x, y int) int { return max(x, y) })
			meet := each(a, b, func(x, y int) int { return min(x, y) })
			if got := vec.Join(x, y); !slices.Equal(got, vecOf(join)) {
				t.Fatalf("Join(%v, %v) = %v", x, y, got)
			}
			if got := vec.Meet(x, y); !slices.Equal(got, vecOf(meet)) {
				t.Fatalf("Meet(%v, %v) = %v", x, y, got)
			}
			if vec.Within(x, y) != slices.Equal(meet, a) || vec.Same(x, y) != slices.Equal(a, b) {
				t.Fatalf("Within, Same of %v and %v", x, y)
			}
		}
	}
}

// The longest Vec that can be: it ends soon at that, too.
func TestAllIds(t *testing.T) {
	l := []id.Id{id.Root}
	for i := 0; i < len(l); i++ {
		for k := 1; k <= api.MaxKids; k++ {
			if a, err := id.Child(l[i], k); err == api.OK {
				l = append(l, a)
			}
		}
	}
	slices.SortFunc(l, id.Compare)
	var v, w vec.Vec
	for i, a := range l {
		v = append(v, vec.At{Id: a, N: 1 + i%3})
		w = append(w, vec.At{Id: a, N: 3 - i%3})
	}
	join, meet := vec.Join(v, w), vec.Meet(v, w)
	if len(v) != 66430 || !vec.Right(v) || !vec.Right(join) || !vec.Right(meet) || len(join) != len(v) || len(meet) != len(v) {
		t.Error(len(v), len(join), len(meet))
	}
	if !vec.Within(meet, v) || !vec.Within(v, join) || vec.Within(v, w) || vec.Same(v, w) || vec.Of(v, l[len(l)-1]) != 1 {
		t.Error("orders")
	}
}

// roomy is a Vec with spare room, in which there stands something.
func roomy(v vec.Vec) (list, whole vec.Vec) {
	whole = append(slices.Clone(v), vec.At{Id: "spare", N: 1}, vec.At{Id: "room", N: 2})
	return whole[:len(v)], whole
}

func scratch(v vec.Vec) {
	v = v[:cap(v)]
	for i := range v {
		v[i] = vec.At{Id: "scratched", N: -1}
	}
}

func answers(x, y vec.Vec) []vec.Vec {
	vec.Right(x)
	vec.Of(x, "01")
	vec.Within(x, y)
	vec.Same(x, y)
	return []vec.Vec{vec.Join(x, y), vec.Join(y, x), vec.Join(x, nil), vec.Join(nil, x), vec.Meet(x, y), vec.Meet(x, x),
		vec.Set(x, "0", 9), vec.Set(x, "01", 1), vec.Set(x, "09", 1), vec.Set(x, "0", 0), vec.Set(x, "no id", 3),
		vec.Drop(x, "0"), vec.Drop(x, "01"), vec.Drop(x, "none")}
}

func TestVecsHandedInStayAndAreNotShared(t *testing.T) {
	all := small()
	for i := 0; i < len(all); i += 4 {
		for j := 0; j < len(all); j += 5 {
			a, b := vecOf(all[i]), vecOf(all[j])
			x, wholeX := roomy(a)
			y, wholeY := roomy(b)
			keptX, keptY := slices.Clone(wholeX), slices.Clone(wholeY)
			var want []vec.Vec
			for n, v := range answers(x, y) {
				want = append(want, slices.Clone(v))
				scratch(v)
				if !slices.Equal(wholeX, keptX) || !slices.Equal(wholeY, keptY) {
					t.Fatalf("answer %d of %v and %v changed them: %v, %v", n, a, b, wholeX, wholeY)
				}
			}
			again := answers(x, y)
			scratch(wholeX)
			scratch(wholeY)
			for n, v := range again {
				if !slices.Equal(v, want[n]) {
					t.Fatalf("answer %d of %v and %v is kept: %v", n, a, b, v)
				}
				scratch(v)
			}
		}
	}
}

func TestNoCallPanics(t *testing.T) {
	ids := []id.Id{"", "0", "01", "00", "0123456", "\xff", "no id"}
	numbers := []int{math.MinInt, -1, 0, 1, api.MaxSeq, api.MaxSeq + 1, math.MaxInt}
	var all []vec.Vec
	for _, a := range ids {
		for _, n := range numbers {
			all = append(all, vec.Vec{{Id: a, N: n}}, vec.Vec{{Id: "02", N: 1}, {Id: a, N: n}, {Id: "02", N: 4}, {Id: a, N: 1}, {}})
		}
	}
	for _, v := range all {
		for _, a := range ids {
			vec.Of(v, a)
			vec.Drop(v, a)
			for _, n := range numbers {
				vec.Set(v, a, n)
			}
		}
		for _, w := range all {
			vec.Join(v, w)
			vec.Meet(v, w)
			vec.Within(v, w)
			vec.Same(v, w)
		}
		vec.Right(v)
	}
}
