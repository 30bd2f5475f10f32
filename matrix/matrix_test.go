package matrix_test

import (
	"math"
	"slices"
	"testing"

	"cenotaph/api"
	"cenotaph/id"
	"cenotaph/matrix"
	"cenotaph/vec"
)

func at(a id.Id, n int) vec.At { return vec.At{Id: a, N: n} }

func row(a id.Id, v ...vec.At) matrix.Row { return matrix.Row{Id: a, Vec: v} }

// equal holds two Matrices against each other without the package's own Same.
func equal(a, b matrix.Matrix) bool {
	return slices.EqualFunc(a, b, func(x, y matrix.Row) bool { return x.Id == y.Id && slices.Equal(x.Vec, y.Vec) })
}

func clone(m matrix.Matrix) matrix.Matrix {
	var l matrix.Matrix
	for _, x := range m {
		l = append(l, matrix.Row{Id: x.Id, Vec: slices.Clone(x.Vec)})
	}
	return l
}

func rightOnes() []matrix.Matrix {
	return []matrix.Matrix{
		nil,
		{},
		{row("0", at("0", 1))},
		{row("012345", at("012345", api.MaxSeq))},
		{row("01", at("02", 7))},
		{row("0", at("0", 3), at("01", 2)), row("01", at("0", 1))},
		{row("01", at("0", 3)), row("013", at("0", 3)), row("02", at("0", 1), at("013", 5), at("02", 9))},
	}
}

func wrongOnes() []matrix.Matrix {
	good := row("02", at("0", 1))
	l := []matrix.Matrix{
		{good, good},
		{row("0", at("0", 1)), row("0", at("0", 2))},
		{row("01", at("0", 1)), row("0", at("0", 1))},
		{row("02", at("0", 1)), row("013", at("0", 1))},
		{row("0", at("0", 1)), row("02", at("0", 1)), row("01", at("0", 1))},
	}
	for _, x := range []matrix.Row{
		{},
		row("01"),
		{Id: "01", Vec: vec.Vec{}},
		row("", at("0", 1)),
		row("1", at("0", 1)),
		row("00", at("0", 1)),
		row("0123456", at("0", 1)),
		row("\xff", at("0", 1)),
		row("01", at("0", 0)),
		row("01", at("0", -1)),
		row("01", at("0", math.MinInt)),
		row("01", at("0", api.MaxSeq+1)),
		row("01", at("0", math.MaxInt)),
		row("01", at("no id", 1)),
		row("01", at("0", 1), at("0", 2)),
		row("01", at("01", 1), at("0", 1)),
		row("01", at("0", 1), at("01", 0)),
	} {
		l = append(l, matrix.Matrix{x}, matrix.Matrix{row("0", at("0", 1)), x}, matrix.Matrix{x, good}, matrix.Matrix{row("0", at("0", 1)), x, good})
	}
	return l
}

func TestRight(t *testing.T) {
	for _, m := range rightOnes() {
		if !matrix.Right(m) {
			t.Errorf("%v isn't Right", m)
		}
	}
	for _, m := range wrongOnes() {
		if matrix.Right(m) {
			t.Errorf("%v is Right", m)
		}
	}
}

func TestExample(t *testing.T) {
	m := matrix.Matrix{row("0", at("0", 3), at("01", 2)), row("01", at("0", 1))}
	if got := matrix.Stable(m, []id.Id{"0", "01"}); !slices.Equal(got, vec.Vec{at("0", 1)}) {
		t.Error(got)
	}
	if got := matrix.Stable(m, []id.Id{"0", "01", "02"}); len(got) != 0 {
		t.Error(got)
	}
}

// others is names that stand in no Matrix of these tests, some of which aren't Right.
var others = []id.Id{"", "00", "012", "0131", "03", "09999", "0123456", "1", "no id", "\xff"}

func TestOfDrop(t *testing.T) {
	for _, m := range rightOnes() {
		for i, x := range m {
			if got := matrix.Of(m, x.Id); !slices.Equal(got, x.Vec) {
				t.Errorf("Of(%v, %q) = %v", m, x.Id, got)
			}
			rest := slices.Concat(m[:i], m[i+1:])
			if got := matrix.Drop(m, x.Id); !equal(got, rest) || !matrix.Right(got) {
				t.Errorf("Drop(%v, %q) = %v", m, x.Id, got)
			}
			if got := matrix.Of(rest, x.Id); len(got) != 0 {
				t.Errorf("Of(%v, %q) = %v", rest, x.Id, got)
			}
		}
		for _, a := range others {
			if got := matrix.Of(m, a); len(got) != 0 {
				t.Errorf("Of(%v, %q) = %v", m, a, got)
			}
			if got := matrix.Drop(m, a); !equal(got, m) {
				t.Errorf("Drop(%v, %q) = %v", m, a, got)
			}
		}
	}
}

func TestPut(t *testing.T) {
	m := matrix.Matrix{row("0", at("0", 3), at("01", 2)), row("02", at("0", 1))}
	for _, c := range []struct {
		m    matrix.Matrix
		a    id.Id
		v    vec.Vec
		want matrix.Matrix
	}{
		{nil, "0", vec.Vec{at("0", 1)}, matrix.Matrix{row("0", at("0", 1))}},
		{matrix.Matrix{}, "012345", vec.Vec{at("0", api.MaxSeq)}, matrix.Matrix{row("012345", at("0", api.MaxSeq))}},
		{nil, "0", nil, nil},
		{nil, "0", vec.Vec{}, nil},
		{m, "0", nil, m},
		{m, "0", vec.Vec{}, m},
		{m, "01", nil, m},
		{m, "01", vec.Vec{}, m},
		{m, "0", vec.Vec{at("0", 2)}, m},
		{m, "0", vec.Vec{at("0", 3), at("01", 2)}, m},
		{m, "0", vec.Vec{at("0", 1), at("01", 5), at("03", 1)}, matrix.Matrix{row("0", at("0", 3), at("01", 5), at("03", 1)), m[1]}},
		{m, "01", vec.Vec{at("02", 4)}, matrix.Matrix{m[0], row("01", at("02", 4)), m[1]}},
		{m, "02", vec.Vec{at("02", 4)}, matrix.Matrix{m[0], row("02", at("0", 1), at("02", 4))}},
		{m, "03", vec.Vec{at("0", 1)}, matrix.Matrix{m[0], m[1], row("03", at("0", 1))}},
		{m[1:], "0", vec.Vec{at("0", 1)}, matrix.Matrix{row("0", at("0", 1)), m[1]}},
		{m, "", vec.Vec{at("0", 9)}, m},
		{m, "1", vec.Vec{at("0", 9)}, m},
		{m, "010", vec.Vec{at("0", 9)}, m},
		{m, "0123456", vec.Vec{at("0", 9)}, m},
		{nil, "no id", vec.Vec{at("0", 9)}, nil},
	} {
		if got := matrix.Put(c.m, c.a, c.v); !equal(got, c.want) || !matrix.Right(got) {
			t.Errorf("Put(%v, %q, %v) = %v", c.m, c.a, c.v, got)
		}
	}
}

var (
	whose = []id.Id{"0", "013", "02"}
	what  = []id.Id{"01", "02"}
)

// far is how far each of whose is as to each of what: a Matrix that is easily reckoned with.
type far [3][2]int

// small is all of them, each 0 to 2 far.
func small() []far {
	all := []far{{}}
	for i := range whose {
		for j := range what {
			var next []far
			for _, f := range all {
				for n := range 3 {
					f[i][j] = n
					next = append(next, f)
				}
			}
			all = next
		}
	}
	return all
}

func vecOf(l [2]int) vec.Vec {
	var v vec.Vec
	for j, n := range l {
		if n > 0 {
			v = append(v, at(what[j], n))
		}
	}
	return v
}

func matrixOf(f far) matrix.Matrix {
	var m matrix.Matrix
	for i, l := range f {
		if v := vecOf(l); len(v) > 0 {
			m = append(m, matrix.Row{Id: whose[i], Vec: v})
		}
	}
	return m
}

func greater(a, b far) far {
	for i := range a {
		for j := range a[i] {
			a[i][j] = max(a[i][j], b[i][j])
		}
	}
	return a
}

func TestMergeOfAllSmall(t *testing.T) {
	all := small()
	for n, a := range all {
		x := matrixOf(a)
		if !matrix.Right(x) {
			t.Fatalf("%v isn't Right", x)
		}
		for k, b := range all {
			y := matrixOf(b)
			if got := matrix.Merge(x, y); !equal(got, matrixOf(greater(a, b))) || !matrix.Right(got) {
				t.Fatalf("Merge(%v, %v) = %v", x, y, got)
			}
			if matrix.Same(x, y) != (n == k) {
				t.Fatalf("Same(%v, %v)", x, y)
			}
		}
	}
}

func TestPutOfAllSmall(t *testing.T) {
	for _, a := range small() {
		m := matrixOf(a)
		for i, name := range whose {
			if got := matrix.Of(m, name); !slices.Equal(got, vecOf(a[i])) {
				t.Fatalf("Of(%v, %q) = %v", m, name, got)
			}
			without := a
			without[i] = [2]int{}
			if got := matrix.Drop(m, name); !equal(got, matrixOf(without)) {
				t.Fatalf("Drop(%v, %q) = %v", m, name, got)
			}
			for n := range 16 {
				var with far
				with[i] = [2]int{n % 4, n / 4}
				if got := matrix.Put(m, name, vecOf(with[i])); !equal(got, matrixOf(greater(a, with))) || !matrix.Right(got) {
					t.Fatalf("Put(%v, %q, %v) = %v", m, name, vecOf(with[i]), got)
				}
			}
		}
	}
}

// lists is all lists of some of whose, and of one that has no Row, by which of them are there.
func lists() [][]id.Id {
	var all [][]id.Id
	names := append(slices.Clone(whose), "03")
	for n := range 1 << len(names) {
		var l []id.Id
		for i, a := range names {
			if n>>i&1 == 1 {
				l = append(l, a)
			}
		}
		all = append(all, l)
	}
	return all
}

// least is as far as all of l are, found one by one; of no id nothing.
func least(f far, l []id.Id) [2]int {
	if len(l) == 0 {
		return [2]int{}
	}
	low := [2]int{math.MaxInt, math.MaxInt}
	for _, a := range l {
		var own [2]int
		if i := slices.Index(whose, a); i >= 0 {
			own = f[i]
		}
		low = [2]int{min(low[0], own[0]), min(low[1], own[1])}
	}
	return low
}

func TestStable(t *testing.T) {
	all := lists()
	for _, f := range small() {
		m := matrixOf(f)
		for _, l := range all {
			want := vecOf(least(f, l))
			got := matrix.Stable(m, l)
			if !slices.Equal(got, want) || !vec.Right(got) {
				t.Fatalf("Stable(%v, %v) = %v", m, l, got)
			}
			back := slices.Clone(l)
			slices.Reverse(back)
			if got := matrix.Stable(m, slices.Concat(back, l)); !slices.Equal(got, want) {
				t.Fatalf("Stable(%v, %v), from behind and twice, = %v", m, l, got)
			}
		}
	}
}

func TestStableAtEdges(t *testing.T) {
	m := matrix.Matrix{row("0", at("0", api.MaxSeq), at("01", 2), at("03", 5)), row("01", at("0", api.MaxSeq), at("02", 4), at("03", 1))}
	for _, c := range []struct {
		m    matrix.Matrix
		l    []id.Id
		want vec.Vec
	}{
		{m, nil, nil},
		{m, []id.Id{}, nil},
		{nil, nil, nil},
		{nil, []id.Id{"0"}, nil},
		{matrix.Matrix{}, []id.Id{"0", "01"}, nil},
		{m, []id.Id{"0"}, m[0].Vec},
		{m, []id.Id{"01"}, m[1].Vec},
		{m, []id.Id{"0", "0"}, m[0].Vec},
		{m, []id.Id{"0", "01"}, vec.Vec{at("0", api.MaxSeq), at("03", 1)}},
		{m, []id.Id{"01", "0"}, vec.Vec{at("0", api.MaxSeq), at("03", 1)}},
		{m, []id.Id{"02"}, nil},
		{m, []id.Id{"02", "0"}, nil},
		{m, []id.Id{"0", "02", "01"}, nil},
		{m, []id.Id{"0", "no id"}, nil},
		{m, []id.Id{""}, nil},
	} {
		if got := matrix.Stable(c.m, c.l); !slices.Equal(got, c.want) {
			t.Errorf("Stable(%v, %v) = %v", c.m, c.l, got)
		}
	}
}

func TestWithMoreInAMatrixStableIsAsFarOrFarther(t *testing.T) {
	all, ids := small(), lists()
	for n := 0; n < len(all); n += 5 {
		x := matrixOf(all[n])
		for k := 0; k < len(all); k += 7 {
			more := matrix.Merge(x, matrixOf(all[k]))
			for _, l := range ids {
				if a, b := matrix.Stable(x, l), matrix.Stable(more, l); !vec.Within(a, b) {
					t.Fatalf("Stable of %v: %v in %v, %v in %v", l, a, x, b, more)
				}
			}
		}
	}
}

// From no id to one it is otherwise: of no id the chapter asks for an empty Vec.
func TestWithMoreIdsStableIsAsFarOrLess(t *testing.T) {
	ids := lists()
	for _, f := range small() {
		m := matrixOf(f)
		for _, l := range ids {
			for _, more := range ids {
				all := id.Union(l, more)
				if a, b := matrix.Stable(m, l), matrix.Stable(m, all); len(l) > 0 && !vec.Within(b, a) {
					t.Fatalf("Stable in %v: %v of %v, %v of %v", m, a, l, b, all)
				}
			}
		}
	}
}

func TestSame(t *testing.T) {
	all := rightOnes()
	for i, a := range all {
		for j, b := range all {
			bothEmpty := i < 2 && j < 2
			if matrix.Same(a, clone(b)) != (i == j || bothEmpty) {
				t.Errorf("Same(%v, %v)", a, b)
			}
		}
	}
	m := matrix.Matrix{row("0", at("0", 3), at("01", 2)), row("01", at("0", 1))}
	for _, other := range []matrix.Matrix{
		m[:1],
		m[1:],
		{m[0], row("02", at("0", 1))},
		{m[0], row("01", at("0", 2))},
		{m[0], row("01", at("01", 1))},
		{m[0], row("01", at("0", 1), at("01", 1))},
		{row("0", at("0", 3)), m[1]},
		{m[0], m[1], row("02", at("0", 1))},
	} {
		if matrix.Same(m, other) || matrix.Same(other, m) {
			t.Errorf("%v and %v are the same", m, other)
		}
	}
}

func scratchVec(v vec.Vec) {
	v = v[:cap(v)]
	for i := range v {
		v[i] = at("scratched", -1)
	}
}

func scratch(m matrix.Matrix) {
	for i := range m {
		scratchVec(m[i].Vec)
	}
	m = m[:cap(m)]
	for i := range m {
		m[i] = row("scratched")
	}
}

func roomyVec(v vec.Vec) vec.Vec {
	return append(slices.Clone(v), at("spare", 1), at("room", 2))[:len(v)]
}

// roomy is m with spare room, in itself and in each Vec, in which there stands something.
func roomy(m matrix.Matrix) matrix.Matrix {
	var l matrix.Matrix
	for _, x := range m {
		l = append(l, matrix.Row{Id: x.Id, Vec: roomyVec(x.Vec)})
	}
	return append(l, row("spare"), row("room"))[:len(m)]
}

// whole is all that stands in m and in its spare room, copied.
func whole(m matrix.Matrix) matrix.Matrix {
	var l matrix.Matrix
	for _, x := range m[:cap(m)] {
		l = append(l, matrix.Row{Id: x.Id, Vec: slices.Clone(x.Vec[:cap(x.Vec)])})
	}
	return l
}

// answers is all that the calls answer; a Vec stands as a Row's.
func answers(x, y matrix.Matrix, v vec.Vec, l []id.Id) []matrix.Matrix {
	matrix.Right(x)
	matrix.Same(x, y)
	vecs := matrix.Matrix{
		{Vec: matrix.Of(x, "0")}, {Vec: matrix.Of(x, "013")}, {Vec: matrix.Of(x, "none")},
		{Vec: matrix.Stable(x, l)}, {Vec: matrix.Stable(x, l[:1])}, {Vec: matrix.Stable(x, nil)},
	}
	return []matrix.Matrix{
		matrix.Merge(x, y), matrix.Merge(y, x), matrix.Merge(x, nil), matrix.Merge(nil, x), matrix.Merge(x, x),
		matrix.Put(x, "0", v), matrix.Put(x, "01", v), matrix.Put(x, "09", v), matrix.Put(nil, "0", v), matrix.Put(x, "0", nil), matrix.Put(x, "no id", v),
		matrix.Drop(x, "0"), matrix.Drop(x, "013"), matrix.Drop(x, "none"), vecs,
	}
}

func TestMatricesHandedInStayAndAreNotShared(t *testing.T) {
	all := small()
	for n := 0; n < len(all); n += 10 {
		for k := 0; k < len(all); k += 11 {
			x, y, v := roomy(matrixOf(all[n])), roomy(matrixOf(all[k])), roomyVec(vecOf([2]int{n % 4, k % 3}))
			ids := []id.Id{"0", "02", "spare", "room"}
			l := ids[:2]
			keptX, keptY, keptV, keptIds := whole(x), whole(y), slices.Clone(v[:cap(v)]), slices.Clone(ids)
			var want []matrix.Matrix
			for i, m := range answers(x, y, v, l) {
				want = append(want, clone(m))
				scratch(m)
				if !equal(whole(x), keptX) || !equal(whole(y), keptY) || !slices.Equal(v[:cap(v)], keptV) || !slices.Equal(ids, keptIds) {
					t.Fatalf("answer %d of %v and %v changed them: %v, %v", i, keptX, keptY, x, y)
				}
			}
			again := answers(x, y, v, l)
			scratch(x)
			scratch(y)
			scratchVec(v)
			for i, m := range again {
				if !equal(m, want[i]) {
					t.Fatalf("answer %d of %v and %v is kept: %v", i, keptX, keptY, m)
				}
				scratch(m)
			}
		}
	}
}

// Nor do the Vecs of one answer share anything with one another, not even where one Matrix was handed in twice.
func TestVecsOfOneAnswerAreTheirOwn(t *testing.T) {
	shared := vec.Vec{at("0", 3), at("01", 2)}
	m := matrix.Matrix{{Id: "0", Vec: shared}, {Id: "01", Vec: shared}, {Id: "02", Vec: shared[:1]}}
	for i, got := range []matrix.Matrix{matrix.Merge(m, nil), matrix.Merge(nil, m), matrix.Merge(m, m), matrix.Put(m, "03", shared),
		matrix.Put(m, "01", shared), matrix.Put(m, "0", nil), matrix.Drop(m, "none")} {
		for k := range got {
			want := clone(got)
			want[k].Vec = nil
			scratchVec(got[k].Vec)
			got[k].Vec = nil
			if !equal(got, want) {
				t.Fatalf("answer %d: Row %d shares its Vec: %v", i, k, got)
			}
		}
	}
	if !slices.Equal(shared, vec.Vec{at("0", 3), at("01", 2)}) {
		t.Error(shared)
	}
}

func TestNoCallPanics(t *testing.T) {
	ids := append(slices.Clone(others), "0", "01", "02")
	all := append(wrongOnes(), rightOnes()...)
	for _, m := range all {
		matrix.Right(m)
		for _, a := range ids {
			matrix.Of(m, a)
			matrix.Drop(m, a)
			matrix.Stable(m, []id.Id{a})
			matrix.Stable(m, []id.Id{"0", a, "01", a})
		}
		matrix.Stable(m, ids)
		for _, other := range all {
			matrix.Merge(m, other)
			matrix.Same(m, other)
			for _, x := range other {
				matrix.Put(m, x.Id, x.Vec)
			}
		}
	}
}
