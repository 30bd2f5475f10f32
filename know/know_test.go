package know_test

import (
	"math"
	"slices"
	"testing"

	"cenotaph/api"
	"cenotaph/id"
	"cenotaph/know"
	"cenotaph/span"
	"cenotaph/vec"
)

func row(a id.Id, upto int, extra ...int) know.Row {
	return know.Row{Id: a, Span: span.Span{Upto: upto, Extra: extra}}
}

// steps is n numbers from a on, with one left out behind each.
func steps(a, n int) []int {
	var l []int
	for i := range n {
		l = append(l, a+2*i)
	}
	return l
}

// equal holds two Knows against each other without the package's own Same.
func equal(a, b know.Know) bool {
	return slices.EqualFunc(a, b, func(x, y know.Row) bool {
		return x.Id == y.Id && x.Span.Upto == y.Span.Upto && slices.Equal(x.Span.Extra, y.Span.Extra)
	})
}

func clone(k know.Know) know.Know {
	var l know.Know
	for _, x := range k {
		l = append(l, row(x.Id, x.Span.Upto, slices.Clone(x.Span.Extra)...))
	}
	return l
}

func TestRight(t *testing.T) {
	for _, k := range []know.Know{
		nil,
		{},
		{row("0", 1)},
		{row("0", 0, 2)},
		{row("0", api.MaxSeq)},
		{row("0", 0, api.MaxSeq)},
		{row("012345", 3, 5, 6)},
		{row("0", 0, steps(2, api.MaxExtra)...)},
		{row("0", 1), row("01", 1), row("013", 0, 7), row("02", 2)},
	} {
		if !know.Right(k) {
			t.Errorf("%v isn't Right", k)
		}
	}
	for _, k := range []know.Know{
		{{}},
		{row("0", 0)},
		{row("0", 1), row("01", 0)},
		{row("0", -1)},
		{row("0", -1, 2)},
		{row("0", math.MinInt)},
		{row("0", api.MaxSeq+1)},
		{row("0", 1, 2)},
		{row("0", 1, 4, 3)},
		{row("0", 1, 3, 3)},
		{row("0", 0, steps(2, api.MaxExtra+1)...)},
		{row("", 1)},
		{row("1", 1)},
		{row("00", 1)},
		{row("0123456", 1)},
		{row("0", 1), row("0", 1)},
		{row("0", 1), row("0", 2)},
		{row("01", 1), row("0", 1)},
		{row("0", 1), row("02", 1), row("013", 1)},
		{row("0", 1), row("01", 1), row("no id", 1)},
	} {
		if know.Right(k) {
			t.Errorf("%v is Right", k)
		}
	}
}

func TestOfHas(t *testing.T) {
	k := know.Know{row("0", 1, 3), row("013", 0, 2, 4), row("02", api.MaxSeq)}
	for _, c := range []struct {
		a    id.Id
		want span.Span
	}{
		{"0", span.Span{Upto: 1, Extra: []int{3}}},
		{"013", span.Span{Extra: []int{2, 4}}},
		{"02", span.Span{Upto: api.MaxSeq}},
		{"01", span.Span{}},
		{"0131", span.Span{}},
		{"03", span.Span{}},
		{"", span.Span{}},
		{"\xff", span.Span{}},
	} {
		if got := know.Of(k, c.a); !span.Same(got, c.want) {
			t.Errorf("Of %q: %v", c.a, got)
		}
		if got := know.Of(nil, c.a); !span.Same(got, span.Span{}) {
			t.Errorf("Of %q in none: %v", c.a, got)
		}
		for _, n := range []int{math.MinInt, -1, 0, 1, 2, 3, 4, 5, api.MaxSeq, api.MaxSeq + 1, math.MaxInt} {
			if know.Has(k, c.a, n) != span.Has(c.want, n) || know.Has(nil, c.a, n) {
				t.Errorf("Has %q, %d", c.a, n)
			}
		}
	}
}

func TestAdd(t *testing.T) {
	k := know.Know{row("0", 1, 3), row("02", 2)}
	for _, c := range []struct {
		k    know.Know
		a    id.Id
		n    int
		want know.Know
	}{
		{nil, "0", 1, know.Know{row("0", 1)}},
		{know.Know{}, "012345", 2, know.Know{row("012345", 0, 2)}},
		{nil, "0", api.MaxSeq, know.Know{row("0", 0, api.MaxSeq)}},
		{nil, "0", 0, nil},
		{nil, "1", 1, nil},
		{k, "0", 2, know.Know{row("0", 3), row("02", 2)}},
		{k, "0", 1, k},
		{k, "0", 3, k},
		{k, "0", 5, know.Know{row("0", 1, 3, 5), row("02", 2)}},
		{k, "02", 3, know.Know{row("0", 1, 3), row("02", 3)}},
		{k, "013", 1, know.Know{row("0", 1, 3), row("013", 1), row("02", 2)}},
		{k, "03", 4, know.Know{row("0", 1, 3), row("02", 2), row("03", 0, 4)}},
		{k[1:], "0", 1, know.Know{row("0", 1), row("02", 2)}},
		{k, "02", api.MaxSeq, know.Know{row("0", 1, 3), row("02", 2, api.MaxSeq)}},
		{know.Know{row("0", api.MaxSeq-1)}, "0", api.MaxSeq, know.Know{row("0", api.MaxSeq)}},
		{k, "0", api.MaxSeq + 1, k},
		{k, "01", api.MaxSeq + 1, k},
		{k, "01", math.MaxInt, k},
		{k, "0", 0, k},
		{k, "01", 0, k},
		{k, "01", -1, k},
		{k, "01", math.MinInt, k},
		{k, "", 1, k},
		{k, "1", 1, k},
		{k, "010", 1, k},
		{k, "0123456", 1, k},
		{k, "\xff", 1, k},
	} {
		got := know.Add(c.k, c.a, c.n)
		if !equal(got, c.want) || !know.Right(got) {
			t.Errorf("Add(%v, %q, %d) = %v", c.k, c.a, c.n, got)
		}
	}
}

func TestUnion(t *testing.T) {
	for _, c := range []struct{ a, b, want know.Know }{
		{nil, know.Know{}, nil},
		{know.Know{row("0", 1, 3)}, nil, know.Know{row("0", 1, 3)}},
		{know.Know{row("0", 1, 3)}, know.Know{row("0", 2)}, know.Know{row("0", 3)}},
		{
			know.Know{row("0", 1, 3), row("01", 0, 4), row("03", 9)},
			know.Know{row("01", 3), row("013", 1), row("03", 0, 11)},
			know.Know{row("0", 1, 3), row("01", 4), row("013", 1), row("03", 9, 11)},
		},
		{know.Know{row("0", api.MaxSeq)}, know.Know{row("012345", 1)}, know.Know{row("0", api.MaxSeq), row("012345", 1)}},
		{
			know.Know{row("0", 0, steps(2, api.MaxExtra)...)},
			know.Know{row("0", 0, steps(2, api.MaxExtra)...)},
			know.Know{row("0", 0, steps(2, api.MaxExtra)...)},
		},
		{
			know.Know{row("0", 0, steps(2, api.MaxExtra)...)},
			know.Know{row("0", 1, steps(3, api.MaxExtra-1)...)},
			know.Know{row("0", 2*api.MaxExtra)},
		},
	} {
		for i, p := range [][2]know.Know{{c.a, c.b}, {c.b, c.a}} {
			if got := know.Union(p[0], p[1]); !equal(got, c.want) || !know.Right(got) {
				t.Errorf("Union(%v, %v) (%d) = %v", p[0], p[1], i, got)
			}
		}
	}
}

func TestFirstsExtrasCount(t *testing.T) {
	for _, c := range []struct {
		k             know.Know
		firsts        vec.Vec
		extras, count int
	}{
		{nil, nil, 0, 0},
		{know.Know{row("0", 1, 3)}, vec.Vec{{Id: "0", N: 1}}, 1, 2},
		{know.Know{row("0", 3)}, vec.Vec{{Id: "0", N: 3}}, 0, 3},
		{know.Know{row("0", 0, 2)}, nil, 1, 1},
		{know.Know{row("0", 0, 2, 3), row("01", 5, 7), row("02", 1)}, vec.Vec{{Id: "01", N: 5}, {Id: "02", N: 1}}, 3, 9},
		{know.Know{row("0", api.MaxSeq), row("01", api.MaxSeq)}, vec.Vec{{Id: "0", N: api.MaxSeq}, {Id: "01", N: api.MaxSeq}}, 0, 2 * api.MaxSeq},
		{know.Know{row("0", 1, steps(3, api.MaxExtra)...)}, vec.Vec{{Id: "0", N: 1}}, api.MaxExtra, 1 + api.MaxExtra},
	} {
		firsts := know.Firsts(c.k)
		if !slices.Equal(firsts, c.firsts) || !vec.Right(firsts) {
			t.Errorf("Firsts of %v: %v", c.k, firsts)
		}
		if know.Extras(c.k) != c.extras || know.Count(c.k) != c.count {
			t.Errorf("%v: %d Extra of %d", c.k, know.Extras(c.k), know.Count(c.k))
		}
	}
}

func TestFrom(t *testing.T) {
	for _, c := range []struct {
		v    vec.Vec
		want know.Know
	}{
		{nil, nil},
		{vec.Vec{}, nil},
		{vec.Vec{{Id: "0", N: 1}}, know.Know{row("0", 1)}},
		{vec.Vec{{Id: "0", N: api.MaxSeq}, {Id: "013", N: 2}, {Id: "02", N: 7}}, know.Know{row("0", api.MaxSeq), row("013", 2), row("02", 7)}},
	} {
		got := know.From(c.v)
		if !equal(got, c.want) || !know.Right(got) {
			t.Errorf("From(%v) = %v", c.v, got)
		}
	}
}

func TestOnlyDrop(t *testing.T) {
	k := know.Know{row("0", 1, 3), row("01", 2), row("02", 0, 9)}
	for _, c := range []struct {
		l    []id.Id
		want know.Know
	}{
		{nil, nil},
		{[]id.Id{}, nil},
		{[]id.Id{"0"}, k[:1]},
		{[]id.Id{"01"}, k[1:2]},
		{[]id.Id{"0", "02"}, know.Know{k[0], k[2]}},
		{[]id.Id{"0", "01", "02"}, k},
		{[]id.Id{"", "0", "01", "013", "02", "03", "\xff"}, k},
		{[]id.Id{"", "00", "013", "03", "no id"}, nil},
	} {
		if got := know.Only(k, c.l); !equal(got, c.want) {
			t.Errorf("Only(%v, %v) = %v", k, c.l, got)
		}
		if got := know.Only(nil, c.l); len(got) != 0 {
			t.Errorf("Only(nil, %v) = %v", c.l, got)
		}
	}
	for _, c := range []struct {
		k    know.Know
		a    id.Id
		want know.Know
	}{
		{k, "0", k[1:]},
		{k, "01", know.Know{k[0], k[2]}},
		{k, "02", k[:2]},
		{k, "013", k},
		{k, "", k},
		{k, "no id", k},
		{k[:1], "0", nil},
		{nil, "0", nil},
	} {
		if got := know.Drop(c.k, c.a); !equal(got, c.want) {
			t.Errorf("Drop(%v, %q) = %v", c.k, c.a, got)
		}
	}
}

func TestNilAndEmptyAreOne(t *testing.T) {
	if !know.Same(nil, know.Know{}) || !know.Same(know.Know{}, nil) || !know.Within(nil, know.Know{}) || !know.Within(know.Know{}, nil) {
		t.Error("nil and empty differ")
	}
	some := know.Know{row("0", 1)}
	if know.Same(nil, some) || know.Same(some, nil) || know.Within(some, nil) || !know.Within(nil, some) {
		t.Error("something is nothing")
	}
	nilExtra, emptyExtra := know.Know{row("0", 2)}, know.Know{{Id: "0", Span: span.Span{Upto: 2, Extra: []int{}}}}
	if !know.Same(nilExtra, emptyExtra) || !know.Within(nilExtra, emptyExtra) || !know.Within(emptyExtra, nilExtra) {
		t.Error("nil and empty Extra differ")
	}
}

var some = []id.Id{"0", "01", "013"}

const most = 3 // numbers of each of some: a set of their events is a number of len(some)*most bits

func bit(i, n int) int { return 1 << (i*most + n - 1) }

// knowOf is the Know of the events that the bits tell.
func knowOf(bits int) know.Know {
	var k know.Know
	for i, a := range some {
		var s span.Span
		for n := 1; n <= most; n++ {
			switch {
			case bits&bit(i, n) == 0:
			case n == s.Upto+1:
				s.Upto = n
			default:
				s.Extra = append(s.Extra, n)
			}
		}
		if s.Upto > 0 || len(s.Extra) > 0 {
			k = append(k, know.Row{Id: a, Span: s})
		}
	}
	return k
}

func rowBits(i int) int { return bit(i, 1) | bit(i, 2) | bit(i, 3) }

func TestAllSmallSets(t *testing.T) {
	for bits := range 1 << (len(some) * most) {
		k := knowOf(bits)
		if !know.Right(k) {
			t.Fatalf("%v isn't Right", k)
		}
		count := 0
		for i, a := range some {
			for n := 1; n <= most; n++ {
				has := bits&bit(i, n) != 0
				if know.Has(k, a, n) != has || span.Has(know.Of(k, a), n) != has {
					t.Fatalf("Has, Of(%v, %q) of %d", k, a, n)
				}
				if has {
					count++
				}
				if got := know.Add(k, a, n); !equal(got, knowOf(bits|bit(i, n))) {
					t.Fatalf("Add(%v, %q, %d) = %v", k, a, n, got)
				}
			}
			if got := know.Drop(k, a); !equal(got, knowOf(bits&^rowBits(i))) {
				t.Fatalf("Drop(%v, %q) = %v", k, a, got)
			}
			if got := know.Only(k, some[:i]); !equal(got, knowOf(bits&(1<<(i*most)-1))) {
				t.Fatalf("Only(%v, %v) = %v", k, some[:i], got)
			}
		}
		firsts := know.From(know.Firsts(k))
		if know.Count(k) != count || know.Extras(k) != count-know.Count(firsts) || !know.Within(firsts, k) {
			t.Fatalf("Count, Extras, Firsts of %v: %d, %d, %v", k, know.Count(k), know.Extras(k), firsts)
		}
	}
}

func TestAllSmallPairs(t *testing.T) {
	last := 1<<(len(some)*most) - 1
	for a := range last + 1 {
		x := knowOf(a)
		for b := range last + 1 {
			y := knowOf(b)
			if got := know.Union(x, y); !equal(got, knowOf(a|b)) {
				t.Fatalf("Union(%v, %v) = %v", x, y, got)
			}
			if know.Within(x, y) != (a&^b == 0) || know.Same(x, y) != (a == b) {
				t.Fatalf("Within, Same of %v and %v", x, y)
			}
		}
	}
}

// roomy is a Know with spare room, of itself and of its Rows, in which there stands something.
func roomy(k know.Know) (list, whole know.Know) {
	for _, x := range k {
		spare := append(slices.Clone(x.Span.Extra), 77, 78)
		whole = append(whole, row(x.Id, x.Span.Upto, spare[:len(x.Span.Extra)]...))
	}
	whole = append(whole, row("spare", 1, 5), row("room", 2, 6))
	return whole[:len(k)], whole
}

// deep is a copy of all, with what stands in spare room.
func deep(k know.Know) know.Know {
	var l know.Know
	for _, x := range k[:cap(k)] {
		l = append(l, row(x.Id, x.Span.Upto, slices.Clone(x.Span.Extra[:cap(x.Span.Extra)])...))
	}
	return l
}

func scratch(k know.Know) {
	k = k[:cap(k)]
	for i := range k {
		extra := k[i].Span.Extra[:cap(k[i].Span.Extra)]
		for j := range extra {
			extra[j] = -9
		}
		k[i] = row("scratched", -1)
	}
}

func answers(x, y know.Know) []know.Know {
	know.Right(x)
	know.Has(x, "01", 2)
	know.Within(x, y)
	know.Same(x, y)
	know.Count(x)
	know.Extras(x)
	l := []know.Know{know.Union(x, y), know.Union(y, x), know.Union(x, nil), know.Union(nil, x), know.Union(x, x),
		know.Add(x, "0", 2), know.Add(x, "01", 9), know.Add(x, "09", 1), know.Add(x, "0", 0), know.Add(x, "no id", 3),
		know.Drop(x, "0"), know.Drop(x, "01"), know.Drop(x, "none"), know.Only(x, some), know.Only(x, some[1:]),
		know.From(know.Firsts(x))}
	for _, a := range some {
		l = append(l, know.Know{{Id: a, Span: know.Of(x, a)}})
	}
	return l
}

func TestKnowsHandedInStayAndAreNotShared(t *testing.T) {
	for a := 0; a < 1<<(len(some)*most); a += 7 {
		for b := 0; b < 1<<(len(some)*most); b += 31 {
			x, wholeX := roomy(knowOf(a))
			y, wholeY := roomy(knowOf(b))
			keptX, keptY := deep(wholeX), deep(wholeY)
			var want []know.Know
			for n, k := range answers(x, y) {
				want = append(want, clone(k))
				scratch(k)
				if !equal(deep(wholeX), keptX) || !equal(deep(wholeY), keptY) {
					t.Fatalf("answer %d of %v and %v changed them: %v, %v", n, knowOf(a), knowOf(b), wholeX, wholeY)
				}
			}
			again := answers(x, y)
			scratch(wholeX)
			scratch(wholeY)
			for n, k := range again {
				if !equal(k, want[n]) {
					t.Fatalf("answer %d of %v and %v is kept: %v", n, knowOf(a), knowOf(b), k)
				}
				scratch(k)
			}
		}
	}
}

func TestListsHandedInStay(t *testing.T) {
	l := []id.Id{"0", "01", "spare"}
	v := vec.Vec{{Id: "0", N: 2}, {Id: "01", N: 1}, {Id: "spare", N: 7}}
	keptL, keptV := slices.Clone(l), slices.Clone(v)
	scratch(know.Only(know.Know{row("0", 1, 3), row("01", 4)}, l[:2]))
	scratch(know.From(v[:2]))
	if !slices.Equal(l, keptL) || !slices.Equal(v, keptV) {
		t.Error(l, v)
	}
}

// The longest Know that can be, but for Extra: it ends soon at that, too.
func TestAllIds(t *testing.T) {
	l := []id.Id{id.Root}
	for i := 0; i < len(l); i++ {
		for k := 1; k <= api.MaxKids; k++ {
			if a, err := id.Child(l[i], k); err == api.OK {
				l = append(l, a)
			}
		}
	}
	slices.SortFunc(l, id.Compare)
	var k, odd know.Know
	for i, a := range l {
		k = append(k, row(a, 1, 3))
		if i%2 == 1 {
			odd = append(odd, row(a, 0, 2))
		}
	}
	both := know.Union(k, odd)
	if !know.Right(k) || !know.Right(both) || know.Count(both) != 2*len(k)+len(odd) || know.Extras(both) != len(k)-len(odd) {
		t.Error(len(k), len(both))
	}
	if !know.Within(k, both) || !know.Within(odd, both) || know.Within(both, k) || know.Same(both, k) || len(know.Firsts(both)) != len(k) {
		t.Error("orders")
	}
}

func TestNoCallPanics(t *testing.T) {
	ids := []id.Id{"", "0", "01", "0123456", "\xff"}
	numbers := []int{math.MinInt, -1, 0, 1, api.MaxSeq, api.MaxSeq + 1, math.MaxInt}
	var all []know.Know
	var vecs []vec.Vec
	for _, a := range ids {
		for _, n := range numbers {
			all = append(all, know.Know{row(a, n)}, know.Know{row(a, 0, n)}, know.Know{row("02", 1, 9, 3), row(a, n, n, n), row("02", 4), {}})
			vecs = append(vecs, vec.Vec{{Id: a, N: n}, {Id: "0", N: n}})
		}
	}
	for _, v := range vecs {
		know.From(v)
	}
	for _, k := range all {
		know.Right(k)
		know.Count(k)
		know.Extras(k)
		know.Firsts(k)
		know.Only(k, ids)
		for _, a := range ids {
			know.Of(k, a)
			know.Drop(k, a)
			for _, n := range numbers {
				know.Has(k, a, n)
				know.Add(k, a, n)
			}
		}
		for _, l := range all {
			know.Union(k, l)
			know.Within(k, l)
			know.Same(k, l)
		}
	}
}
