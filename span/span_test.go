package span_test

import (
	"math"
	"slices"
	"testing"

	"cenotaph/api"
	"cenotaph/span"
)

func of(upto int, extra ...int) span.Span { return span.Span{Upto: upto, Extra: extra} }

// steps is n numbers from a on, with one left out behind each.
func steps(a, n int) []int {
	var l []int
	for i := range n {
		l = append(l, a+2*i)
	}
	return l
}

func TestRight(t *testing.T) {
	for _, s := range []span.Span{
		{},
		{Extra: []int{}},
		of(0, 2),
		of(0, 2, 3, 4),
		of(1, 3, 4),
		of(4, 6, 9),
		of(api.MaxSeq),
		of(api.MaxSeq-2, api.MaxSeq),
		of(0, api.MaxSeq),
		of(0, steps(2, api.MaxExtra)...),
		of(7, steps(9, api.MaxExtra)...),
	} {
		if !span.Right(s) {
			t.Errorf("%v isn't Right", s)
		}
	}
	for _, s := range []span.Span{
		of(-1),
		of(math.MinInt),
		of(-1, 2),
		of(api.MaxSeq + 1),
		of(math.MaxInt),
		of(math.MaxInt, math.MinInt),
		of(0, 1),
		of(0, 0),
		of(0, -3),
		of(4, 5),
		of(4, 4),
		of(4, 2),
		of(4, 6, 5),
		of(0, 4, 4),
		of(0, 4, 3),
		of(0, 3, 5, 4),
		of(api.MaxSeq-1, api.MaxSeq),
		of(api.MaxSeq, api.MaxSeq+2),
		of(0, api.MaxSeq+1),
		of(0, 2, math.MaxInt),
		of(0, steps(2, api.MaxExtra+1)...),
	} {
		if span.Right(s) {
			t.Errorf("%v, %d of Extra, is Right", s.Upto, len(s.Extra))
		}
	}
}

func TestFirst(t *testing.T) {
	for _, c := range [][2]int{{0, 0}, {1, 1}, {77, 77}, {-1, 0}, {math.MinInt, 0}, {api.MaxSeq - 1, api.MaxSeq - 1},
		{api.MaxSeq, api.MaxSeq}, {api.MaxSeq + 1, api.MaxSeq}, {math.MaxInt, api.MaxSeq}} {
		if s := span.First(c[0]); s.Upto != c[1] || len(s.Extra) != 0 {
			t.Errorf("First(%d) = %v", c[0], s)
		}
	}
}

func TestHas(t *testing.T) {
	s := of(4, 6, 9, api.MaxSeq)
	for _, n := range []int{1, 2, 3, 4, 6, 9, api.MaxSeq} {
		if !span.Has(s, n) {
			t.Errorf("%d lacks", n)
		}
	}
	for _, n := range []int{math.MinInt, -4, -1, 0, 5, 7, 8, 10, api.MaxSeq - 1, api.MaxSeq + 1, math.MaxInt} {
		if span.Has(s, n) {
			t.Errorf("%d is there", n)
		}
		if span.Has(span.Span{}, n) {
			t.Errorf("%d is in none", n)
		}
	}
}

func TestAdd(t *testing.T) {
	for _, c := range []struct {
		s    span.Span
		n    int
		want span.Span
	}{
		{of(1, 3, 4), 2, of(4)},
		{of(1, 3, 5), 2, of(3, 5)},
		{of(0), 1, of(1)},
		{of(0), 2, of(0, 2)},
		{of(0, 2), 1, of(2)},
		{of(4), 5, of(5)},
		{of(4), 4, of(4)},
		{of(4), 1, of(4)},
		{of(4, 9), 6, of(4, 6, 9)},
		{of(4, 6), 9, of(4, 6, 9)},
		{of(4, 6, 9), 7, of(4, 6, 7, 9)},
		{of(4, 6, 9), 9, of(4, 6, 9)},
		{of(4, 6, 9), 0, of(4, 6, 9)},
		{of(4, 6, 9), -1, of(4, 6, 9)},
		{of(4, 6, 9), math.MinInt, of(4, 6, 9)},
		{of(4, 6, 9), api.MaxSeq + 1, of(4, 6, 9)},
		{of(4, 6, 9), math.MaxInt, of(4, 6, 9)},
		{of(4, 6, 9), api.MaxSeq, of(4, 6, 9, api.MaxSeq)},
		{of(api.MaxSeq - 1), api.MaxSeq, of(api.MaxSeq)},
		{of(api.MaxSeq-2, api.MaxSeq), api.MaxSeq - 1, of(api.MaxSeq)},
		{of(api.MaxSeq), api.MaxSeq, of(api.MaxSeq)},
		{of(api.MaxSeq), api.MaxSeq + 1, of(api.MaxSeq)},
		{of(0, steps(3, api.MaxExtra-1)...), 1 << 19, of(0, append(steps(3, api.MaxExtra-1), 1<<19)...)},
		{of(0, steps(2, api.MaxExtra)...), 1, of(2, steps(4, api.MaxExtra-1)...)},
	} {
		got := span.Add(c.s, c.n)
		if !span.Same(got, c.want) || !span.Right(got) {
			t.Errorf("Add of %d to %v: %v", c.n, c.s, got)
		}
	}
}

func TestUnion(t *testing.T) {
	odd, even := steps(3, api.MaxExtra/2), steps(1<<13, api.MaxExtra/2)
	for _, c := range []struct{ a, b, want span.Span }{
		{span.Span{}, span.Span{Extra: []int{}}, of(0)},
		{of(4, 6, 9), of(2, 5), of(6, 9)},
		{of(4, 6, 9), of(7), of(7, 9)},
		{of(4, 6, 9), of(8), of(9)},
		{of(4, 6, 9), of(9), of(9)},
		{of(4, 6, 9), of(20), of(20)},
		{of(0, 2, 4), of(0, 3, 5), of(0, 2, 3, 4, 5)},
		{of(1, 4), of(0, 2, 3), of(4)},
		{of(0, 3), of(0, 3), of(0, 3)},
		{of(0, api.MaxSeq), of(api.MaxSeq - 1), of(api.MaxSeq)},
		{of(api.MaxSeq), of(0, 2), of(api.MaxSeq)},
		{of(1, odd...), of(0, even...), of(1, append(slices.Clone(odd), even...)...)},
	} {
		for i, got := range []span.Span{span.Union(c.a, c.b), span.Union(c.b, c.a)} {
			if !span.Same(got, c.want) || !span.Right(got) {
				t.Errorf("Union of %v and %v (%d): %v", c.a, c.b, i, got)
			}
		}
	}
}

func TestWithinCountTopSame(t *testing.T) {
	for _, c := range []struct {
		s          span.Span
		count, top int
	}{
		{of(0), 0, 0},
		{span.Span{Extra: []int{}}, 0, 0},
		{of(7), 7, 7},
		{of(0, 3), 1, 3},
		{of(4, 6, 9), 6, 9},
		{of(api.MaxSeq), api.MaxSeq, api.MaxSeq},
		{of(api.MaxSeq-2, api.MaxSeq), api.MaxSeq - 1, api.MaxSeq},
		{of(0, steps(2, api.MaxExtra)...), api.MaxExtra, 2 * api.MaxExtra},
	} {
		if n, top := span.Count(c.s), span.Top(c.s); n != c.count || top != c.top {
			t.Errorf("%v: Count %d, Top %d", c.s, n, top)
		}
	}
	if !span.Same(span.Span{}, span.Span{Extra: []int{}}) || !span.Within(span.Span{Extra: []int{}}, span.Span{}) {
		t.Error("nil and empty lists differ")
	}
	if !span.Within(of(0, api.MaxSeq), of(api.MaxSeq)) || span.Within(of(api.MaxSeq), of(api.MaxSeq-2, api.MaxSeq)) {
		t.Error("at MaxSeq")
	}
}

const few = 7

// spanOf is the Span of the set of numbers that bits says, made by the chapter's words alone.
func spanOf(bits int) span.Span {
	s := span.Span{}
	for s.Upto < few && bits&(1<<s.Upto) != 0 {
		s.Upto++
	}
	for n := s.Upto + 1; n <= few; n++ {
		if bits&(1<<(n-1)) != 0 {
			s.Extra = append(s.Extra, n)
		}
	}
	return s
}

// All sets of some small numbers, each held against each other one.
func TestAllSmallSets(t *testing.T) {
	for a := range 1 << few {
		x := spanOf(a)
		if !span.Right(x) {
			t.Fatalf("%v isn't Right", x)
		}
		count := 0
		for n := 1; n <= few; n++ {
			in := a&(1<<(n-1)) != 0
			if in {
				count++
			}
			if span.Has(x, n) != in {
				t.Fatalf("Has(%v, %d)", x, n)
			}
			if got := span.Add(x, n); !slices.Equal(got.Extra, spanOf(a|1<<(n-1)).Extra) || got.Upto != spanOf(a|1<<(n-1)).Upto {
				t.Fatalf("Add(%v, %d) = %v", x, n, got)
			}
		}
		if span.Count(x) != count {
			t.Fatalf("Count(%v) = %d", x, span.Count(x))
		}
		for b := range 1 << few {
			y := spanOf(b)
			u, want := span.Union(x, y), spanOf(a|b)
			if u.Upto != want.Upto || !slices.Equal(u.Extra, want.Extra) {
				t.Fatalf("Union(%v, %v) = %v", x, y, u)
			}
			if span.Within(x, y) != (a&^b == 0) || span.Same(x, y) != (a == b) {
				t.Fatalf("Within, Same of %v and %v: %v, %v", x, y, span.Within(x, y), span.Same(x, y))
			}
		}
	}
}

// roomy is a Span whose Extra has spare room, in which there stands something.
func roomy(s span.Span) (span.Span, []int) {
	whole := append(slices.Clone(s.Extra), -77, -78, -79)
	return span.Span{Upto: s.Upto, Extra: whole[:len(s.Extra)]}, whole
}

func scratch(l []int) {
	l = l[:cap(l)]
	for i := range l {
		l[i] = -1
	}
}

func answers(x, y span.Span) []span.Span {
	span.Right(x)
	span.Has(x, 6)
	span.Within(x, y)
	span.Same(x, y)
	span.Count(x)
	span.Top(x)
	return []span.Span{span.Union(x, y), span.Union(y, x), span.Union(x, span.Span{}), span.Union(span.Span{}, x),
		span.Add(x, 3), span.Add(x, 6), span.Add(x, 12), span.Add(x, 0), span.Add(x, api.MaxSeq+1), span.First(5)}
}

func TestSpansHandedInStayAndAreNotShared(t *testing.T) {
	all := []span.Span{of(0), of(5), of(1, 3, 4), of(4, 6, 9), of(2, 5), of(0, 7)}
	for _, a := range all {
		for _, b := range all {
			x, wholeX := roomy(a)
			y, wholeY := roomy(b)
			keptX, keptY := slices.Clone(wholeX), slices.Clone(wholeY)
			var want []span.Span
			for i, s := range answers(x, y) {
				want = append(want, of(s.Upto, slices.Clone(s.Extra)...))
				scratch(s.Extra)
				if !slices.Equal(wholeX, keptX) || !slices.Equal(wholeY, keptY) {
					t.Fatalf("answer %d of %v and %v changed them: %v, %v", i, a, b, wholeX, wholeY)
				}
			}
			again := answers(x, y)
			scratch(wholeX)
			scratch(wholeY)
			for i, s := range again {
				if !span.Same(s, want[i]) {
					t.Fatalf("answer %d of %v and %v is kept: %v", i, a, b, s)
				}
				scratch(s.Extra)
			}
		}
	}
}

func TestNoCallPanics(t *testing.T) {
	numbers := []int{math.MinInt, -1, 0, 1, 2, 5, api.MaxSeq, api.MaxSeq + 1, math.MaxInt - 1, math.MaxInt}
	var all []span.Span
	for _, upto := range numbers {
		all = append(all, of(upto), of(upto, numbers...), of(upto, 3, 3, 1, -5, 9), of(upto, math.MaxInt, math.MinInt))
	}
	all = append(all, of(0, steps(2, 3*api.MaxExtra)...))
	for _, a := range all {
		for _, n := range numbers {
			span.First(n)
			span.Has(a, n)
			span.Add(a, n)
		}
		for _, b := range all {
			span.Union(a, b)
			span.Within(a, b)
			span.Same(a, b)
		}
		span.Right(a)
		span.Count(a)
		span.Top(a)
	}
}
