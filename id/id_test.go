package id_test

import (
	"math"
	"slices"
	"strings"
	"testing"

	"cenotaph/api"
	"cenotaph/id"
)

var right = []id.Id{"0", "01", "09", "013", "0123", "01234", "012345", "099999", "011111"}

var wrong = []id.Id{"", "1", "9", "00", "000", "010", "0120", "01234 ", "0123456", "0111111", "0a", "0A", "0/", "0:", "-0",
	" 0", "0 ", "0\x00", "\x000", "0\xff", "0\u0661", "01\n", "+1", id.Id("0" + strings.Repeat("1", 1000))}

func TestRight(t *testing.T) {
	for _, a := range right {
		if !id.Right(a) {
			t.Errorf("%q isn't Right", a)
		}
	}
	for _, a := range wrong {
		if id.Right(a) {
			t.Errorf("%q is Right", a)
		}
	}
	if !id.Right(id.Root) || id.Root != "0" {
		t.Errorf("the root's is %q", id.Root)
	}
}

// Each sign but the first is one of nine, of all 256 that a byte may be.
func TestRightOfEachByte(t *testing.T) {
	for b := range 256 {
		sign := string([]byte{byte(b)})
		if got, want := id.Right(id.Id(sign)), b == '0'; got != want {
			t.Errorf("%q: %v", sign, got)
		}
		for _, ahead := range []string{"0", "01", "01234"} {
			if got, want := id.Right(id.Id(ahead+sign)), b >= '1' && b <= '9'; got != want {
				t.Errorf("%q: %v", ahead+sign, got)
			}
		}
	}
}

func TestChild(t *testing.T) {
	for _, c := range []struct {
		a    id.Id
		k    int
		want id.Id
		err  api.Errno
	}{
		{"01", 3, "013", api.OK},
		{"0", 1, "01", api.OK},
		{"0", 9, "09", api.OK},
		{"01234", 9, "012349", api.OK},
		{"01234", 1, "012341", api.OK},
		{"0", 0, "", api.ErrArg},
		{"0", 10, "", api.ErrArg},
		{"0", -1, "", api.ErrArg},
		{"0", 256 + 1, "", api.ErrArg},
		{"0", 1 << 32, "", api.ErrArg},
		{"0", math.MinInt, "", api.ErrArg},
		{"0", math.MaxInt, "", api.ErrArg},
		{"012345", 1, "", api.ErrFull},
		{"012345", 9, "", api.ErrFull},
		{"012345", 0, "", api.ErrArg},
		{"012345", 10, "", api.ErrArg},
		{"0123456", 1, "", api.ErrId},
		{"0123456", 0, "", api.ErrId},
		{"", 1, "", api.ErrId},
		{"", 0, "", api.ErrId},
		{"1", 1, "", api.ErrId},
		{"00", 10, "", api.ErrId},
	} {
		if got, err := id.Child(c.a, c.k); got != c.want || err != c.err {
			t.Errorf("Child(%q, %d) = %q, %d", c.a, c.k, got, err)
		}
	}
}

func TestParent(t *testing.T) {
	for _, c := range []struct {
		a, want id.Id
		err     api.Errno
	}{
		{"013", "01", api.OK},
		{"01", "0", api.OK},
		{"012345", "01234", api.OK},
		{"0", "", api.ErrRoot},
	} {
		if got, err := id.Parent(c.a); got != c.want || err != c.err {
			t.Errorf("Parent(%q) = %q, %d", c.a, got, err)
		}
	}
	for _, a := range wrong {
		if got, err := id.Parent(a); got != "" || err != api.ErrId {
			t.Errorf("Parent(%q) = %q, %d", a, got, err)
		}
	}
}

func TestDepth(t *testing.T) {
	for _, a := range right {
		if got := id.Depth(a); got != len(a) {
			t.Errorf("Depth(%q) = %d", a, got)
		}
	}
	for _, a := range wrong {
		if got := id.Depth(a); got != 0 {
			t.Errorf("Depth(%q) = %d", a, got)
		}
	}
}

func TestAbove(t *testing.T) {
	for _, c := range []struct {
		a, b id.Id
		want bool
	}{
		{"0", "01", true},
		{"0", "012345", true},
		{"01", "0123", true},
		{"01234", "012345", true},
		{"0", "0", false},
		{"01", "01", false},
		{"01", "0", false},
		{"01", "02", false},
		{"01", "021", false},
		{"012", "013", false},
		{"02", "012", false},
		{"", "0", false},
		{"", "", false},
		{"0", "", false},
		{"0", "00", false},
		{"00", "001", false},
		{"1", "12", false},
		{"0", "0123456", false},
		{"012345", "0123456", false},
	} {
		if got := id.Above(c.a, c.b); got != c.want {
			t.Errorf("Above(%q, %q) = %v", c.a, c.b, got)
		}
	}
}

func TestCompare(t *testing.T) {
	rising := []id.Id{"", "\x00", "0", "00", "01", "011", "0119", "012", "02", "09", "0a", "1", "10", "2", "a", "\u00e9", "\xff", "\xff\x00"}
	for i, a := range rising {
		for j, b := range rising {
			want := 0
			if i < j {
				want = -1
			} else if i > j {
				want = 1
			}
			if got := id.Compare(a, b); got != want {
				t.Errorf("Compare(%q, %q) = %d", a, b, got)
			}
		}
	}
}

func TestParse(t *testing.T) {
	for _, a := range right {
		if got, err := id.Parse(string(a)); got != a || err != api.OK {
			t.Errorf("Parse(%q) = %q, %d", a, got, err)
		}
	}
	for _, a := range wrong {
		if got, err := id.Parse(string(a)); got != "" || err != api.ErrWord {
			t.Errorf("Parse(%q) = %q, %d", a, got, err)
		}
	}
}

// All that can ever be handed out, from the root on: 1 + 9 + 81 + .. + 9 to the fifth.
func TestAllThatAreHandedOutDiffer(t *testing.T) {
	seen := map[id.Id]bool{id.Root: true}
	last := []id.Id{id.Root}
	for depth := 2; depth <= api.MaxDepth; depth++ {
		var next []id.Id
		for _, a := range last {
			for k := 1; k <= api.MaxKids; k++ {
				b, err := id.Child(a, k)
				if err != api.OK || seen[b] || !id.Right(b) || id.Depth(b) != depth || !id.Above(a, b) {
					t.Fatalf("Child(%q, %d) = %q, %d", a, k, b, err)
				}
				if p, err := id.Parent(b); p != a || err != api.OK {
					t.Fatalf("Parent(%q) = %q, %d", b, p, err)
				}
				seen[b] = true
				next = append(next, b)
			}
		}
		last = next
	}
	if len(seen) != 66430 {
		t.Error(len(seen))
	}
}

func TestHas(t *testing.T) {
	for _, l := range [][]id.Id{nil, {}} {
		if id.Has(l, "0") || id.Has(l, "") {
			t.Error("an empty list has something")
		}
	}
	l := []id.Id{"", "0", "013", "02", "any text"}
	for _, a := range l {
		if !id.Has(l, a) {
			t.Errorf("%q isn't there", a)
		}
	}
	for _, a := range []id.Id{"01", "03", "1", " ", "\xff", "any"} {
		if id.Has(l, a) {
			t.Errorf("%q is there", a)
		}
	}
}

func TestAdd(t *testing.T) {
	for _, c := range []struct {
		l    []id.Id
		a    id.Id
		want []id.Id
	}{
		{nil, "0", []id.Id{"0"}},
		{[]id.Id{}, "", []id.Id{""}},
		{[]id.Id{"01"}, "0", []id.Id{"0", "01"}},
		{[]id.Id{"0", "02"}, "013", []id.Id{"0", "013", "02"}},
		{[]id.Id{"0", "02"}, "03", []id.Id{"0", "02", "03"}},
		{[]id.Id{"0", "02"}, "02", []id.Id{"0", "02"}},
		{[]id.Id{"0", "02"}, "x y", []id.Id{"0", "02", "x y"}},
		{[]id.Id{"02", "0", "02"}, "01", []id.Id{"0", "01", "02"}},
		{[]id.Id{"02", "0", "02"}, "0", []id.Id{"0", "02"}},
	} {
		if got := id.Add(c.l, c.a); !slices.Equal(got, c.want) {
			t.Errorf("Add(%q, %q) = %q", c.l, c.a, got)
		}
	}
}

func TestUnion(t *testing.T) {
	for _, c := range []struct{ a, b, want []id.Id }{
		{nil, nil, nil},
		{nil, []id.Id{}, nil},
		{nil, []id.Id{"0"}, []id.Id{"0"}},
		{[]id.Id{"0"}, []id.Id{}, []id.Id{"0"}},
		{[]id.Id{"02", "0"}, []id.Id{"01", "02"}, []id.Id{"0", "01", "02"}},
		{[]id.Id{"0", "013"}, []id.Id{"01", "02"}, []id.Id{"0", "01", "013", "02"}},
		{[]id.Id{"0", "01"}, []id.Id{"0", "01"}, []id.Id{"0", "01"}},
		{[]id.Id{"0", "0", "0"}, nil, []id.Id{"0"}},
		{nil, []id.Id{"2", "1", "", "2"}, []id.Id{"", "1", "2"}},
		{[]id.Id{"\xff"}, []id.Id{"a b", "\x00"}, []id.Id{"\x00", "a b", "\xff"}},
	} {
		if got := id.Union(c.a, c.b); !slices.Equal(got, c.want) {
			t.Errorf("Union(%q, %q) = %q", c.a, c.b, got)
		}
		if got := id.Union(c.b, c.a); !slices.Equal(got, c.want) {
			t.Errorf("Union(%q, %q) = %q", c.b, c.a, got)
		}
	}
}

// roomy is a list with spare room, in which there stands something.
func roomy(l ...id.Id) (list, whole []id.Id) {
	whole = append(slices.Clone(l), "spare", "room", "here")
	return whole[:len(l)], whole
}

func TestListsHandedInStayAndAreNotShared(t *testing.T) {
	for _, first := range [][]id.Id{{}, {"0"}, {"02", "0", "02"}, {"0", "01"}} {
		for _, second := range [][]id.Id{{}, {"01"}, {"03", "01"}} {
			a, wholeA := roomy(first...)
			b, wholeB := roomy(second...)
			keptA, keptB := slices.Clone(wholeA), slices.Clone(wholeB)
			answers := [][]id.Id{id.Union(a, b), id.Union(b, a), id.Add(a, "011"), id.Add(a, "0"), id.Union(a, nil), id.Union(nil, b)}
			id.Has(a, "0")
			var want [][]id.Id
			for _, l := range answers {
				want = append(want, slices.Clone(l))
			}
			for i, l := range answers {
				l = l[:cap(l)]
				for j := range l {
					l[j] = "scratched"
				}
				if !slices.Equal(wholeA, keptA) || !slices.Equal(wholeB, keptB) {
					t.Fatalf("answer %d of %q and %q changed them: %q, %q", i, first, second, wholeA, wholeB)
				}
			}
			answers = [][]id.Id{id.Union(a, b), id.Union(b, a), id.Add(a, "011"), id.Add(a, "0"), id.Union(a, nil), id.Union(nil, b)}
			for i := range wholeA {
				wholeA[i] = "scratched"
			}
			for i := range wholeB {
				wholeB[i] = "scratched"
			}
			for i, l := range answers {
				if !slices.Equal(l, want[i]) {
					t.Fatalf("answer %d of %q and %q is kept: %q", i, first, second, l)
				}
			}
		}
	}
}

func TestNoCallPanics(t *testing.T) {
	all := slices.Concat(right, wrong)
	for _, a := range all {
		for _, b := range all {
			id.Above(a, b)
			id.Compare(a, b)
			id.Union([]id.Id{a, b}, all)
			id.Add([]id.Id{b, a, b}, a)
			id.Has([]id.Id{b, a}, b)
		}
		for _, k := range []int{math.MinInt, -1, 0, 1, 9, 10, math.MaxInt} {
			b, err := id.Child(a, k)
			if (err == api.OK) != id.Right(b) || err != api.OK && b != "" {
				t.Errorf("Child(%q, %d) = %q, %d", a, k, b, err)
			}
		}
	}
}
