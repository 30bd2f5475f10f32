package cert_test

import (
	"math"
	"slices"
	"testing"

	"cenotaph/api"
	"cenotaph/cert"
	"cenotaph/id"
	"cenotaph/vec"
)

const most = api.MaxSeq - 1

var some = []id.Id{"0", "01", "013", "02"}

// lasts is what a small List says of an id; below 0: there is no certificate.
var lasts = []int{-1, 0, 1, most}

// small is all Lists of some ids, by what they say of each.
func small() [][]int {
	all := [][]int{nil}
	for range some {
		var next [][]int
		for _, said := range all {
			for _, last := range lasts {
				next = append(next, append(slices.Clone(said), last))
			}
		}
		all = next
	}
	return all
}

func listOf(said []int) cert.List {
	var l cert.List
	for i, last := range said {
		if last >= 0 {
			l = append(l, vec.At{Id: some[i], N: last + 1})
		}
	}
	return l
}

// others is names of whom no small List says anything, some of which aren't Right.
var others = []id.Id{"", "00", "012", "0131", "03", "012345", "0123456", "1", "no id", "\xff"}

func TestGoneLast(t *testing.T) {
	for _, said := range small() {
		l := listOf(said)
		for i, a := range some {
			if cert.Gone(l, a) != (said[i] >= 0) || cert.Last(l, a) != max(said[i], 0) {
				t.Errorf("%v: %q is gone: %v, with %d", l, a, cert.Gone(l, a), cert.Last(l, a))
			}
		}
		for _, a := range others {
			if cert.Gone(l, a) || cert.Last(l, a) != 0 {
				t.Errorf("%v: %q is gone: %v, with %d", l, a, cert.Gone(l, a), cert.Last(l, a))
			}
		}
	}
	for _, empty := range []cert.List{nil, {}} {
		if cert.Gone(empty, "0") || cert.Last(empty, "0") != 0 {
			t.Error("there is a certificate in no List")
		}
	}
}

func TestExample(t *testing.T) {
	l := cert.Put(nil, "01", 0)
	live := cert.Live([]id.Id{"0", "01", "02"}, l)
	if !cert.Gone(l, "01") || cert.Last(l, "01") != 0 || !slices.Equal(live, []id.Id{"0", "02"}) {
		t.Error(l, live)
	}
}

// What is put, and what it counts as.
var puts = []struct{ last, counts int }{
	{math.MinInt, 0}, {-2, 0}, {-1, 0}, {0, 0}, {1, 1}, {2, 2}, {7, 7}, {most - 1, most - 1}, {most, most}, {api.MaxSeq, most},
	{api.MaxSeq + 1, most}, {math.MaxInt - 1, most}, {math.MaxInt, most},
}

func TestPut(t *testing.T) {
	for _, said := range small() {
		l := listOf(said)
		for i, a := range some {
			for _, p := range puts {
				with := slices.Clone(said)
				with[i] = max(with[i], p.counts)
				if got := cert.Put(l, a, p.last); !slices.Equal(got, listOf(with)) || !vec.Right(got) {
					t.Fatalf("Put(%v, %q, %d) = %v", l, a, p.last, got)
				}
			}
		}
	}
}

func TestPutOfOthers(t *testing.T) {
	for _, said := range small() {
		l := listOf(said)
		for _, a := range others {
			for _, p := range puts {
				got := cert.Put(l, a, p.last)
				want := slices.Clone(l)
				if id.Right(a) {
					want = append(want, vec.At{Id: a, N: p.counts + 1})
					slices.SortFunc(want, func(x, y vec.At) int { return id.Compare(x.Id, y.Id) })
				}
				if !slices.Equal(got, want) || !vec.Right(got) {
					t.Fatalf("Put(%v, %q, %d) = %v", l, a, p.last, got)
				}
			}
		}
	}
}

func TestMerge(t *testing.T) {
	all := small()
	for _, a := range all {
		for _, b := range all {
			var both []int
			for i := range a {
				both = append(both, max(a[i], b[i]))
			}
			if got := cert.Merge(listOf(a), listOf(b)); !slices.Equal(got, listOf(both)) || !vec.Right(got) {
				t.Fatalf("Merge(%v, %v) = %v", listOf(a), listOf(b), got)
			}
		}
	}
	if got := cert.Merge(cert.List{{Id: "01", N: 4}, {Id: "03", N: 1}}, cert.List{{Id: "0", N: 2}, {Id: "02", N: 9}, {Id: "03", N: 5}}); !slices.Equal(got,
		cert.List{{Id: "0", N: 2}, {Id: "01", N: 4}, {Id: "02", N: 9}, {Id: "03", N: 5}}) {
		t.Error(got)
	}
}

// orders calls f with each order of l.
func orders(l []cert.List, n int, f func([]cert.List)) {
	if n == len(l) {
		f(l)
		return
	}
	for i := n; i < len(l); i++ {
		l[n], l[i] = l[i], l[n]
		orders(l, n+1, f)
		l[n], l[i] = l[i], l[n]
	}
}

func TestMergingGoesInAnyOrder(t *testing.T) {
	come := []cert.List{
		nil,
		cert.Put(nil, "01", 0),
		cert.Put(cert.Put(nil, "02", 5), "01", 3),
		cert.Put(cert.Put(nil, "013", most), "02", 4),
		cert.Put(cert.Put(nil, "012345", 1), "013", 0),
		cert.Put(cert.Put(nil, "02", 5), "01", 3),
	}
	want := cert.List{{Id: "01", N: 4}, {Id: "012345", N: 2}, {Id: "013", N: api.MaxSeq}, {Id: "02", N: 6}}
	orders(come, 0, func(l []cert.List) {
		var one cert.List
		for _, x := range l {
			one = cert.Merge(one, x)
			if !slices.Equal(cert.Merge(one, x), one) || !slices.Equal(cert.Merge(x, one), one) || !slices.Equal(cert.Merge(one, one), one) {
				t.Fatalf("%v merged twice isn't as once: %v", x, one)
			}
		}
		halves := cert.Merge(cert.Merge(l[0], cert.Merge(l[1], l[2])), cert.Merge(cert.Merge(l[3], l[4]), l[5]))
		if !slices.Equal(one, want) || !slices.Equal(halves, want) {
			t.Fatalf("%v left %v and %v", l, one, halves)
		}
	})
}

func TestLive(t *testing.T) {
	members := []id.Id{"0", "01", "012", "013", "02", "03"}
	for _, said := range small() {
		l := listOf(said)
		for n := range 1 << len(members) {
			var those, want []id.Id
			for i, a := range members {
				if n>>i&1 == 0 {
					continue
				}
				those = append(those, a)
				if where := slices.Index(some, a); where < 0 || said[where] < 0 {
					want = append(want, a)
				}
			}
			if got := cert.Live(those, l); !slices.Equal(got, want) {
				t.Fatalf("Live(%v, %v) = %v", those, l, got)
			}
		}
	}
}

func TestLiveAtEdges(t *testing.T) {
	l := cert.List{{Id: "01", N: 1}, {Id: "02", N: api.MaxSeq}}
	for _, c := range []struct {
		members []id.Id
		l       cert.List
		want    []id.Id
	}{
		{nil, nil, nil},
		{nil, l, nil},
		{[]id.Id{}, cert.List{}, nil},
		{[]id.Id{"01", "02"}, nil, []id.Id{"01", "02"}},
		{[]id.Id{"01"}, l, nil},
		{[]id.Id{"01", "02"}, l, nil},
		{[]id.Id{"", "01", "1", "no id"}, l, []id.Id{"", "1", "no id"}},
		{[]id.Id{"03", "02", "01", "0"}, l, []id.Id{"0", "03"}}, // not rising: the answer is, all the same
		{[]id.Id{"03", "0", "03", "01", "0"}, l, []id.Id{"0", "03"}},
	} {
		if got := cert.Live(c.members, c.l); !slices.Equal(got, c.want) {
			t.Errorf("Live(%v, %v) = %v", c.members, c.l, got)
		}
	}
}

func scratch[T any](l []T, with T) {
	l = l[:cap(l)]
	for i := range l {
		l[i] = with
	}
}

var scratched = vec.At{Id: "scratched", N: -1}

// roomy is a List with spare room, in which there stands something.
func roomy(l cert.List) (list, whole cert.List) {
	whole = append(slices.Clone(l), vec.At{Id: "spare", N: 1}, vec.At{Id: "room", N: 2})
	return whole[:len(l)], whole
}

func answers(x, y cert.List) []cert.List {
	cert.Gone(x, "01")
	cert.Last(x, "01")
	return []cert.List{cert.Merge(x, y), cert.Merge(y, x), cert.Merge(x, nil), cert.Merge(nil, x), cert.Merge(x, x), cert.Put(x, "0", 9),
		cert.Put(x, "01", -1), cert.Put(x, "09", 3), cert.Put(x, "", 3), cert.Put(x, "no id", 3)}
}

func TestListsHandedInStayAndAreNotShared(t *testing.T) {
	all := small()
	for i := 0; i < len(all); i += 7 {
		for j := 0; j < len(all); j += 9 {
			x, wholeX := roomy(listOf(all[i]))
			y, wholeY := roomy(listOf(all[j]))
			keptX, keptY := slices.Clone(wholeX), slices.Clone(wholeY)
			var want []cert.List
			for n, l := range answers(x, y) {
				want = append(want, slices.Clone(l))
				scratch(l, scratched)
				if !slices.Equal(wholeX, keptX) || !slices.Equal(wholeY, keptY) {
					t.Fatalf("answer %d of %v and %v changed them: %v, %v", n, keptX, keptY, wholeX, wholeY)
				}
			}
			again := answers(x, y)
			scratch(wholeX, scratched)
			scratch(wholeY, scratched)
			for n, l := range again {
				if !slices.Equal(l, want[n]) {
					t.Fatalf("answer %d of %v and %v is kept: %v", n, keptX, keptY, l)
				}
				scratch(l, scratched)
			}
		}
	}
}

func TestMembersHandedInStayAndAreNotShared(t *testing.T) {
	for _, members := range [][]id.Id{nil, {"0"}, {"01"}, {"0", "01"}, {"0", "01", "02", "03"}, {"01", "02", "03", "04"}, {"03", "01", "0"}} {
		for _, said := range small() {
			l, wholeL := roomy(listOf(said))
			keptL := slices.Clone(wholeL)
			whole := append(slices.Clone(members), "spare", "room")
			kept := slices.Clone(whole)
			got := cert.Live(whole[:len(members)], l)
			want := slices.Clone(got)
			scratch(got, "scratched")
			if !slices.Equal(whole, kept) || !slices.Equal(wholeL, keptL) {
				t.Fatalf("Live of %v and %v changed them: %v, %v", kept, keptL, whole, wholeL)
			}
			again := cert.Live(whole[:len(members)], l)
			scratch(whole, "scratched")
			scratch(wholeL, scratched)
			if !slices.Equal(again, want) {
				t.Fatalf("Live of %v and %v is kept: %v", kept, keptL, again)
			}
		}
	}
}

func TestNoCallPanics(t *testing.T) {
	ids := append(slices.Clone(others), some...)
	numbers := []int{math.MinInt, -1, 0, 1, api.MaxSeq, api.MaxSeq + 1, math.MaxInt}
	var all []cert.List
	for _, a := range ids {
		for _, n := range numbers {
			all = append(all, cert.List{{Id: a, N: n}}, cert.List{{Id: "02", N: 1}, {Id: a, N: n}, {Id: "02", N: 4}, {Id: a, N: 1}, {}})
		}
	}
	for _, l := range all {
		cert.Live(ids, l)
		for _, a := range ids {
			cert.Gone(l, a)
			cert.Last(l, a)
			for _, n := range numbers {
				cert.Put(l, a, n)
			}
		}
		for _, other := range all {
			cert.Merge(l, other)
		}
	}
}
