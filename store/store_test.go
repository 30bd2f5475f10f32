package store_test

import (
	"math"
	"slices"
	"testing"

	"cenotaph/api"
	"cenotaph/id"
	"cenotaph/item"
	"cenotaph/know"
	"cenotaph/span"
	"cenotaph/store"
)

var null = math.Copysign(0, -1)

func version(a id.Id, seq, stamp int) item.Version {
	return item.Version{Id: a, Seq: seq, Stamp: stamp}
}

func deadOne(key int, v item.Version) item.Item {
	return item.Item{Key: key, Ver: v, Dead: true}
}

func stubOf(key int, v item.Version, spot complex128) item.Item {
	return item.Item{Key: key, Ver: v, Spot: spot}
}

func heldOne(key int, v item.Version, spot complex128, text string) item.Item {
	return item.Item{Key: key, Ver: v, Spot: spot, Text: text, Held: true}
}

var first = version("0", 1, 3)

// full is a Store of all keys; no two are of one age.
func full() store.Store {
	var s store.Store
	for key := range api.MaxKeys {
		v := version("01", key+1, (key*7)%api.MaxKeys+1)
		switch key % 3 {
		case 0:
			s = append(s, deadOne(key, v))
		case 1:
			s = append(s, stubOf(key, v, complex(float64(key), -1)))
		default:
			s = append(s, heldOne(key, v, complex(-1, float64(key)), "text"))
		}
	}
	return s
}

// equal holds two lists against each other without the package's own Same.
func equal(a, b []item.Item) bool { return slices.Equal(a, b) }

func rightOnes() []store.Store {
	return []store.Store{
		nil,
		{},
		{deadOne(0, first)},
		{stubOf(31, first, complex(-1000, 1000))},
		{heldOne(7, version("012345", api.MaxSeq, api.MaxSeq), 0, "sixteen bytes !!")},
		{deadOne(0, first), heldOne(1, first, 0, ""), stubOf(31, first, 5)},
		{deadOne(3, version("0", 2, 9)), deadOne(4, version("0", 1, 1)), deadOne(5, version("0", 1, 5))},
		full(),
	}
}

func wrongOnes() []store.Store {
	l := []store.Store{
		{deadOne(3, first), deadOne(3, first)},
		{deadOne(3, first), heldOne(3, version("0", 2, 4), 0, "a")},
		{deadOne(4, first), deadOne(3, first)},
		{deadOne(1, first), deadOne(2, first), deadOne(2, version("0", 2, 4))},
		{deadOne(0, first), deadOne(31, first), deadOne(30, first)},
		{deadOne(5, first), deadOne(1, first), deadOne(9, first)},
		append(full(), deadOne(32, first)),
		append(full(), deadOne(31, first)),
		append(full(), deadOne(0, first)),
	}
	for _, x := range []item.Item{
		{},
		deadOne(-1, first),
		deadOne(32, first),
		deadOne(math.MinInt, first),
		deadOne(math.MaxInt, first),
		deadOne(2, version("", 1, 3)),
		deadOne(2, version("1", 1, 3)),
		deadOne(2, version("0123456", 1, 3)),
		deadOne(2, version("0", 0, 3)),
		deadOne(2, version("0", api.MaxSeq+1, 3)),
		deadOne(2, version("0", 1, 0)),
		deadOne(2, version("0", 1, api.MaxSeq+1)),
		stubOf(2, first, 1001),
		stubOf(2, first, 0.5i),
		stubOf(2, first, complex(math.NaN(), 0)),
		heldOne(2, first, 0, "seventeen bytes !"),
		{Key: 2, Ver: first, Dead: true, Held: true},
		{Key: 2, Ver: first, Dead: true, Spot: 1},
		{Key: 2, Ver: first, Text: "a"},
	} {
		l = append(l, store.Store{x}, store.Store{deadOne(0, first), deadOne(1, first), x}, store.Store{x, deadOne(30, first)},
			store.Store{deadOne(1, first), x, deadOne(30, first)})
	}
	return l
}

func TestRight(t *testing.T) {
	for _, s := range rightOnes() {
		if !store.Right(s) {
			t.Errorf("%v isn't Right", s)
		}
	}
	for _, s := range wrongOnes() {
		if store.Right(s) {
			t.Errorf("%v is Right", s)
		}
	}
}

var keys = []int{math.MinInt, -32, -1, 0, 1, 2, 3, 4, 5, 6, 7, 15, 16, 17, 29, 30, 31, 32, 33, math.MaxInt}

func TestGetDrop(t *testing.T) {
	for _, s := range rightOnes() {
		for _, key := range keys {
			var want item.Item
			var rest store.Store
			found := false
			for _, x := range s {
				if x.Key == key {
					want, found = x, true
				} else {
					rest = append(rest, x)
				}
			}
			if got, ok := store.Get(s, key); got != want || ok != found {
				t.Errorf("Get(%v, %d) = %v, %v", s, key, got, ok)
			}
			if got := store.Drop(s, key); !equal(got, rest) || !store.Right(got) {
				t.Errorf("Drop(%v, %d) = %v", s, key, got)
			}
		}
	}
}

// What is there under the key, what comes, and does it stand there then?
func TestPutOfOneKey(t *testing.T) {
	older, newer := version("0", 1, 2), version("0", 2, 4)
	for i, c := range []struct {
		old, x item.Item
		want   bool
	}{
		{heldOne(5, first, 1, "a"), heldOne(5, older, 2, "b"), false}, // the chapter's example
		{heldOne(5, first, 1, "a"), heldOne(5, newer, 2, "b"), true},
		{heldOne(5, first, 1, "a"), stubOf(5, newer, 2), true},
		{heldOne(5, first, 1, "a"), deadOne(5, newer), true},
		{stubOf(5, first, 1), heldOne(5, older, 1, "b"), false},
		{deadOne(5, first), heldOne(5, older, 1, "b"), false},
		{deadOne(5, first), heldOne(5, newer, 1, "b"), true},
		{deadOne(5, first), deadOne(5, newer), true},
		{deadOne(5, first), deadOne(5, older), false},
		{stubOf(5, version("0", 9, 3), 1), stubOf(5, version("01", 1, 3), 1), true}, // one stamp: the Id tells
		{stubOf(5, version("01", 1, 3), 1), heldOne(5, version("0", 9, 3), 1, "b"), false},
		{stubOf(5, version("013", 1, 3), 1), stubOf(5, version("02", 1, 3), 1), true},
		{stubOf(5, version("02", 1, 3), 1), stubOf(5, version("013", 1, 3), 1), false},
		{stubOf(5, version("099", 1, 3), 1), deadOne(5, version("0", 1, 4)), true}, // the stamp ahead of the Id
		{deadOne(5, version("0", 1, api.MaxSeq)), deadOne(5, version("099", 1, api.MaxSeq-1)), false},
		{stubOf(5, first, 1), heldOne(5, first, 1, "a"), true}, // one version
		{stubOf(5, first, 1), heldOne(5, first, 1, ""), true},
		{heldOne(5, first, 1, ""), stubOf(5, first, 1), false},
		{heldOne(5, first, 1, "a"), stubOf(5, first, 1), false},
		{heldOne(5, first, 1, "a"), heldOne(5, first, 1, "a"), false},
		{heldOne(5, first, 1, "a"), heldOne(5, first, 2, "b"), false},
		{stubOf(5, first, 1), stubOf(5, first, 1), false},
		{stubOf(5, first, 1), stubOf(5, first, 2), false},
		{stubOf(5, first, 0), stubOf(5, first, complex(null, null)), false},
		{deadOne(5, first), deadOne(5, first), false},
		{deadOne(5, first), stubOf(5, first, 1), false},
		{stubOf(5, first, 1), deadOne(5, first), false},
		{deadOne(5, first), heldOne(5, first, 1, "a"), true},
		{heldOne(5, first, 1, "a"), deadOne(5, first), false},
		{heldOne(5, version("0", 1, 3), 1, "a"), stubOf(5, version("0", 2, 3), 2), true}, // two Seqs alone
		{heldOne(5, version("0", 2, 3), 1, "a"), stubOf(5, version("0", 1, 3), 2), true},
		{heldOne(5, version("0", 2, 3), 1, "a"), deadOne(5, version("0", 1, 3)), true},
		{deadOne(5, version("0", 1, 3)), deadOne(5, version("0", 2, 3)), true},
	} {
		for _, around := range [][2]store.Store{{nil, nil}, {{deadOne(4, newer)}, nil}, {nil, {deadOne(6, older)}}, {full()[:5], full()[6:]}} {
			stands := c.old
			if c.want {
				stands = c.x
			}
			got, changed := store.Put(slices.Concat(around[0], store.Store{c.old}, around[1]), c.x)
			if !equal(got, slices.Concat(around[0], store.Store{stands}, around[1])) || changed != c.want || !store.Right(got) {
				t.Errorf("%d: %v behind %v: %v, %v", i, c.x, c.old, got, changed)
			}
		}
	}
}

func TestPutOfNewKeys(t *testing.T) {
	all := full()
	for key := range api.MaxKeys {
		x := all[key]
		for _, s := range []store.Store{nil, {}, all[:key], all[key+1:], slices.Concat(all[:key], all[key+1:])} {
			want := append(slices.Clone(s), x)
			slices.SortFunc(want, func(a, b item.Item) int { return a.Key - b.Key })
			if got, changed := store.Put(s, x); !equal(got, want) || !changed || !store.Right(got) {
				t.Errorf("Put(%v, %v) = %v, %v", s, x, got, changed)
			}
		}
	}
}

// orders calls f with each order of l.
func orders(l []item.Item, n int, f func([]item.Item)) {
	if n == len(l) {
		f(l)
		return
	}
	for i := n; i < len(l); i++ {
		l[n], l[i] = l[i], l[n]
		orders(l, n+1, f)
		l[n], l[i] = l[i], l[n]
	}
}

func TestWhateverOrderTheNewestStay(t *testing.T) {
	for _, c := range []struct {
		come []item.Item
		want store.Store
	}{
		{
			[]item.Item{stubOf(2, version("01", 4, 9), 3), heldOne(2, version("01", 4, 9), 3, "t"), stubOf(2, version("01", 4, 9), 3),
				heldOne(2, version("0", 1, 9), 1, "a"), deadOne(2, version("099", 1, 8)), heldOne(2, version("02", 7, 1), 2, "b")},
			store.Store{heldOne(2, version("01", 4, 9), 3, "t")},
		},
		{
			[]item.Item{deadOne(2, version("01", 5, 9)), heldOne(2, version("01", 4, 8), 3, "t"), stubOf(2, version("01", 4, 8), 3),
				deadOne(1, version("0", 1, 1)), stubOf(1, version("01", 1, 1), 4), deadOne(2, version("01", 5, 9))},
			store.Store{stubOf(1, version("01", 1, 1), 4), deadOne(2, version("01", 5, 9))},
		},
		{
			[]item.Item{heldOne(31, version("0", 3, 3), 1, ""), stubOf(31, version("0", 3, 3), 1), heldOne(0, version("0", 2, 2), 1, "x"),
				deadOne(0, version("0", 4, 4)), heldOne(0, version("0", 5, 5), 1, "y"), stubOf(16, version("013", 1, api.MaxSeq), -7)},
			store.Store{heldOne(0, version("0", 5, 5), 1, "y"), stubOf(16, version("013", 1, api.MaxSeq), -7), heldOne(31, version("0", 3, 3), 1, "")},
		},
	} {
		orders(c.come, 0, func(l []item.Item) {
			var s store.Store
			for _, x := range l {
				ahead := s
				changed := false
				s, changed = store.Put(s, x)
				if !store.Right(s) || changed == equal(ahead, s) {
					t.Fatalf("%v behind %v: %v, %v", x, ahead, s, changed)
				}
			}
			if !equal(s, c.want) {
				t.Fatalf("%v left %v", l, s)
			}
		})
	}
}

// made is items of few keys and versions, in an order that looks like none; a version of a key has one place.
func made(n int) []item.Item {
	var l []item.Item
	seed := uint32(7)
	for range n {
		seed = seed*1664525 + 1013904223
		r := int(seed >> 8)
		key, stamp, who := r%5*7, r/5%40+1, r/200%3
		v := version(some[who], stamp, stamp)
		switch place := complex(float64(stamp), 0); {
		case (key+stamp+who)%4 == 0:
			l = append(l, deadOne(key, v))
		case r/600%3 == 0:
			l = append(l, heldOne(key, v, place, "t"))
		default:
			l = append(l, stubOf(key, v, place))
		}
	}
	return l
}

var some = []id.Id{"0", "01", "02"}

// newest is the key's item of l that should stand, found by looking at all of them.
func newest(l []item.Item, key int) (best item.Item, found bool) {
	for _, x := range l {
		if x.Key != key {
			continue
		}
		sameText := x.Ver == best.Ver && x.Held
		if !found || sameText || x.Ver.Stamp > best.Ver.Stamp || x.Ver.Stamp == best.Ver.Stamp && x.Ver.Id > best.Ver.Id {
			best, found = x, true
		}
	}
	return best, found
}

func TestManyThatCome(t *testing.T) {
	all := made(600)
	var s store.Store
	for n, x := range all {
		s, _ = store.Put(s, x)
		if !store.Right(s) {
			t.Fatalf("%v isn't Right", s)
		}
		for key := range api.MaxKeys {
			want, found := newest(all[:n+1], key)
			if got, ok := store.Get(s, key); got != want || ok != found {
				t.Fatalf("key %d behind %d: %v, %v instead of %v", key, n+1, got, ok, want)
			}
		}
	}
	if len(s) != 5 {
		t.Error(s)
	}
}

func TestByAge(t *testing.T) {
	s := store.Store{
		deadOne(0, version("0", 1, 9)),
		heldOne(3, version("02", 1, 4), 1, "a"),
		stubOf(5, version("013", 8, 4), 2),
		heldOne(6, version("0", 2, api.MaxSeq), 0, ""),
		deadOne(9, version("0", 3, 1)),
		stubOf(31, version("0", 7, 4), 3),
	}
	for _, c := range []struct {
		s    store.Store
		want []item.Item
	}{
		{nil, nil},
		{store.Store{}, nil},
		{s[:1], s[:1]},
		{s, []item.Item{s[4], s[5], s[2], s[1], s[0], s[3]}},
	} {
		if got := store.ByAge(c.s); !equal(got, c.want) {
			t.Errorf("ByAge(%v) = %v", c.s, got)
		}
	}
	got := store.ByAge(full())
	for i, x := range got {
		if x != full()[x.Key] || x.Ver.Stamp != i+1 {
			t.Errorf("%v is in place %d", x, i)
		}
	}
	if len(got) != api.MaxKeys {
		t.Error(len(got))
	}
}

// Where neither is newer, the one of the lesser key comes first, whatever the Seqs are, and however many there are.
func TestByAgeOfOneAge(t *testing.T) {
	var s store.Store
	var old, young []item.Item
	for key := range api.MaxKeys {
		if key%2 == 0 {
			s = append(s, stubOf(key, version("01", 100-key, 5), 1))
			young = append(young, s[key])
		} else {
			s = append(s, stubOf(key, version("0", (key*11)%32+1, 5), 1))
			old = append(old, s[key])
		}
	}
	if got := store.ByAge(s); !equal(got, slices.Concat(old, young)) {
		t.Error(got)
	}
	if got := store.Unknown(s, nil); !equal(got, slices.Concat(old, young)) {
		t.Error(got)
	}
}

func knowOf(a id.Id, upto int, extra ...int) know.Know {
	return know.Know{{Id: a, Span: span.Span{Upto: upto, Extra: extra}}}
}

func TestUnknown(t *testing.T) {
	s := store.Store{
		deadOne(0, version("0", 5, 9)),
		heldOne(3, version("01", 2, 4), 1, "a"),
		stubOf(5, version("0", 3, 4), 2),
		heldOne(31, version("01", api.MaxSeq, 1), 3, "b"),
	}
	byAge := []item.Item{s[3], s[2], s[1], s[0]}
	for _, c := range []struct {
		k    know.Know
		want []item.Item
	}{
		{nil, byAge},
		{know.Know{}, byAge},
		{knowOf("02", api.MaxSeq), byAge},
		{knowOf("0", 2), byAge},
		{knowOf("0", 3), []item.Item{s[3], s[1], s[0]}},
		{knowOf("0", 4), []item.Item{s[3], s[1], s[0]}},
		{knowOf("0", 5), []item.Item{s[3], s[1]}},
		{knowOf("0", 0, 5), []item.Item{s[3], s[2], s[1]}},
		{knowOf("0", 1, 4, 9), byAge}, // the Seq counts, not the Stamp
		{knowOf("01", 1, api.MaxSeq), []item.Item{s[2], s[1], s[0]}},
		{knowOf("01", api.MaxSeq-1), []item.Item{s[3], s[2], s[0]}},
		{know.Union(knowOf("0", 3), knowOf("01", 2)), []item.Item{s[3], s[0]}},
		{know.Union(knowOf("0", 5), knowOf("01", api.MaxSeq)), nil},
	} {
		if got := store.Unknown(s, c.k); !equal(got, c.want) {
			t.Errorf("Unknown of %v: %v", c.k, got)
		}
		if got := store.Unknown(nil, c.k); len(got) != 0 {
			t.Errorf("Unknown of nothing: %v", got)
		}
	}
}

func TestUnknownIsByAgeWithoutWhatIsKnown(t *testing.T) {
	for _, s := range rightOnes() {
		var k know.Know
		for _, x := range s {
			k = know.Add(k, x.Ver.Id, x.Ver.Seq)
			var want []item.Item
			for _, y := range store.ByAge(s) {
				if !know.Has(k, y.Ver.Id, y.Ver.Seq) {
					want = append(want, y)
				}
			}
			if got := store.Unknown(s, k); !equal(got, want) {
				t.Errorf("Unknown(%v, %v) = %v", s, k, got)
			}
		}
		if got := store.Unknown(s, k); len(got) != 0 {
			t.Errorf("%v is unknown to one that knows all", got)
		}
	}
}

func TestSame(t *testing.T) {
	all := rightOnes()
	for i, a := range all {
		for j, b := range all {
			bothEmpty := i < 2 && j < 2
			if store.Same(a, b) != (i == j || bothEmpty) {
				t.Errorf("Same(%v, %v)", a, b)
			}
		}
	}
	x := heldOne(3, version("01", 2, 4), 1, "a")
	others := []item.Item{x, x, x, x, x, x, item.Stub(x), deadOne(3, x.Ver)}
	others[0].Key = 4
	others[1].Ver.Id = "02"
	others[2].Ver.Seq = 3
	others[3].Ver.Stamp = 5
	others[4].Spot = 1i
	others[5].Text = "b"
	for _, y := range others {
		if store.Same(store.Store{x}, store.Store{y}) || store.Same(full()[:3], append(full()[:2:2], y)) {
			t.Errorf("%v and %v are the same", x, y)
		}
	}
	if store.Same(full(), full()[:31]) || store.Same(full()[:31], full()) || !store.Same(full(), full()) {
		t.Error("of all keys")
	}
	if !store.Same(store.Store{stubOf(1, first, 0)}, store.Store{stubOf(1, first, complex(null, null))}) {
		t.Error("-0 isn't 0")
	}
}

// answers is every list that the calls answer of s.
func answers(s store.Store, k know.Know) [][]item.Item {
	store.Right(s)
	store.Same(s, s)
	l := [][]item.Item{store.ByAge(s), store.Unknown(s, k), store.Unknown(s, nil)}
	for _, key := range []int{-1, 0, 3, 5, 31, 32} {
		store.Get(s, key)
		l = append(l, store.Drop(s, key))
	}
	for _, key := range []int{0, 3, 4, 31} {
		for _, v := range []item.Version{version("0", 1, 1), first, version("01", 9, api.MaxSeq)} {
			for _, x := range []item.Item{deadOne(key, v), stubOf(key, v, 2), heldOne(key, v, 2, "new")} {
				got, _ := store.Put(s, x)
				l = append(l, got)
			}
		}
	}
	return l
}

func scratch(l []item.Item) {
	l = l[:cap(l)]
	for i := range l {
		l[i] = deadOne(-9, version("scratched", -1, -1))
	}
}

func TestStoresHandedInStayAndAreNotShared(t *testing.T) {
	k := know.Union(knowOf("0", 1), knowOf("01", 4, 7, 9))
	for _, s := range rightOnes() {
		whole := append(slices.Clone(s), deadOne(77, first), deadOne(78, first))
		kept := slices.Clone(whole)
		handed := whole[:len(s)]
		var want [][]item.Item
		for n, l := range answers(handed, k) {
			want = append(want, slices.Clone(l))
			scratch(l)
			if !equal(whole, kept) {
				t.Fatalf("answer %d of %v and what was handed in share: %v", n, s, whole)
			}
		}
		again := answers(handed, k)
		scratch(whole)
		for n, l := range again {
			if !equal(l, want[n]) {
				t.Fatalf("answer %d of %v is kept: %v", n, s, l)
			}
			scratch(l)
		}
	}
}

func TestKnowsHandedInStay(t *testing.T) {
	extra := []int{7, 9, 77}
	k := append(knowOf("01", 4, extra[:2]...), know.Row{Id: "spare"})
	store.Unknown(full(), k[:1])
	if k[0].Id != "01" || k[0].Span.Upto != 4 || k[1].Id != "spare" || !slices.Equal(extra, []int{7, 9, 77}) {
		t.Error(k, extra)
	}
}

func TestNoCallPanics(t *testing.T) {
	knows := []know.Know{nil, {{}}, knowOf("\xff", -1, 5, 5), append(knowOf("02", 1), knowOf("0", math.MaxInt)...)}
	all := append(wrongOnes(), rightOnes()...)
	for _, s := range all {
		for _, k := range knows {
			answers(s, k)
		}
		for _, key := range keys {
			store.Get(s, key)
			store.Drop(s, key)
		}
		for _, other := range all {
			store.Same(s, other)
			for _, x := range other {
				store.Put(s, x)
			}
		}
	}
}
