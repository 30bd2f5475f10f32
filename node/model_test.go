package node_test

import (
	"math/rand/v2"
	"slices"
	"strconv"
	"testing"

	"cenotaph/api"
	"cenotaph/cert"
	"cenotaph/id"
	"cenotaph/item"
	"cenotaph/know"
	"cenotaph/matrix"
	"cenotaph/node"
	"cenotaph/store"
	"cenotaph/vec"
	"cenotaph/zone"
)

// event is who, and its how-manieth.
type event struct {
	id  id.Id
	seq int
}

// world is replicas, and beside each the set of events that it should know, and the greatest stamp that it should have
// seen; and what each event wrote.
type world struct {
	t     *testing.T
	all   []node.State
	known []map[event]bool
	clock []int
	wrote map[event]item.Item
}

func newWorld(t *testing.T) *world {
	return &world{t: t, all: []node.State{node.Root()}, known: []map[event]bool{{}}, clock: []int{0}, wrote: map[event]item.Item{}}
}

// newest is what an event of those that replica i knows wrote last under the key.
func (w *world) newest(i, key int) (item.Item, bool) {
	var best item.Item
	found := false
	for e := range w.known[i] {
		x := w.wrote[e]
		if x.Key != key {
			continue
		}
		later := x.Ver.Stamp > best.Ver.Stamp || x.Ver.Stamp == best.Ver.Stamp && x.Ver.Id > best.Ver.Id
		if !found || later {
			best, found = x, true
		}
	}
	return best, found
}

func (w *world) happened(i int, x item.Item) {
	e := event{w.all[i].Id, w.all[i].Seq}
	if w.known[i][e] {
		w.t.Fatalf("%v was there already", e)
	}
	w.clock[i]++
	x.Ver = version(e.id, e.seq, w.clock[i])
	for old := range w.known[i] {
		if !item.Newer(x.Ver, w.wrote[old].Ver) {
			w.t.Fatalf("%v isn't newer than %v", x.Ver, w.wrote[old].Ver)
		}
	}
	w.known[i][e], w.wrote[e] = true, x
}

func (w *world) write(i, key int, spot complex128, text string) {
	s, e := node.Write(w.all[i], key, spot, text)
	want := api.OK
	switch {
	case w.all[i].How != node.Live:
		want = api.ErrState
	case !zone.Has(w.all[i].Zone, spot):
		want = api.ErrZone
	}
	w.expect(e, want)
	if w.all[i] = s; e == api.OK {
		w.happened(i, heldOne(key, item.Version{}, spot, text))
	}
}

func (w *world) delete(i, key int) {
	s, e := node.Delete(w.all[i], key)
	x, found := w.newest(i, key)
	want := api.OK
	switch {
	case w.all[i].How != node.Live:
		want = api.ErrState
	case !found || x.Dead:
		want = api.ErrNone
	}
	w.expect(e, want)
	if w.all[i] = s; e == api.OK {
		w.happened(i, deadOne(key, item.Version{}))
	}
}

func (w *world) child(i int) {
	s, c, e := node.Child(w.all[i])
	want := api.OK
	switch {
	case w.all[i].How != node.Live:
		want = api.ErrState
	case w.all[i].Kids == 9 || len(w.all[i].Id) == 6:
		want = api.ErrFull
	}
	w.expect(e, want)
	if w.all[i] = s; e == api.OK {
		w.all, w.known, w.clock = append(w.all, c), append(w.known, copyOf(w.known[i])), append(w.clock, w.clock[i])
	}
}

func copyOf(m map[event]bool) map[event]bool {
	l := map[event]bool{}
	for e := range m {
		l[e] = true
	}
	return l
}

func (w *world) retire(i, k int) {
	x, h := w.all[i], w.all[k]
	lacks := false
	for key := range api.MaxKeys {
		y, found := w.newest(i, key)
		own, _ := store.Get(x.Store, key)
		if found && !y.Dead && !own.Held && !w.known[k][event{y.Ver.Id, y.Ver.Seq}] && zone.Has(h.Zone, y.Spot) {
			lacks = true
		}
	}
	want := api.OK
	switch {
	case x.How != node.Live || h.How != node.Live:
		want = api.ErrState
	case i == k:
		want = api.ErrArg
	case i == 0:
		want = api.ErrRoot
	case lacks:
		want = api.ErrHeld
	}
	a, b, e := node.Retire(x, h)
	w.expect(e, want)
	if w.all[i] = a; e != api.OK {
		return
	}
	w.all[k] = b
	w.clock[k] = max(w.clock[k], w.clock[i])
	for e := range w.known[i] {
		w.known[k][e] = true
	}
	if a.How != node.Retired || !cert.Gone(b.Certs, a.Id) || cert.Last(b.Certs, a.Id) < a.Seq {
		w.t.Fatalf("%q went: %d, %v", a.Id, a.How, b.Certs)
	}
}

func (w *world) expel(i, k int) {
	s, e := node.Expel(w.all[i], w.all[k].Id)
	if e == api.OK && (!cert.Gone(s.Certs, w.all[k].Id) || w.all[i].How != node.Live || k == 0 || k == i) {
		w.t.Fatalf("%q expelled %q", s.Id, w.all[k].Id)
	}
	w.all[i] = s
}

// share is what another layer does by this one's calls: i hears from k, and takes all that it may.
func (w *world) share(i, k int) {
	s, from := w.all[i], w.all[k]
	if s.How != node.Live || from.How != node.Live || i == k {
		return
	}
	whole := true
	news := know.Know(nil)
	for _, x := range store.Unknown(from.Store, node.All(s)) {
		switch {
		case x.Dead, x.Held && zone.Has(s.Zone, x.Spot):
		case zone.Has(s.Zone, x.Spot):
			whole = false
			continue
		default:
			x = item.Stub(x)
		}
		s.Store, _ = store.Put(s.Store, x)
		news = know.Add(news, x.Ver.Id, x.Ver.Seq)
		w.known[i][event{x.Ver.Id, x.Ver.Seq}] = true
	}
	if whole {
		news = node.All(from)
		for e := range w.known[k] {
			w.known[i][e] = true
		}
	}
	s.Clock = max(s.Clock, from.Clock)
	w.clock[i] = max(w.clock[i], w.clock[k])
	s = node.Meta(node.Learn(s, news), from.Members, from.Certs, from.Rows)
	w.all[i] = node.Settle(s)
}

// leaveOut moves a Row without holes from Know to Gone, as another layer does: what is known stays.
func (w *world) leaveOut(i, n int) {
	s := w.all[i]
	if len(s.Know) == 0 {
		return
	}
	x := s.Know[n%len(s.Know)]
	if len(x.Span.Extra) > 0 || !cert.Gone(s.Certs, x.Id) {
		return
	}
	w.all[i].Gone = vec.Set(s.Gone, x.Id, x.Span.Upto)
	w.all[i].Know = know.Drop(s.Know, x.Id)
}

func (w *world) expect(got, want api.Errno) {
	w.t.Helper()
	if got != want {
		w.t.Fatalf("error %d, not %d", got, want)
	}
}

// check holds each replica against what it should know.
func (w *world) check() {
	w.t.Helper()
	names := map[id.Id]bool{}
	for i, s := range w.all {
		if names[s.Id] || !id.Right(s.Id) {
			w.t.Fatalf("%q twice", s.Id)
		}
		names[s.Id] = true
		var want know.Know
		for e := range w.known[i] {
			want = know.Add(want, e.id, e.seq)
		}
		all := node.All(s)
		if !know.Same(all, want) || !know.Right(s.Know) || !vec.Right(s.Gone) {
			w.t.Fatalf("%q knows %v, not %v", s.Id, all, want)
		}
		if own := know.Of(all, s.Id); own.Upto != s.Seq || len(own.Extra) > 0 || s.Clock != w.clock[i] {
			w.t.Fatalf("%q: %v, %d, %d", s.Id, own, s.Seq, s.Clock)
		}
		if !vec.Same(matrix.Of(s.Rows, s.Id), know.Firsts(all)) || !matrix.Right(s.Rows) || !vec.Right(s.Certs) || !store.Right(s.Store) {
			w.t.Fatalf("%q: %v", s.Id, s)
		}
		if !slices.IsSortedFunc(s.Members, id.Compare) || len(slices.Compact(slices.Clone(s.Members))) != len(s.Members) || !id.Has(s.Members, s.Id) {
			w.t.Fatalf("%q: %v", s.Id, s.Members)
		}
		for key := range api.MaxKeys {
			w.checkKey(i, key)
		}
	}
}

func (w *world) checkKey(i, key int) {
	w.t.Helper()
	s := w.all[i]
	x, found := w.newest(i, key)
	has, ok := store.Get(s.Store, key)
	if ok != found || has.Ver != x.Ver || has.Dead != x.Dead || has.Spot != x.Spot || has.Held && has.Text != x.Text {
		w.t.Fatalf("%q has %v, not %v", s.Id, has, x)
	}
	text, want := "", api.OK
	switch {
	case s.How != node.Live:
		want = api.ErrState
	case !found || x.Dead:
		want = api.ErrNone
	case !zone.Has(s.Zone, x.Spot):
		want = api.ErrHidden
	case !has.Held:
		want = api.ErrPending
	default:
		text = x.Text
	}
	if got, e := node.Read(s, key); got != text || e != want {
		w.t.Fatalf("%q reads under %d %q, %d, not %q, %d", s.Id, key, got, e, text, want)
	}
}

// Histories of all calls, in which each replica is held against the set of events that it should know.
func TestHistories(t *testing.T) {
	zones := []zone.Zone{zone.Everywhere(), zoneOf(t, "disc 0 0 1"), zoneOf(t, "half 1 0 0"), zoneOf(t, "disc 0 0 2,not")}
	pending, gone, went := 0, 0, 0
	for seed := range uint64(60) {
		r := rand.New(rand.NewPCG(seed, 11))
		w := newWorld(t)
		for n := range 150 {
			i, k := r.IntN(len(w.all)), r.IntN(len(w.all))
			switch op := r.IntN(40); {
			case op < 12:
				w.write(i, r.IntN(6), complex(float64(r.IntN(5)-2), float64(r.IntN(5)-2)), "t"+strconv.Itoa(n))
			case op < 17:
				w.delete(i, r.IntN(6))
			case op < 20 && len(w.all) < 12:
				w.child(i)
			case op < 22:
				w.retire(i, k)
			case op < 23:
				w.expel(i, k)
			case op < 27:
				w.all[i], _ = node.SetZone(w.all[i], zones[r.IntN(len(zones))])
			case op < 37:
				w.share(i, k)
			default:
				w.leaveOut(i, n)
			}
			w.check()
			pending += len(node.Wants(w.all[i]))
			gone += len(w.all[i].Gone)
			went += w.all[i].How
		}
	}
	if pending == 0 || gone == 0 || went == 0 {
		t.Error("the histories have too little in them", pending, gone, went)
	}
}
