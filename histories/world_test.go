// Package histories has tests alone: replicas do all that there is to do, and frames are lost, come late, or twice; each
// replica is held against the set of events that it should know.
package histories

import (
	"maps"
	"slices"
	"testing"

	"cenotaph/api"
	"cenotaph/frame"
	"cenotaph/gc"
	"cenotaph/id"
	"cenotaph/item"
	"cenotaph/know"
	"cenotaph/node"
	"cenotaph/sample"
	"cenotaph/store"
	"cenotaph/swap"
	"cenotaph/zone"
)

// event is who, and its how-manieth.
type event struct {
	id  id.Id
	seq int
}

type events map[event]bool

func eventOf(x item.Item) event { return event{x.Ver.Id, x.Ver.Seq} }

func eventsOf(k know.Know) events {
	l := events{}
	for _, x := range k {
		for n := 1; n <= x.Span.Upto; n++ {
			l[event{x.Id, n}] = true
		}
		for _, n := range x.Span.Extra {
			l[event{x.Id, n}] = true
		}
	}
	return l
}

func (l events) within(all events) bool {
	for e := range l {
		if !all[e] {
			return false
		}
	}
	return true
}

// letter is a frame under way, and what its sender knew.
type letter struct {
	f     frame.Frame
	known events
}

// world is replicas, and beside each the events that it should know; what is under way; what each event wrote; which
// tombstones were let go; and whether anybody was expelled by an order.
type world struct {
	t       *testing.T
	all     []node.State
	known   []events
	way     []letter
	wrote   map[event]item.Item
	gone    map[item.Item]bool
	expels  bool
	watched bool           // is memory looked at, too?
	seen    map[string]int // what happened, how often
}

func newWorld(t *testing.T) *world {
	return &world{
		t: t, all: []node.State{node.Root()}, known: []events{{}},
		wrote: map[event]item.Item{}, gone: map[item.Item]bool{}, seen: map[string]int{},
	}
}

func (w *world) expect(got, want api.Errno) {
	w.t.Helper()
	if got != want {
		w.t.Fatalf("error %d, not %d", got, want)
	}
}

// place is which replica has that Id.
func (w *world) place(a id.Id) int {
	return slices.IndexFunc(w.all, func(s node.State) bool { return s.Id == a })
}

// floorOf is the events that replica i's Floor says.
func (w *world) floorOf(i int) events { return eventsOf(know.From(w.all[i].Floor)) }

// made: replica i, that is Live, made an event, that should be newer than all that it knew.
func (w *world) made(i int) {
	s := w.all[i]
	e := event{s.Id, s.Seq}
	at := slices.IndexFunc(s.Store, func(x item.Item) bool { return eventOf(x) == e })
	if w.known[i][e] || at < 0 || s.How != node.Live {
		w.t.Fatalf("%q made %v: %v", s.Id, e, s.Store)
	}
	x := s.Store[at]
	for old := range w.known[i] {
		if !item.Newer(x.Ver, w.wrote[old].Ver) {
			w.t.Fatalf("%v isn't newer than %v", x.Ver, w.wrote[old].Ver)
		}
	}
	w.known[i][e], w.wrote[e] = true, x
}

func (w *world) write(i, key int, spot complex128, text string) {
	var e api.Errno
	if w.all[i], e = node.Write(w.all[i], key, spot, text); e == api.OK {
		w.made(i)
	}
}

func (w *world) delete(i, key int) {
	var e api.Errno
	if w.all[i], e = node.Delete(w.all[i], key); e == api.OK {
		w.made(i)
	}
}

func (w *world) setZone(i int, z zone.Zone) { w.all[i], _ = node.SetZone(w.all[i], z) }

func (w *world) child(i int) {
	s, c, e := node.Child(w.all[i])
	if w.all[i] = s; e == api.OK {
		w.all, w.known = append(w.all, c), append(w.known, maps.Clone(w.known[i]))
	}
}

func (w *world) retire(i, k int) {
	x, heir, e := node.Retire(w.all[i], w.all[k])
	if e != api.OK {
		return
	}
	w.seen["retired"]++
	w.all[i], w.all[k] = x, heir
	maps.Copy(w.known[k], w.known[i])
}

func (w *world) expel(i, k int) {
	var e api.Errno
	w.all[i], e = node.Expel(w.all[i], w.all[k].Id)
	w.expels = w.expels || e == api.OK
}

// ask: replica i asks another one; its frame is under way then.
func (w *world) ask(i, k int) {
	s, _, done := w.watch(w.all[i], frame.Frame{})
	f, e := swap.Ask(s, w.all[k].Id)
	done(f)
	switch {
	case s.How != node.Live:
		w.expect(e, api.ErrState)
	case i == k:
		w.expect(e, api.ErrArg)
	default:
		w.expect(e, api.OK)
		w.send(f, w.known[i])
	}
}

func (w *world) send(f frame.Frame, known events) {
	if !frame.Right(f) {
		w.t.Fatalf("%v isn't right", f)
	}
	w.way = append(w.way, letter{f, maps.Clone(known)})
}

// lose: the frame in that place never comes.
func (w *world) lose(n int) { w.way = slices.Delete(w.way, n, n+1) }

// deliver: the frame in that place comes; it stays under way, too, if it is to come once more.
func (w *world) deliver(n, most int, twice bool) {
	l := w.way[n]
	if !twice {
		w.lose(n)
	}
	if i := w.place(l.f.To); l.f.Kind == frame.Ask {
		w.answer(i, l, most)
	} else {
		w.take(i, l)
	}
}

func (w *world) answer(i int, l letter, most int) {
	s, f, done := w.watch(w.all[i], l.f)
	got, d, e := swap.Answer(s, f, most)
	done(got, d)
	w.all[i] = got
	w.answered(i, s, l, d, e, most)
	if e == api.OK {
		w.send(d, w.known[i])
	}
}

// answered: replica i, that was s, was asked, and sends d back. Who knows less than its Floor says is told so, and nothing
// else happens.
func (w *world) answered(i int, s node.State, l letter, d frame.Frame, e api.Errno, most int) {
	w.t.Helper()
	if s.How != node.Live {
		w.expect(e, api.ErrState)
		return
	}
	w.expect(e, api.OK)
	knowsTooLittle := !w.floorOf(i).within(l.known)
	if knowsTooLittle != (d.Kind == frame.Stale) || knowsTooLittle && !sample.Same(w.all[i], s) {
		w.t.Fatalf("%q, whose Floor is %v, sends %v to one that knew %v", s.Id, s.Floor, d, l.known)
	}
	if d.Kind == frame.Data && !d.Whole && len(d.Items) < most {
		w.seen["withheld"]++
	}
}

func (w *world) take(i int, l letter) {
	s, f, done := w.watch(w.all[i], l.f)
	got, e := swap.Take(s, f)
	done(got)
	w.all[i] = got
	w.came(i, s, l, e)
}

// came: what replica i, that was s, had asked for came.
func (w *world) came(i int, s node.State, l letter, e api.Errno) {
	w.t.Helper()
	got := w.all[i]
	switch told := eventsOf(know.From(l.f.Floor)); {
	case s.How != node.Live:
		w.expect(e, api.ErrState)
	case l.f.Kind == frame.Stale && told.within(w.known[i]):
		w.seen["stale, and knew by then"]++
		w.expect(e, api.ErrOld)
	case l.f.Kind == frame.Stale:
		w.seen["stale"]++
		w.expect(e, api.ErrStale)
		w.isExpelled(s, got)
	case !w.floorOf(i).within(l.known):
		w.seen["old"]++
		w.expect(e, api.ErrOld)
	default:
		w.expect(e, api.OK)
		w.took(i, l)
	}
	if e == api.ErrOld && !sample.Same(got, s) {
		w.t.Fatalf("%q took what is old: %v, not %v", s.Id, got, s)
	}
}

// isExpelled: only an order brings it about that one knows too little.
func (w *world) isExpelled(s, got node.State) {
	s.How = node.Expelled
	if !sample.Same(got, s) || !w.expels {
		w.t.Fatalf("%q is %v, not %v", s.Id, got, s)
	}
}

// took: replica i took a Data; what its sender knew it knows, too, if that was whole. Taken once more it is as if not.
func (w *world) took(i int, l letter) {
	if l.f.Whole {
		w.seen["whole"]++
		maps.Copy(w.known[i], l.known)
	} else {
		w.seen["in part"]++
	}
	for _, x := range l.f.Items {
		w.known[i][eventOf(x)] = true
	}
	again, e := swap.Take(w.all[i], l.f)
	if w.all[i].How == node.Live {
		w.expect(e, api.OK)
	}
	if !sample.Same(again, w.all[i]) {
		w.t.Fatalf("%v, taken twice: %v, not %v", l.f, again, w.all[i])
	}
}

// meet: replica i asks, and takes the answer at once. Is no more to be had from that one?
func (w *world) meet(i, k, most int) bool {
	if i == k || w.all[i].How != node.Live || w.all[k].How != node.Live {
		return true
	}
	w.ask(i, k)
	w.deliver(len(w.way)-1, most, false)
	d := w.way[len(w.way)-1].f
	was := w.seen["old"]
	w.deliver(len(w.way)-1, most, false)
	refused := d.Kind == frame.Stale || w.seen["old"] > was
	if refused && !w.expels {
		w.t.Fatalf("%q refuses what %q sends", w.all[i].Id, w.all[k].Id)
	}
	if d.Whole && !refused && !w.known[k].within(w.known[i]) {
		w.t.Fatalf("%q doesn't know all that %q does", w.all[i].Id, w.all[k].Id)
	}
	return refused || d.Whole
}

// step: replica i lets go what nobody needs any more.
func (w *world) step(i int) {
	s, _, done := w.watch(w.all[i], frame.Frame{})
	got, r := gc.Step(s)
	done(got, r, gc.Stable(s))
	w.stepped(s, got, r)
	w.all[i] = got
}

// stepped: a replica that was s let that go.
func (w *world) stepped(s, got node.State, r gc.Report) {
	w.t.Helper()
	w.checkStep(s, got, r)
	for _, key := range r.Tombs {
		x, _ := store.Get(s.Store, key)
		w.gone[x] = true
	}
	w.seen["tombs"] += len(r.Tombs)
	w.seen["texts"] += len(r.Texts)
	w.seen["ids"] += len(r.Ids)
}

// round: all that are Live ask one another, and let go what nobody needs any more.
func (w *world) round() {
	for i := range w.all {
		for k := range w.all {
			for range 4 {
				if w.meet(i, k, api.MaxBatch) {
					break
				}
			}
		}
	}
	for i := range w.all {
		w.step(i)
	}
}
