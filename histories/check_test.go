package histories

import (
	"maps"
	"slices"

	"cenotaph/api"
	"cenotaph/cert"
	"cenotaph/gc"
	"cenotaph/id"
	"cenotaph/item"
	"cenotaph/know"
	"cenotaph/matrix"
	"cenotaph/node"
	"cenotaph/sample"
	"cenotaph/store"
	"cenotaph/vec"
	"cenotaph/zone"
)

// check holds each replica against what it should know, and have.
func (w *world) check() {
	w.t.Helper()
	for i, s := range w.all {
		all := node.All(s)
		if !maps.Equal(eventsOf(all), w.known[i]) || !know.Right(s.Know) || !vec.Right(s.Gone) {
			w.t.Fatalf("%q knows %v, not %v", s.Id, all, w.known[i])
		}
		if !vec.Right(s.Floor) || !w.floorOf(i).within(w.known[i]) || !store.Right(s.Store) || !vec.Right(s.Certs) {
			w.t.Fatalf("%q is %v", s.Id, s)
		}
		w.checkRows(s)
		w.checkKeys(i)
		w.checkGone(i)
		w.checkFloors(i)
	}
}

// checkRows: nobody is said to be farther than it is; and of itself each says just how far it is.
func (w *world) checkRows(s node.State) {
	w.t.Helper()
	if !matrix.Right(s.Rows) || !vec.Same(matrix.Of(s.Rows, s.Id), know.Firsts(node.All(s))) {
		w.t.Fatalf("%q tells %v", s.Id, s.Rows)
	}
	for _, x := range s.Rows {
		if k := w.place(x.Id); k < 0 || !eventsOf(know.From(x.Vec)).within(w.known[k]) {
			w.t.Fatalf("%q tells of %q %v", s.Id, x.Id, x.Vec)
		}
	}
}

// newest is what an event of those wrote last under each key.
func (w *world) newest(l events) map[int]item.Item {
	all := map[int]item.Item{}
	for e := range l {
		x := w.wrote[e]
		if old, found := all[x.Key]; !found || item.Newer(x.Ver, old.Ver) {
			all[x.Key] = x
		}
	}
	return all
}

// checkKeys: under each key is the newest of all that it knows; where it has none, that was a deletion that one let go.
func (w *world) checkKeys(i int) {
	w.t.Helper()
	s, all := w.all[i], w.newest(w.known[i])
	for key, x := range all {
		w.checkRead(s, key, x)
	}
	for _, x := range s.Store {
		want := all[x.Key]
		if x.Ver != want.Ver || x.Dead != want.Dead || x.Spot != want.Spot || x.Held && x.Text != want.Text {
			w.t.Fatalf("%q has %v, not %v", s.Id, x, want)
		}
		delete(all, x.Key)
	}
	for _, x := range all {
		if !x.Dead || !w.gone[x] {
			w.t.Fatalf("%q lacks %v", s.Id, x)
		}
	}
}

// checkRead: what s reads under that key is what was written last there, x.
func (w *world) checkRead(s node.State, key int, x item.Item) {
	w.t.Helper()
	want := []api.Errno{api.OK, api.ErrPending}
	switch {
	case s.How != node.Live:
		want = []api.Errno{api.ErrState}
	case x.Dead:
		want = []api.Errno{api.ErrNone}
	case !zone.Has(s.Zone, x.Spot):
		want = []api.Errno{api.ErrHidden}
	}
	text, e := node.Read(s, key)
	if !slices.Contains(want, e) || e == api.OK && text != x.Text || e != api.OK && text != "" {
		w.t.Fatalf("%q reads %d, %q, not %v", s.Id, e, text, x)
	}
}

// agrees: is replica i one of those that are Live while nobody was expelled by an order?
func (w *world) agrees(i int) bool { return w.all[i].How == node.Live && !w.expels }

// checkGone: who knows of a deletion whose tombstone went somewhere has nothing older under its key.
func (w *world) checkGone(i int) {
	w.t.Helper()
	for x := range w.gone {
		knows := w.known[i][eventOf(x)]
		if w.agrees(i) && !knows {
			w.t.Fatalf("%q doesn't know of %v", w.all[i].Id, x)
		}
		own, found := store.Get(w.all[i].Store, x.Key)
		if knows && found && item.Newer(x.Ver, own.Ver) {
			w.t.Fatalf("%q has %v, that is older than %v", w.all[i].Id, own, x)
		}
	}
}

// checkFloors: what any Floor says all know.
func (w *world) checkFloors(i int) {
	w.t.Helper()
	for k, s := range w.all {
		if w.agrees(i) && !w.floorOf(k).within(w.known[i]) {
			w.t.Fatalf("%q doesn't know of %q's Floor, %v", w.all[i].Id, s.Id, s.Floor)
		}
	}
}

// checkStep: what s knew and read it knows and reads still; of one that isn't Live nothing goes.
func (w *world) checkStep(s, got node.State, r gc.Report) {
	w.t.Helper()
	if s.How != node.Live && (!sample.Same(got, s) || len(r.Tombs)+len(r.Texts)+len(r.Ids) > 0) {
		w.t.Fatalf("%q isn't Live, and lets go %v", s.Id, r)
	}
	if !know.Same(node.All(got), node.All(s)) {
		w.t.Fatalf("%q knows %v, not %v", s.Id, node.All(got), node.All(s))
	}
	for key := range api.MaxKeys {
		a, e := node.Read(s, key)
		b, f := node.Read(got, key)
		if a != b || e != f {
			w.t.Fatalf("%q reads under %d %q, %d, not %q, %d", s.Id, key, b, f, a, e)
		}
	}
	w.checkRowsLeftOut(s, got)
}

// checkRowsLeftOut: whose Rows s had, and got hasn't, were left out by right.
func (w *world) checkRowsLeftOut(s, got node.State) {
	w.t.Helper()
	for _, x := range s.Know {
		if !slices.ContainsFunc(got.Know, func(y know.Row) bool { return y.Id == x.Id }) {
			w.checkLeftOut(s, x)
		}
	}
}

// checkLeftOut: whose Row s left out is no member any more, and all that are know all that it tells.
func (w *world) checkLeftOut(s node.State, x know.Row) {
	w.t.Helper()
	if !cert.Gone(s.Certs, x.Id) {
		w.t.Fatalf("%q leaves %q out, of whom there is no certificate", s.Id, x.Id)
	}
	told := eventsOf(know.Know{x})
	for _, a := range cert.Live(s.Members, s.Certs) {
		if !told.within(w.known[w.place(a)]) {
			w.t.Fatalf("%q leaves %q out, of whom %q doesn't know all", s.Id, x.Id, a)
		}
	}
}

// live is those that are Live.
func (w *world) live() ([]node.State, []id.Id) {
	var l []node.State
	var names []id.Id
	for _, s := range w.all {
		if s.How == node.Live {
			l, names = append(l, s), append(names, s.Id)
		}
	}
	return l, names
}

// unrest is what isn't as it should be where nothing is left to be done; an empty text: nothing.
func (w *world) unrest() string {
	l, names := w.live()
	for _, s := range l {
		switch {
		case !know.Same(s.Know, l[0].Know) || !know.Same(node.All(s), node.All(l[0])):
			return "not all know the same"
		case know.Extras(s.Know) > 0 || !know.Same(s.Know, know.Only(s.Know, names)):
			return "there are holes, or those that went"
		case !slices.EqualFunc(s.Store, l[0].Store, sameText):
			return "not all have the same items"
		case len(node.Wants(s)) > 0:
			return "a text lacks"
		}
	}
	return ""
}

// sameText: have both the same version, that isn't Dead?
func sameText(x, y item.Item) bool { return !x.Dead && !y.Dead && x.Key == y.Key && x.Ver == y.Ver }
