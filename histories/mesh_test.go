package histories

import (
	"bytes"
	"maps"
	"math/rand/v2"
	"slices"
	"strconv"
	"testing"

	"cenotaph/api"
	"cenotaph/bag"
	"cenotaph/frame"
	"cenotaph/id"
	"cenotaph/mesh"
	"cenotaph/node"
	"cenotaph/sample"
	"cenotaph/zone"
)

// group is a Mesh, and beside it, in the same places, the events that each replica should know, and that the sender of
// what is under way knew when it sent it.
type group struct {
	t          *testing.T
	m          mesh.Mesh
	known, way []events
	watched    bool
	seen       map[string]int // what happened, how often
}

func newGroup(t *testing.T, most int, watched bool, seen map[string]int) *group {
	m, e := mesh.New(most)
	if e != api.OK {
		t.Fatal(e)
	}
	return &group{t: t, m: m, known: []events{{}}, watched: watched, seen: seen}
}

// do: o is done. What came of it is held against what should come of it, and all that it doesn't change stays.
func (g *group) do(o mesh.Op) {
	g.t.Helper()
	was, f, wrong := g.m, frame.Frame{}, api.OK
	if o.Kind == mesh.Deliver {
		f, wrong = bag.Look(was.Bag, o.At)
	}
	e := g.call(o)
	g.seen["kind "+strconv.Itoa(o.Kind)+", "+strconv.Itoa(int(e))]++
	switch {
	case o.Kind == mesh.Deliver && wrong == api.OK:
		g.delivered(f, o.At, e)
		g.stays(was, f.To)
	case e != api.OK:
		g.stays(was)
	default:
		g.done(o, g.place(o.Who), g.place(o.Other))
		g.stays(was, changes(o)...)
	}
	g.check()
}

// call is what mesh.Do answers; where memory is looked at it is handed a Mesh with spare room.
func (g *group) call(o mesh.Op) api.Errno {
	g.t.Helper()
	m, done := g.m, func(...any) {}
	if g.watched {
		m, o = roomy(m), roomy(o)
		done = handed(g.t, m, o)
	}
	got, e := mesh.Do(m, o)
	s, _ := mesh.Find(m, o.Who)
	done(got, s, mesh.Live(m))
	g.m = got
	return e
}

// changes is which replicas o changes, which is no Deliver.
func changes(o mesh.Op) []id.Id {
	switch o.Kind {
	case mesh.Send, mesh.Drop, mesh.Double:
		return nil
	case mesh.Retire:
		return []id.Id{o.Who, o.Other}
	}
	return []id.Id{o.Who}
}

func (g *group) place(a id.Id) int {
	return slices.IndexFunc(g.m.Nodes, func(s node.State) bool { return s.Id == a })
}

// done: that was done, and nothing was wrong.
func (g *group) done(o mesh.Op, who, other int) {
	switch o.Kind {
	case mesh.Write, mesh.Delete:
		g.known[who][event{o.Who, 1 + g.made(who)}] = true
	case mesh.Create:
		g.known = append(g.known, maps.Clone(g.known[who]))
	case mesh.Send:
		g.way = append(g.way, maps.Clone(g.known[who]))
	case mesh.Drop:
		g.way = slices.Delete(g.way, o.At, o.At+1)
	case mesh.Double:
		g.way = append(g.way, maps.Clone(g.way[o.At]))
	case mesh.Retire:
		maps.Copy(g.known[other], g.known[who])
	}
}

// made is how many events that replica made.
func (g *group) made(who int) int {
	n := 0
	for e := range g.known[who] {
		if e.id == g.m.Nodes[who].Id {
			n++
		}
	}
	return n
}

// delivered: that frame was taken out of that place, and came where it was sent.
func (g *group) delivered(f frame.Frame, at int, e api.Errno) {
	knew, to := g.way[at], g.place(f.To)
	g.way = slices.Delete(g.way, at, at+1)
	switch {
	case e != api.OK:
	case f.Kind == frame.Ask:
		g.way = append(g.way, maps.Clone(g.known[to]))
	case f.Whole:
		g.seen["whole"]++
		maps.Copy(g.known[to], knew)
	default:
		g.seen["in part"]++
		for _, x := range f.Items {
			g.known[to][eventOf(x)] = true
		}
	}
}

// stays: all replicas but those are as they were in m, each in its place; and so much is under way as should be.
func (g *group) stays(m mesh.Mesh, changed ...id.Id) {
	g.t.Helper()
	for i, s := range m.Nodes {
		if !slices.Contains(changed, s.Id) && !sample.Same(s, g.m.Nodes[i]) {
			g.t.Fatalf("%v, and not %v", g.m.Nodes[i], s)
		}
	}
	if len(g.way) != len(g.m.Bag) || g.m.Most != m.Most {
		g.t.Fatalf("%d are under way, not %d", len(g.m.Bag), len(g.way))
	}
}

// check: what each replica knows is just the events that it should know; what is under way is what its sender knew; and
// all Ids differ.
func (g *group) check() {
	g.t.Helper()
	if len(g.m.Nodes) != len(g.known) || len(g.known) > api.MaxNodes || len(g.way) > api.MaxBag {
		g.t.Fatalf("there are %d replicas, not %d", len(g.m.Nodes), len(g.known))
	}
	var names []id.Id
	for i, s := range g.m.Nodes {
		if all := node.All(s); !maps.Equal(eventsOf(all), g.known[i]) {
			g.t.Fatalf("%q knows %v, not %v", s.Id, all, g.known[i])
		}
		if slices.Contains(names, s.Id) || !id.Right(s.Id) {
			g.t.Fatalf("%q comes behind %v", s.Id, names)
		}
		names = append(names, s.Id)
	}
	for i, l := range g.m.Bag {
		f, e := frame.Take(l)
		if e != api.OK || !bytes.Equal(frame.Put(f), l) || f.Kind != frame.Stale && !maps.Equal(eventsOf(f.Know), g.way[i]) {
			g.t.Fatalf("under way is %v, of one that knew %v", f, g.way[i])
		}
	}
}

// ways is how those of a Mesh are: how many they are at most; under how many keys they write; how long it goes on; and
// how often, of 100 times, one is expelled, one makes a Step, and a frame comes.
type ways struct{ nodes, keys, long, expels, steps, comes int }

// name is who does something next, or to whom; there may be nobody of that name.
func (g *group) name(r *rand.Rand) id.Id {
	if r.IntN(20) == 0 {
		return "0999"
	}
	return g.m.Nodes[r.IntN(len(g.m.Nodes))].Id
}

// next is what is done next; some of it can't be.
func (g *group) next(r *rand.Rand, h ways) mesh.Op {
	o := mesh.Op{Who: g.name(r), Other: g.name(r), Key: r.IntN(h.keys), At: r.IntN(len(g.m.Bag) + 1), Spot: spot(r)}
	o.Text = "text" + strconv.Itoa(r.IntN(100))
	o.Zone, _ = zone.Parse(zones()[r.IntN(len(zones()))])
	if o.Other == o.Who {
		o.Other = g.name(r)
	}
	kinds := []int{mesh.Write, mesh.Write, mesh.Write, mesh.Delete, mesh.Delete, mesh.SetZone, mesh.Create, mesh.Create,
		mesh.Send, mesh.Send, mesh.Send, mesh.Send, mesh.Send, mesh.Send, mesh.Send, mesh.Drop, mesh.Double, mesh.Double, mesh.Retire, 11}
	switch op := r.IntN(100); {
	case op < h.expels:
		o.Kind = mesh.Expel
	case op < h.expels+h.steps:
		o.Kind = mesh.Gc
	case op < h.expels+h.steps+h.comes:
		o.Kind = mesh.Deliver
	default:
		o.Kind = kinds[r.IntN(len(kinds))]
	}
	if o.Kind == mesh.Create && len(g.m.Nodes) >= h.nodes {
		o.Kind = mesh.Send
	}
	return o
}

// meshes is what happened in some histories.
func meshes(t *testing.T, seeds int, h ways, watched bool) map[string]int {
	seen := map[string]int{}
	for seed := range uint64(seeds) {
		r := rand.New(rand.NewPCG(seed, 16))
		g := newGroup(t, 1+r.IntN(1+r.IntN(api.MaxBatch)), watched, seen)
		for range h.long {
			g.do(g.next(r, h))
		}
	}
	return seen
}

// Whatever is done: all Ids differ, and each knows just what it should.
func TestMeshes(t *testing.T) {
	seen := meshes(t, 60, ways{nodes: 4, keys: 3, long: 300, steps: 15, comes: 30}, false)
	happened(t, seen, "whole", "in part", "kind 5, 5", "kind 5, 17", "kind 8, 0", "kind 10, 0", "kind 11, 1")
	seen = meshes(t, 60, ways{nodes: 5, keys: 3, long: 300, expels: 2, steps: 15, comes: 30}, false)
	happened(t, seen, "whole", "in part", "kind 5, 5", "kind 5, 16", "kind 5, 17", "kind 8, 0", "kind 9, 0")
}

// Likewise where more is sent than comes, so that there is no room any more.
func TestFullMeshes(t *testing.T) {
	seen := meshes(t, 6, ways{nodes: 13, keys: 32, long: 500, comes: 10}, false)
	happened(t, seen, "in part", "kind 3, 18", "kind 4, 18", "kind 5, 0", "kind 7, 18")
}

func TestMemoryOfMeshes(t *testing.T) {
	seen := meshes(t, 8, ways{nodes: 4, keys: 3, long: 200, expels: 1, steps: 15, comes: 30}, true)
	happened(t, seen, "whole", "in part", "kind 4, 4", "kind 5, 5", "kind 6, 11", "kind 8, 0", "kind 9, 0", "kind 10, 0", "kind 11, 1")
}
