package histories

import (
	"bytes"
	"maps"
	"math/rand/v2"
	"slices"
	"strconv"
	"testing"

	"cenotaph/api"
	"cenotaph/bag"
	"cenotaph/frame"
	"cenotaph/gc"
	"cenotaph/id"
	"cenotaph/mesh"
	"cenotaph/sample"
	"cenotaph/zone"
)

// group is a Mesh, and beside it a world of the same replicas and frames, that tells what each should know.
type group struct {
	*world
	m mesh.Mesh
}

func newGroup(t *testing.T, most int, watched bool, seen map[string]int) *group {
	m, e := mesh.New(most)
	if e != api.OK {
		t.Fatal(e)
	}
	g := &group{world: newWorld(t), m: m}
	g.watched, g.seen = watched, seen
	return g
}

// do: o is done. What came of it is held against what should come of it, and all that it doesn't change stays.
func (g *group) do(o mesh.Op) api.Errno {
	g.t.Helper()
	was := g.m
	e := g.call(o)
	g.seen["kind "+strconv.Itoa(o.Kind)+", "+strconv.Itoa(int(e))]++
	switch {
	case o.Kind == mesh.Deliver && o.At >= 0 && o.At < len(was.Bag):
		g.delivered(was, o.At, e)
	case e != api.OK:
		g.stays(was)
	default:
		g.done(was, o, g.place(o.Who), g.place(o.Other))
		g.stays(was, changes(o)...)
	}
	g.checkMesh(was)
	return e
}

// call is what mesh.Do answers; where memory is looked at it is handed a Mesh with spare room.
func (g *group) call(o mesh.Op) api.Errno {
	g.t.Helper()
	m, done := g.m, func(...any) {}
	if g.watched {
		m, o = roomy(m), roomy(o)
		done = handed(g.t, m, o)
	}
	got, e := mesh.Do(m, o)
	s, _ := mesh.Find(m, o.Who)
	done(got, s, mesh.Live(m))
	g.m, g.all = got, got.Nodes
	return e
}

// changes is which replicas o changes, which is no Deliver.
func changes(o mesh.Op) []id.Id {
	switch o.Kind {
	case mesh.Send, mesh.Drop, mesh.Double:
		return nil
	case mesh.Retire:
		return []id.Id{o.Who, o.Other}
	}
	return []id.Id{o.Who}
}

// done: that was done, to a Mesh that was was, and nothing was wrong.
func (g *group) done(was mesh.Mesh, o mesh.Op, who, other int) {
	g.t.Helper()
	switch o.Kind {
	case mesh.Write, mesh.Delete:
		g.made(who)
	case mesh.Create:
		g.known = append(g.known, maps.Clone(g.known[who]))
	case mesh.Send:
		g.sent(who)
	case mesh.Drop:
		g.lose(o.At)
	case mesh.Double:
		g.send(g.way[o.At].f, g.way[o.At].known)
	case mesh.Retire:
		g.seen["retired"]++
		maps.Copy(g.known[other], g.known[who])
	case mesh.Expel:
		g.expels = true
	case mesh.Gc:
		_, r := gc.Step(was.Nodes[who])
		g.stepped(was.Nodes[who], g.all[who], r)
	}
}

// sent: replica i sent what stands behind all that is under way.
func (g *group) sent(i int) frame.Frame {
	g.t.Helper()
	f, e := bag.Look(g.m.Bag, len(g.m.Bag)-1)
	if e != api.OK || f.Kind != frame.Stale && !maps.Equal(eventsOf(f.Know), g.known[i]) {
		g.t.Fatalf("%d: %v, of one that knew %v", e, f, g.known[i])
	}
	g.send(f, g.known[i])
	return f
}

// delivered: the frame in that place was taken out, and came where it was sent.
func (g *group) delivered(was mesh.Mesh, at int, e api.Errno) {
	g.t.Helper()
	l := g.way[at]
	g.lose(at)
	i := g.place(l.f.To)
	switch {
	case l.f.Kind != frame.Ask:
		g.came(i, was.Nodes[i], l, e)
	case e != api.OK:
		g.answered(i, was.Nodes[i], l, frame.Frame{}, e, was.Most)
	default:
		g.answered(i, was.Nodes[i], l, g.sent(i), e, was.Most)
	}
	g.stays(was, l.f.To)
}

// stays: all replicas but those are as they were in m, each in its place; and so much is under way as should be.
func (g *group) stays(m mesh.Mesh, changed ...id.Id) {
	g.t.Helper()
	for i, s := range m.Nodes {
		if !slices.Contains(changed, s.Id) && !sample.Same(s, g.all[i]) {
			g.t.Fatalf("%v, and not %v", g.all[i], s)
		}
	}
	if len(g.way) != len(g.m.Bag) || g.m.Most != m.Most {
		g.t.Fatalf("%d are under way, not %d", len(g.m.Bag), len(g.way))
	}
}

// checkMesh: what each replica knows and has is as it should be; what is under way is what was sent; all Ids differ; and whose
// Row is in no Know any more that had it, ahead of what was done, was left out by right.
func (g *group) checkMesh(was mesh.Mesh) {
	g.t.Helper()
	if len(g.all) != len(g.known) || len(g.known) > api.MaxNodes || len(g.way) > api.MaxBag {
		g.t.Fatalf("there are %d replicas, not %d", len(g.all), len(g.known))
	}
	g.check()
	names := map[id.Id]bool{}
	for _, s := range g.all {
		if names[s.Id] || !id.Right(s.Id) {
			g.t.Fatalf("%q comes behind %v", s.Id, names)
		}
		names[s.Id] = true
	}
	for i, l := range g.m.Bag {
		if !bytes.Equal(frame.Put(g.way[i].f), l) {
			g.t.Fatalf("under way is %v, and not %v", l, g.way[i].f)
		}
	}
	for i, s := range was.Nodes {
		g.checkRowsLeftOut(s, g.all[i])
	}
}

// ways is how those of a Mesh are: how many they are at most; under how many keys they write; how long it goes on; and
// how often, of 100 times, one is expelled, one makes a Step, and a frame comes.
type ways struct{ nodes, keys, long, expels, steps, comes int }

// name is who does something next, or to whom; there may be nobody of that name.
func (g *group) name(r *rand.Rand) id.Id {
	if r.IntN(20) == 0 {
		return "0999"
	}
	return g.m.Nodes[r.IntN(len(g.m.Nodes))].Id
}

// next is what is done next; some of it can't be.
func (g *group) next(r *rand.Rand, h ways) mesh.Op {
	o := mesh.Op{Who: g.name(r), Other: g.name(r), Key: r.IntN(h.keys), At: r.IntN(len(g.m.Bag) + 1), Spot: spot(r)}
	o.Text = "text" + strconv.Itoa(r.IntN(100))
	o.Zone, _ = zone.Parse(zones()[r.IntN(len(zones()))])
	if o.Other == o.Who {
		o.Other = g.name(r)
	}
	kinds := []int{mesh.Write, mesh.Write, mesh.Write, mesh.Delete, mesh.Delete, mesh.SetZone, mesh.Create, mesh.Create,
		mesh.Send, mesh.Send, mesh.Send, mesh.Send, mesh.Send, mesh.Send, mesh.Send, mesh.Drop, mesh.Double, mesh.Double, mesh.Retire, 11}
	switch op := r.IntN(100); {
	case op < h.expels:
		o.Kind = mesh.Expel
	case op < h.expels+h.steps:
		o.Kind = mesh.Gc
	case op < h.expels+h.steps+h.comes:
		o.Kind = mesh.Deliver
	default:
		o.Kind = kinds[r.IntN(len(kinds))]
	}
	if o.Kind == mesh.Create && len(g.m.Nodes) >= h.nodes {
		o.Kind = mesh.Send
	}
	return o
}

// meshes is what happened in some histories.
func meshes(t *testing.T, seeds int, h ways, watched bool) map[string]int {
	seen := map[string]int{}
	for seed := range uint64(seeds) {
		r := rand.New(rand.NewPCG(seed, 16))
		g := newGroup(t, 1+r.IntN(1+r.IntN(api.MaxBatch)), watched, seen)
		for range h.long {
			g.do(g.next(r, h))
		}
	}
	return seen
}

// Whatever is done: all Ids differ, and each knows just what it should.
func TestMeshes(t *testing.T) {
	t.Parallel()
	seen := meshes(t, 60, ways{nodes: 4, keys: 3, long: 300, steps: 15, comes: 30}, false)
	happened(t, seen, "whole", "in part", "kind 5, 5", "kind 5, 17", "kind 8, 0", "kind 10, 0", "kind 11, 1")
	seen = meshes(t, 60, ways{nodes: 5, keys: 3, long: 300, expels: 2, steps: 15, comes: 30}, false)
	happened(t, seen, "whole", "in part", "kind 5, 5", "kind 5, 16", "kind 5, 17", "kind 8, 0", "kind 9, 0")
}

// Likewise where more is sent than comes, so that there is no room any more.
func TestFullMeshes(t *testing.T) {
	t.Parallel()
	seen := meshes(t, 6, ways{nodes: 13, keys: 32, long: 500, comes: 10}, false)
	happened(t, seen, "in part", "kind 3, 18", "kind 4, 18", "kind 5, 0", "kind 7, 18")
}

func TestMemoryOfMeshes(t *testing.T) {
	t.Parallel()
	seen := meshes(t, 8, ways{nodes: 4, keys: 3, long: 200, expels: 1, steps: 15, comes: 30}, true)
	happened(t, seen, "whole", "in part", "kind 4, 4", "kind 5, 5", "kind 6, 11", "kind 8, 0", "kind 9, 0", "kind 10, 0", "kind 11, 1")
}
