package histories

import (
	"math/rand/v2"
	"slices"
	"strconv"
	"testing"

	"cenotaph/api"
	"cenotaph/audit"
	"cenotaph/frame"
	"cenotaph/id"
	"cenotaph/item"
	"cenotaph/mesh"
	"cenotaph/node"
	"cenotaph/sample"
	"cenotaph/script"
)

// play: what four bytes say is done; played, and as a line, it does the same.
func (g *group) play(b [4]byte) {
	g.t.Helper()
	m, all, done := g.m, b[:], func(...any) {}
	lines := []string{script.Line(script.One(m, b))}
	if g.watched {
		m, all, lines = roomy(m), roomy(all), roomy(lines)
		done = handed(g.t, m, all, lines)
	}
	o := script.One(m, b)
	byBytes, came := script.Play(m, all)
	byLine, told := script.Run(m, lines)
	parsed, e := script.Parse(lines[0])
	// too few bytes, and a line that is none: nothing is done
	stays, _ := script.Play(m, all[:3])
	stands, _ := script.Run(m, []string{""})
	done(o, byBytes, came, byLine, told, parsed, stays, stands)
	g.expect(e, api.OK)
	want := []api.Errno{g.do(o)}
	if !sample.SameMesh(byBytes, g.m) || !sample.SameMesh(byLine, g.m) || !slices.Equal(came, want) || !slices.Equal(told, want) {
		g.t.Fatalf("%v as bytes: %v, %v; as the line %q: %v, %v; and not %v, %v", b, came, byBytes, lines[0], told, byLine, want, g.m)
	}
	g.audit()
}

// line: what that line says is done.
func (g *group) line(s string) api.Errno {
	g.t.Helper()
	o, e := script.Parse(s)
	g.expect(e, api.OK)
	e = g.do(o)
	g.audit()
	return e
}

// audit: of a Mesh that comes about in whatever way there is nothing to say, and what any Floor says all know, unless one
// was expelled by an order.
func (g *group) audit() {
	g.t.Helper()
	m, done := g.m, func(...any) {}
	if g.watched {
		m = roomy(m)
		done = handed(g.t, m)
	}
	word, floors, calm, newest := audit.Check(m), audit.Floors(m), audit.Calm(m), audit.Newest(m)
	done(newest)
	l, _ := g.live()
	switch {
	case word != "":
		g.t.Fatalf("%q: %v", word, m.Nodes)
	case !floors && !g.expels:
		g.t.Fatalf("not all know what a Floor says: %v", m.Nodes)
	case calm != (len(l) > 0 && g.unrest() == ""):
		g.t.Fatalf("Calm is %v: %v", calm, m.Nodes)
	case calm:
		g.seen["calm"]++
	}
	g.checkNewest(newest)
}

// checkNewest: of all that those who are Live know that is there which was written last, unless it is a deletion.
func (g *group) checkNewest(l []item.Item) {
	g.t.Helper()
	all := events{}
	for i, s := range g.all {
		for e := range g.known[i] {
			if s.How == node.Live {
				all[e] = true
			}
		}
	}
	want := g.newest(all)
	for i, x := range l {
		if x.Ver != want[x.Key].Ver && !(g.expels && want[x.Key].Dead) || i > 0 && l[i-1].Key >= x.Key {
			g.t.Fatalf("%v, and not %v", l, want[x.Key])
		}
		delete(want, x.Key)
	}
	for _, x := range want {
		if !x.Dead {
			g.t.Fatalf("%v lacks in %v", x, l)
		}
	}
}

// asks: one asks another one, and takes the answer at once. Is no more to be had from that one?
func (g *group) asks(a, b id.Id) bool {
	g.t.Helper()
	g.expect(g.line("send "+string(a)+" "+string(b)), api.OK)
	g.expect(g.line("deliver "+strconv.Itoa(len(g.way)-1)), api.OK)
	d := g.way[len(g.way)-1].f
	e := g.line("deliver " + strconv.Itoa(len(g.way)-1))
	if e != api.OK && !g.expels {
		g.t.Fatalf("%q refuses what %q sends: %d", a, b, e)
	}
	return e != api.OK || d.Whole || d.Kind == frame.Stale
}

// lives: is it Live?
func (g *group) lives(a id.Id) bool { return g.all[g.place(a)].How == node.Live }

// turn: all that are Live ask one another, and let go what nobody needs any more.
func (g *group) turn() {
	g.t.Helper()
	names := mesh.Live(g.m)
	for _, a := range names {
		for _, b := range names {
			for range 4 {
				if a == b || !g.lives(a) || !g.lives(b) || g.asks(a, b) {
					break
				}
			}
		}
	}
	for _, a := range names {
		g.expect(g.line("gc "+string(a)), api.OK)
	}
}

// settle: nothing more is done, but that they take turns, so many as there may have to be. What is under way is lost.
func (g *group) settle() {
	g.t.Helper()
	for len(g.way) > 0 {
		g.expect(g.line("drop 0"), api.OK)
	}
	for range 2*len(g.all) + 8 {
		was := g.m
		if g.turn(); sample.SameMesh(was, g.m) {
			break
		}
	}
	if !audit.Calm(g.m) || g.unrest() != "" {
		g.t.Fatalf("%s: %v", g.unrest(), g.m.Nodes)
	}
}

// The Kinds of what is done, the more often one stands there, the more often; without Expel, and with it.
func fewKinds() []byte {
	return slices.Concat([]byte{mesh.Create, mesh.Retire, mesh.SetZone, mesh.Drop, mesh.Double, mesh.Double}, slices.Repeat([]byte{mesh.Send, mesh.Deliver}, 8),
		slices.Repeat([]byte{mesh.Write, mesh.Delete}, 3), slices.Repeat([]byte{mesh.Gc}, 4))
}

func allKinds() []byte { return append(slices.Repeat(fewKinds(), 2), mesh.Expel) }

// scripts is some scripts, each as long as that, that do something of those Kinds to a Mesh of so many at most.
func scripts(t *testing.T, seeds, nodes, long int, kinds []byte, watched bool) ([]*group, map[string]int) {
	var all []*group
	seen := map[string]int{}
	for seed := range uint64(seeds) {
		r := rand.New(rand.NewPCG(seed, 17))
		g := newGroup(t, []int{1, 2, api.MaxBatch}[seed%3], watched, seen)
		for range long {
			b := [4]byte{kinds[r.IntN(len(kinds))] + 11*byte(r.IntN(23)), byte(r.IntN(256)), byte(r.IntN(256)), byte(r.IntN(256))}
			if b[0]%11 != mesh.Create || len(g.all) < nodes {
				g.play(b)
			}
		}
		all = append(all, g)
	}
	return all, seen
}

// Whatever the script: each knows just what it should, reads the newest of it, and nothing that was deleted comes back.
func TestScripts(t *testing.T) {
	t.Parallel()
	_, seen := scripts(t, 30, 4, 400, fewKinds(), false)
	happened(t, seen, "whole", "in part", "old", "stale, and knew by then", "retired", "tombs", "texts", "ids", "calm")
	if seen["stale"] > 0 {
		t.Error("somebody is refused, though nobody was expelled by an order")
	}
}

// Likewise where some are expelled by an order.
func TestScriptsWithOrders(t *testing.T) {
	t.Parallel()
	_, seen := scripts(t, 30, 4, 400, allKinds(), false)
	happened(t, seen, "whole", "in part", "old", "stale", "retired", "tombs", "texts", "ids", "calm", "kind 9, 0")
}

// Any bytes are a script.
func TestAnyBytes(t *testing.T) {
	t.Parallel()
	for seed := range uint64(15) {
		r := rand.New(rand.NewPCG(seed, 18))
		g := newGroup(t, 1+r.IntN(api.MaxBatch), false, map[string]int{})
		for range 250 {
			g.play([4]byte{byte(r.IntN(256)), byte(r.IntN(256)), byte(r.IntN(256)), byte(r.IntN(256))})
		}
	}
}

// When nothing more is done, but that all ask one another, and let go what nobody needs, all come to the same.
func TestRestOfScripts(t *testing.T) {
	t.Parallel()
	for _, h := range []struct{ nodes, long int }{{1, 40}, {2, 150}, {4, 300}, {7, 300}} {
		all, _ := scripts(t, 9, h.nodes, h.long, fewKinds(), false)
		for _, g := range all {
			g.m.Most = api.MaxBatch
			g.settle()
		}
	}
}

func TestMemoryOfScripts(t *testing.T) {
	t.Parallel()
	_, seen := scripts(t, 4, 3, 200, allKinds(), true)
	happened(t, seen, "whole", "in part", "retired", "tombs", "texts", "ids")
}
