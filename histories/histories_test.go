package histories

import (
	"math/rand/v2"
	"slices"
	"strconv"
	"testing"

	"cenotaph/api"
	"cenotaph/sample"
	"cenotaph/zone"
)

// habits is how those of a history are: how many come at most, under how many keys they write, how long it goes on,
// and how often, of 100 times, one is expelled, and one makes a Step.
type habits struct{ nodes, keys, long, expels, steps int }

// live is a history: its number tells all that is done.
func live(t *testing.T, seed uint64, h habits, watched bool) *world {
	r := rand.New(rand.NewPCG(seed, 14))
	w := newWorld(t)
	w.watched = watched
	for range h.long {
		w.act(r, h)
		w.check()
	}
	return w
}

// zones is what they want to read.
func zones() []string { return []string{"all", "disc 0 0 1", "half 1 0 0", "disc 0 0 2,not"} }

func spot(r *rand.Rand) complex128 { return complex(float64(r.IntN(5)-2), float64(r.IntN(5)-2)) }

// act is the next thing that is done.
func (w *world) act(r *rand.Rand, h habits) {
	i, k, key, most := r.IntN(len(w.all)), r.IntN(len(w.all)), r.IntN(h.keys), 1+r.IntN(api.MaxBatch)
	switch op := r.IntN(100); {
	case op < h.expels:
		w.expel(i, k)
		return
	case op < h.expels+h.steps:
		w.step(i)
		return
	}
	switch op := r.IntN(50); {
	case op < 8:
		w.write(i, key, spot(r), "text"+strconv.Itoa(r.IntN(100)))
	case op < 13:
		w.delete(i, key)
	case op < 16:
		if len(w.all) < h.nodes {
			w.child(i)
		}
	case op < 17:
		w.retire(i, k)
	case op < 20:
		z, _ := zone.Parse(zones()[r.IntN(len(zones()))])
		w.setZone(i, z)
	case op < 29:
		w.ask(i, k)
	case op < 36:
		w.meet(i, k, most/8+1)
	case len(w.way) == 0:
	case op < 37:
		w.lose(r.IntN(len(w.way)))
	default:
		w.deliver(r.IntN(len(w.way)), most/8+1, r.IntN(4) == 0)
	}
}

// lives is some histories of the same habits, and what happened in all of them.
func lives(t *testing.T, seeds int, h habits, watched bool) ([]*world, map[string]int) {
	var all []*world
	seen := map[string]int{}
	for seed := range uint64(seeds) {
		w := live(t, seed, h, watched)
		for what, n := range w.seen {
			seen[what] += n
		}
		all = append(all, w)
	}
	return all, seen
}

func happened(t *testing.T, seen map[string]int, all ...string) {
	t.Helper()
	for _, what := range all {
		if seen[what] == 0 {
			t.Errorf("%q is in none of the histories: %v", what, seen)
		}
	}
}

// Whatever is sent, lost, sent twice, or taken late: each has the newest of all that it knows.
func TestFrames(t *testing.T) {
	t.Parallel()
	_, seen := lives(t, 40, habits{nodes: 5, keys: 6, long: 200}, false)
	happened(t, seen, "whole", "in part", "withheld", "retired")
	_, seen = lives(t, 30, habits{nodes: 4, keys: 2, long: 200, expels: 1}, false)
	happened(t, seen, "whole", "in part", "withheld", "retired")
	if seen["old"]+seen["stale"]+seen["stale, and knew by then"] > 0 {
		t.Error("something is too late, though nobody let anything go", seen)
	}
}

// Likewise where they let go what nobody needs, also where one is expelled that doesn't know of it.
func TestSteps(t *testing.T) {
	t.Parallel()
	_, seen := lives(t, 80, habits{nodes: 4, keys: 3, long: 250, steps: 15}, false)
	happened(t, seen, "whole", "in part", "old", "stale, and knew by then", "retired", "tombs", "texts", "ids")
	_, seen = lives(t, 60, habits{nodes: 4, keys: 3, long: 250, steps: 20, expels: 3}, false)
	happened(t, seen, "whole", "in part", "old", "stale", "retired", "tombs", "texts", "ids")
}

func TestMemory(t *testing.T) {
	t.Parallel()
	_, seen := lives(t, 40, habits{nodes: 4, keys: 3, long: 250, steps: 20, expels: 3}, true)
	happened(t, seen, "whole", "in part", "old", "stale", "retired", "tombs", "texts", "ids")
}

// When nothing more is done, but that all ask one another, and let go what nobody needs, all come to the same.
func TestRest(t *testing.T) {
	t.Parallel()
	for _, h := range []habits{
		{nodes: 1, keys: 2, long: 30, steps: 10}, {nodes: 2, keys: 3, long: 100, steps: 10}, {nodes: 4, keys: 4, long: 200, steps: 10},
		{nodes: 7, keys: 8, long: 250}, {nodes: 12, keys: 32, long: 400, steps: 5},
	} {
		all, _ := lives(t, 12, h, false)
		for seed, w := range all {
			w.way = nil
			w.rest()
			if wrong := w.unrest(); wrong != "" {
				t.Errorf("history %d of %v: %s", seed, h, wrong)
			}
		}
	}
}

// rest is as many rounds as there may have to be. One that changes nothing is the last: so would be all behind it.
func (w *world) rest() {
	for range 2*len(w.all) + 8 {
		was := slices.Clone(w.all)
		w.round()
		w.check()
		if slices.EqualFunc(was, w.all, sample.Same) {
			return
		}
	}
}
