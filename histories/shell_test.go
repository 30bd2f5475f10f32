package histories

import (
	"fmt"
	"math/rand/v2"
	"strings"
	"testing"

	"cenotaph/api"
	"cenotaph/audit"
	"cenotaph/frame"
	"cenotaph/id"
	"cenotaph/item"
	"cenotaph/mesh"
	"cenotaph/node"
	"cenotaph/script"
	"cenotaph/shell"
)

// talk is a Shell, and beside it a group to which the same is done; all lines that there were, and what came of them; and
// those of them that did something.
type talk struct {
	*group
	s                  *shell.Shell
	lines, came, acted []string
}

func newTalk(t *testing.T, seen map[string]int) *talk {
	return &talk{group: newGroup(t, api.MaxBatch, false, seen), s: shell.New()}
}

// says: to that line there comes that reply.
func (w *talk) says(line, want string) {
	w.t.Helper()
	got := w.s.Do(line)
	w.lines, w.came = append(w.lines, line), append(w.came, got)
	if got != want {
		w.t.Fatalf("%q: %q, not %q; behind %q", line, got, want, w.acted)
	}
}

// wordOf is an error's word.
func wordOf(e api.Errno) string {
	return strings.Fields("ok argument short form id state key text spot zone sequence none hidden pending root held stale old full known word")[e]
}

// acts: a line that does something is done, by the group, too.
func (w *talk) acts(line string) {
	w.t.Helper()
	var most int
	o, e := script.Parse(line)
	fmt.Sscanf(line, "mesh %d", &most)
	isMesh := line == fmt.Sprintf("mesh %d", most)
	want := "what"
	switch {
	case e == api.OK:
		e = w.do(o)
		w.audit()
		want = wordOf(e)
	case line == "round":
		w.round()
		want = "ok"
	case isMesh && (most < 1 || most > api.MaxBatch):
		want = "argument"
	case isMesh:
		w.group = newGroup(w.t, most, false, w.seen)
		want = "ok"
	}
	w.seen[strings.Fields(line + " -")[0]+": "+want]++
	w.acted = append(w.acted, line)
	w.says(line, want)
}

// round: the group takes a turn, while what is under way stays there.
func (w *talk) round() {
	w.t.Helper()
	was, way := w.m, w.way
	w.m.Bag, w.m.Most, w.way = nil, api.MaxBatch, nil
	w.turn()
	w.m.Bag, w.m.Most, w.way = was.Bag, was.Most, way
}

// joined is what is told of some, or none.
func joined(l []string) string {
	if len(l) == 0 {
		return "none"
	}
	return strings.Join(l, ";")
}

func toldItems(items []item.Item) string {
	var l []string
	for _, x := range items {
		how := map[bool]string{true: "held", false: "stub"}[x.Held]
		if x.Dead {
			how = "dead"
		}
		l = append(l, fmt.Sprintf("%d %d %s %s", x.Key, x.Ver.Stamp, x.Ver.Id, how))
	}
	return joined(l)
}

// tells: to all lines that change nothing there comes what the group is.
func (w *talk) tells(keys int) {
	w.t.Helper()
	var who, under []string
	for _, s := range w.all {
		who = append(who, fmt.Sprintf("%s %s", s.Id, []string{"live", "retired", "expelled"}[s.How]))
		w.tellsOf(s, keys)
	}
	for _, l := range w.way {
		kind := map[int]string{frame.Ask: "ask", frame.Data: "data", frame.Stale: "stale"}[l.f.Kind]
		under = append(under, fmt.Sprintf("%s %s %s", kind, l.f.From, l.f.To))
	}
	calm := map[bool]string{true: "yes", false: "no"}[audit.Calm(w.m)]
	w.says("who", joined(who))
	w.says("bag", joined(under))
	w.says("newest", toldItems(audit.Newest(w.m)))
	w.says("check", "ok")
	w.says("calm", calm)
}

// tellsOf: likewise as to one replica.
func (w *talk) tellsOf(s node.State, keys int) {
	w.t.Helper()
	var knows, floor []string
	for _, x := range node.All(s) {
		row := fmt.Sprintf("%s %d", x.Id, x.Span.Upto)
		for _, n := range x.Span.Extra {
			row += fmt.Sprintf(" +%d", n)
			w.seen["extra"]++
		}
		knows = append(knows, row)
	}
	for _, x := range s.Floor {
		floor = append(floor, fmt.Sprintf("%s %d", x.Id, x.N))
	}
	w.says("has "+string(s.Id), toldItems(s.Store))
	w.says("knows "+string(s.Id), joined(knows))
	w.says("floor "+string(s.Id), joined(floor))
	for key := range keys + 1 {
		if key == keys {
			key = api.MaxKeys
		}
		text, e := node.Read(s, key)
		want := wordOf(e)
		if e == api.OK {
			want = fmt.Sprintf("text %x", text)
		}
		w.says(fmt.Sprintf("read %s %d", s.Id, key), want)
	}
}

// nextLine is what is said next; some of it is no line, or can't be done.
func (w *talk) nextLine(r *rand.Rand, h ways) string {
	switch r.IntN(100) {
	case 0:
		return "round"
	case 1:
		return []string{"", "who ", "mesh 01", "mesh", "read 0", "deliver -1", "create", "Round", "gc 9", "write 0 0 0 0 6", "has 0 "}[r.IntN(11)]
	case 2:
		return fmt.Sprintf("mesh %d", []int{0, 33, 1000000}[r.IntN(3)])
	case 3:
		if r.IntN(4) == 0 {
			return fmt.Sprintf("mesh %d", 1+r.IntN(3)*r.IntN(16))
		}
	}
	return script.Line(w.next(r, h))
}

// talks is some talks of the same ways, and what happened in all of them.
func talks(t *testing.T, seeds int, h ways) ([]*talk, map[string]int) {
	var all []*talk
	seen := map[string]int{}
	for seed := range uint64(seeds) {
		r := rand.New(rand.NewPCG(seed, 19))
		w := newTalk(t, seen)
		w.acts(fmt.Sprintf("mesh %d", []int{1, 2, 32}[seed%3]))
		for range h.long {
			w.acts(w.nextLine(r, h))
			w.tells(h.keys)
			if a := w.name(r); w.place(a) < 0 {
				w.says("has "+string(a), "id")
				w.says("knows "+string(a), "id")
				w.says("floor "+string(a), "id")
				w.says("read "+string(a)+" 32", "id")
			}
		}
		all = append(all, w)
	}
	return all, seen
}

// Whatever lines there are, they do what the layers below do, and tell what is there then.
func TestTalks(t *testing.T) {
	t.Parallel()
	_, seen := talks(t, 20, ways{nodes: 6, keys: 5, long: 250, steps: 8, comes: 25})
	happened(t, seen, "whole", "in part", "extra", "retired", "tombs", "texts", "calm", "round: ok", "mesh: ok", "mesh: argument", "mesh: what", "-: what",
		"deliver: ok", "deliver: none", "deliver: state", "write: ok", "write: zone", "write: state", "write: id", "delete: none", "zone: root", "send: state", "retire: root")
	_, seen = talks(t, 20, ways{nodes: 6, keys: 3, long: 200, expels: 2, steps: 15, comes: 20})
	happened(t, seen, "whole", "in part", "extra", "retired", "tombs", "texts", "calm", "round: ok", "expel: ok", "expel: known", "expel: root")
}

// A new Shell to which the same lines are said replies the same.
func TestTalksAgain(t *testing.T) {
	t.Parallel()
	all, _ := talks(t, 4, ways{nodes: 4, keys: 2, long: 120, expels: 1, steps: 10, comes: 25})
	for _, w := range all {
		for i, got := range shell.Lines(w.lines) {
			if got != w.came[i] {
				t.Fatalf("%q: %q, not %q", w.lines[i], got, w.came[i])
			}
		}
	}
}

// rests: so many rounds are made as there may have to be; all is calm then, unless one was expelled by an order.
func rests(t *testing.T, s *shell.Shell, expels bool, lines []string) {
	t.Helper()
	for range 2*len(names(s)) + 8 {
		s.Do("round")
	}
	if word, calm := s.Do("check"), s.Do("calm"); word != "ok" || calm != "yes" && !expels {
		t.Fatalf("%q, calm: %q, behind %q", word, calm, lines)
	}
}

// Behind so many rounds as there may have to be all is calm.
func TestRestOfTalks(t *testing.T) {
	t.Parallel()
	all, _ := talks(t, 6, ways{nodes: 5, keys: 4, long: 150, steps: 5, comes: 30})
	for _, w := range all {
		for range 2*len(w.all) + 8 {
			w.acts("round")
		}
		w.tells(4)
		if w.says("calm", "yes"); w.unrest() != "" {
			t.Errorf("%s, behind %q", w.unrest(), w.acted)
		}
	}
}

// lineOf is a line about those replicas, of whatever kind, also one that can't be done.
func lineOf(r *rand.Rand, names []id.Id, kinds []byte) string {
	a, b := names[r.IntN(len(names))], names[r.IntN(len(names))]
	switch kind := int(kinds[r.IntN(len(kinds))]); kind {
	case mesh.Write:
		z := spot(r)
		return fmt.Sprintf("write %s %d %d %d %x", a, r.IntN(34), int(real(z)), int(imag(z)), 'a'+r.IntN(26))
	case mesh.Delete:
		return fmt.Sprintf("delete %s %d", a, r.IntN(33))
	case mesh.SetZone:
		return fmt.Sprintf("zone %s %s", a, strings.ReplaceAll(zones()[r.IntN(4)], " ", ";"))
	case mesh.Deliver, mesh.Drop, mesh.Double:
		return fmt.Sprintf("%s %d", []string{"deliver", "drop", "double"}[kind-mesh.Deliver], r.IntN(64)>>r.IntN(7))
	default:
		return strings.TrimSpace(fmt.Sprintf("%s %s %s", []string{mesh.Create: "create", mesh.Send: "send", mesh.Retire: "retire", mesh.Expel: "expel", mesh.Gc: "gc"}[kind],
			a, map[bool]id.Id{true: b}[kind == mesh.Send || kind == mesh.Retire || kind == mesh.Expel]))
	}
}

// names is who there is in a Shell.
func names(s *shell.Shell) []id.Id {
	var l []id.Id
	for _, x := range strings.Split(s.Do("who"), ";") {
		l = append(l, id.Id(strings.Fields(x)[0]))
	}
	return l
}

// Whatever lines there were: there is nothing wrong, and behind so many rounds all is calm.
func TestRestOfLines(t *testing.T) {
	t.Parallel()
	seen := map[string]int{}
	for seed := range uint64(50) {
		r := rand.New(rand.NewPCG(seed, 20))
		s, expels := shell.New(), false
		lines := []string{fmt.Sprintf("mesh %d", []int{1, 2, 5, 32}[seed%4])}
		s.Do(lines[0])
		kinds := append(fewKinds(), []byte{mesh.Create, mesh.SetZone, mesh.Delete}[seed%3])
		if seed%5 == 4 {
			kinds = allKinds()
		}
		for range 50 + r.IntN(600) {
			line := lineOf(r, names(s), kinds)
			if r.IntN(100) == 0 {
				line = "round"
			}
			lines = append(lines, line)
			reply := s.Do(line)
			kind := strings.Fields(line)[0]
			expels = expels || kind == "expel" && reply == "ok"
			seen[kind+": "+reply]++
			if word := s.Do("check"); word != "ok" {
				t.Fatalf("%q: %q", lines, word)
			}
		}
		seen[fmt.Sprintf("%d replicas", len(names(s)))]++
		rests(t, s, expels, lines)
	}
	happened(t, seen, "write: ok", "write: key", "delete: ok", "deliver: ok", "deliver: none", "deliver: old", "deliver: state", "send: argument",
		"create: full", "retire: ok", "expel: ok", "gc: ok", "round: ok", "12 replicas", "3 replicas")
}
