package script_test

import (
	"math/rand/v2"
	"slices"
	"strings"
	"testing"

	"cenotaph/api"
	"cenotaph/bag"
	"cenotaph/frame"
	"cenotaph/id"
	"cenotaph/mesh"
	"cenotaph/node"
	"cenotaph/sample"
	"cenotaph/script"
	"cenotaph/zone"
)

func newMesh(most int) mesh.Mesh {
	m, _ := mesh.New(most)
	return m
}

// after is m when those lines were done, and nothing of it was wrong.
func after(t *testing.T, m mesh.Mesh, l ...string) mesh.Mesh {
	t.Helper()
	m, came := script.Run(m, l)
	if want := make([]api.Errno, len(l)); !slices.Equal(came, want) {
		t.Fatalf("%q: %v", l, came)
	}
	return m
}

// rich is a Mesh of five, of which one retired, with some frames under way.
func rich(t *testing.T) mesh.Mesh {
	t.Helper()
	return after(t, newMesh(3), "create 0", "create 0", "create 01", "create 02", "write 0 1 1 1 61", "zone 01 disc;0;0;2",
		"send 01 0", "deliver 0", "double 0", "deliver 0", "retire 021 02", "send 02 01", "send 011 0", "delete 0 1")
}

// same: is all in both Ops the same? Nil and empty lists are one.
func same(a, b mesh.Op) bool {
	switch {
	case a.Kind != b.Kind || a.Who != b.Who || a.Other != b.Other || a.Key != b.Key || a.At != b.At:
		return false
	}
	return a.Spot == b.Spot && a.Text == b.Text && slices.Equal(a.Zone, b.Zone)
}

// said is what four bytes say, by the chapter's words: to so many frames under way.
func said(names []id.Id, frames int, b [4]byte) mesh.Op {
	b2, b3 := int(b[2]), int(b[3])
	who, other := names[int(b[1])%len(names)], names[b2%len(names)]
	spot := func(n int) complex128 { return complex(float64(n%5-2), float64(n/5%5-2)) }
	at := 0
	if frames > 0 {
		at = frames - 1 - b3%frames
	}
	disc := zone.Step{Op: 2, At: spot(b2), Size: float64(b3 % 7)}
	zones := []zone.Zone{{{Op: 1}}, {disc}, {disc, {Op: 4}}, {{Op: 3, At: spot(b2), Size: float64(b3%5 - 2)}}}
	letter := "abcdefghijklmnopqrstuvwxyz"[b3%26:][:1]
	return []mesh.Op{
		{Kind: 0, Who: who, Key: b3 % 8, Spot: spot(b3), Text: []string{letter, letter + letter}[b2%2]},
		{Kind: 1, Who: who, Key: b3 % 8}, {Kind: 2, Who: who, Zone: zones[b3%4]}, {Kind: 3, Who: who}, {Kind: 4, Who: who, Other: other},
		{Kind: 5, At: at}, {Kind: 6, At: at}, {Kind: 7, At: at}, {Kind: 8, Who: who, Other: other}, {Kind: 9, Who: who, Other: other}, {Kind: 10, Who: who},
	}[int(b[0])%11]
}

// meshes is Meshes of one replica and of more, with no frame under way, some, and as many as there may be.
func meshes(t *testing.T) []mesh.Mesh {
	t.Helper()
	m := rich(t)
	full := m
	for len(full.Bag) < api.MaxBag {
		full = after(t, full, "double 0")
	}
	one := after(t, m, "drop 0", "drop 0")
	if len(m.Bag) != 3 || len(one.Bag) != 1 {
		t.Fatal(m.Bag, one.Bag)
	}
	twelve := newMesh(32)
	for _, s := range strings.Fields("0 0 01 02 02 011 0111 0 01111 0 0") {
		twelve = after(t, twelve, "create "+s)
	}
	return []mesh.Mesh{newMesh(1), m, full, one, twelve}
}

func namesOf(m mesh.Mesh) []id.Id {
	var l []id.Id
	for _, s := range m.Nodes {
		l = append(l, s.Id)
	}
	return l
}

// The chapter's example.
func TestExample(t *testing.T) {
	if s := script.Line(script.One(newMesh(1), [4]byte{0, 0, 0, 1})); s != "write 0 1 -1 -2 62" {
		t.Error(s)
	}
}

// Some of what bytes say, written out.
func TestOneInLines(t *testing.T) {
	m := rich(t)
	for _, c := range []struct {
		b    [4]byte
		want string
	}{
		{[4]byte{0, 0, 0, 0}, "write 0 0 -2 -2 61"}, {[4]byte{11, 1, 1, 12}, "write 01 4 0 0 6d6d"}, {[4]byte{253, 7, 254, 255}, "write 02 7 -2 -1 76"},
		{[4]byte{0, 4, 3, 25}, "write 021 1 -2 -2 7a7a"}, {[4]byte{0, 3, 2, 26}, "write 011 2 -1 -2 61"}, {[4]byte{0, 9, 2, 24}, "write 021 0 2 2 79"},
		{[4]byte{1, 2, 9, 15}, "delete 02 7"}, {[4]byte{12, 5, 9, 16}, "delete 0 0"},
		{[4]byte{2, 1, 9, 4}, "zone 01 all"}, {[4]byte{13, 1, 13, 5}, "zone 01 disc;1;0;5"}, {[4]byte{2, 1, 24, 6}, "zone 01 disc;2;2;6,not"},
		{[4]byte{2, 1, 25, 7}, "zone 01 half;-2;-2;0"}, {[4]byte{2, 0, 0, 33}, "zone 0 disc;-2;-2;5"}, {[4]byte{2, 0, 11, 19}, "zone 0 half;-1;0;2"},
		{[4]byte{3, 6, 1, 1}, "create 01"}, {[4]byte{4, 0, 1, 9}, "send 0 01"}, {[4]byte{15, 4, 4, 9}, "send 021 021"}, {[4]byte{4, 8, 255, 9}, "send 011 0"},
		{[4]byte{5, 1, 2, 0}, "deliver 2"}, {[4]byte{5, 1, 2, 1}, "deliver 1"}, {[4]byte{6, 1, 2, 2}, "drop 0"}, {[4]byte{7, 1, 2, 3}, "double 2"}, {[4]byte{7, 1, 2, 254}, "double 0"},
		{[4]byte{8, 1, 0, 3}, "retire 01 0"}, {[4]byte{19, 0, 1, 3}, "retire 0 01"}, {[4]byte{9, 0, 2, 3}, "expel 0 02"}, {[4]byte{10, 2, 1, 3}, "gc 02"}, {[4]byte{21, 2, 1, 3}, "gc 02"},
	} {
		if s := script.Line(script.One(m, c.b)); s != c.want {
			t.Errorf("%v: %q, not %q", c.b, s, c.want)
		}
	}
}

// All that b0 and b3 say, and some of what b1 and b2 do.
func TestOne(t *testing.T) {
	for i, m := range meshes(t) {
		names := namesOf(m)
		for n := range 256 * 256 {
			b := [4]byte{byte(n), byte(n*7 + n>>8), byte(n*11 + n>>5), byte(n >> 8)}
			if o, want := script.One(m, b), said(names, len(m.Bag), b); !same(o, want) {
				t.Fatalf("%d: %v say %v, not %v", i, b, o, want)
			}
		}
	}
	m := rich(t)
	for n := range 11 * 256 * 256 {
		b := [4]byte{byte(n % 11), byte(n / 11), byte(n / 11 >> 8), byte(n >> 3)}
		if o, want := script.One(m, b), said(namesOf(m), len(m.Bag), b); !same(o, want) {
			t.Fatalf("%v say %v, not %v", b, o, want)
		}
	}
}

// Where there is nobody, nothing is said.
func TestOneOfNoReplica(t *testing.T) {
	for _, m := range []mesh.Mesh{{}, {Nodes: []node.State{}, Most: 3}, {Bag: rich(t).Bag, Most: 3}} {
		for n := range 256 {
			if o := script.One(m, [4]byte{byte(n), byte(n * 3), byte(n * 5), byte(n * 7)}); !same(o, mesh.Op{}) {
				t.Fatalf("%d: %v", n, o)
			}
		}
	}
}

// played is what should come of the bytes: four by four, each to the Mesh that is then.
func played(m mesh.Mesh, b []byte) (mesh.Mesh, []api.Errno) {
	var all []api.Errno
	for i := 0; i+4 <= len(b); i += 4 {
		o := said(namesOf(m), len(m.Bag), [4]byte{b[i], b[i+1], b[i+2], b[i+3]})
		next, e := mesh.Do(m, o)
		m, all = next, append(all, e)
	}
	return m, all
}

// bytesOf is some bytes; few of their numbers are great, so that not all is far from what there is.
func bytesOf(r *rand.Rand, n int) []byte {
	var b []byte
	for range n {
		b = append(b, byte(r.IntN(1+r.IntN(256))))
	}
	return b
}

func TestPlay(t *testing.T) {
	for i, m := range meshes(t) {
		for seed := range uint64(20) {
			r := rand.New(rand.NewPCG(seed, 17))
			b := bytesOf(r, r.IntN(200))
			got, came := script.Play(m, b)
			want, errors := played(m, b)
			if !sample.SameMesh(got, want) || !slices.Equal(came, errors) || len(came) != len(b)/4 {
				t.Fatalf("%d, %d: %v\n%v\n%v", i, seed, came, got, want)
			}
		}
	}
}

// Who is named behind is there already for what comes next, and what is sent can come.
func TestPlayOfWhatIsThen(t *testing.T) {
	b := []byte{3, 0, 0, 0, 0, 1, 0, 7, 4, 0, 1, 0, 5, 0, 0, 0, 5, 0, 0, 0, 5, 0, 0, 0, 8, 1, 0, 0, 1, 1, 0, 7, 1, 0, 1, 7}
	m, came := script.Play(newMesh(4), b)
	want := []api.Errno{api.OK, api.OK, api.OK, api.OK, api.OK, api.ErrNone, api.OK, api.ErrState, api.OK}
	if !slices.Equal(came, want) || len(m.Nodes) != 2 || m.Nodes[1].How != node.Retired || m.Nodes[0].Seq != 1 || len(m.Bag) != 0 {
		t.Error(came, m)
	}
}

// Bytes behind the last four say nothing.
func TestPlayOfTooFew(t *testing.T) {
	m := rich(t)
	b := []byte{3, 0, 0, 0, 0, 0, 0, 1, 3, 0, 0, 0}
	for n := range len(b) + 1 {
		got, came := script.Play(m, b[:n])
		want, _ := script.Play(m, b[:n/4*4])
		if len(came) != n/4 || !sample.SameMesh(got, want) {
			t.Errorf("%d: %v", n, came)
		}
	}
	for _, b := range [][]byte{nil, {}, {3}, {3, 0, 0}} {
		if got, came := script.Play(m, b); len(came) != 0 || !sample.SameMesh(got, m) {
			t.Error(b, came)
		}
	}
}

// Where there is nobody, all bytes say a zero Op, and that can't be done.
func TestPlayOfNoReplica(t *testing.T) {
	m := mesh.Mesh{Bag: rich(t).Bag, Most: 3}
	got, came := script.Play(m, []byte{3, 0, 0, 0, 5, 0, 0, 0, 99})
	if !slices.Equal(came, []api.Errno{api.ErrId, api.ErrId}) || !sample.SameMesh(got, m) {
		t.Error(came, got)
	}
}

func TestRun(t *testing.T) {
	m := rich(t)
	lines := []string{"create 0", "create 0 ", "write 01 3 2 0 -", "", "gc 02", "gc 03", "gc 07", "gc 1", "send 02 02", "deliver 99", "Create 0", "delete 01 3", "mesh 3", "drop 2"}
	want := []api.Errno{api.OK, api.ErrWord, api.OK, api.ErrWord, api.OK, api.OK, api.ErrId, api.ErrWord, api.ErrArg, api.ErrNone, api.ErrWord, api.OK, api.ErrWord, api.OK}
	got, came := script.Run(m, lines)
	if !slices.Equal(came, want) {
		t.Error(came)
	}
	byHand := m
	for _, o := range []mesh.Op{{Kind: mesh.Create, Who: "0"}, {Kind: mesh.Write, Who: "01", Key: 3, Spot: 2}, {Kind: mesh.Gc, Who: "02"},
		{Kind: mesh.Gc, Who: "03"}, {Kind: mesh.Delete, Who: "01", Key: 3}, {Kind: mesh.Drop, At: 2}} {
		var e api.Errno
		if byHand, e = mesh.Do(byHand, o); e != api.OK {
			t.Fatal(o, e)
		}
	}
	if !sample.SameMesh(got, byHand) {
		t.Errorf("\n%v\n%v", got, byHand)
	}
	for n := range len(lines) + 1 {
		if _, came := script.Run(m, lines[:n]); !slices.Equal(came, want[:n]) {
			t.Errorf("%d: %v", n, came)
		}
	}
}

func TestRunOfNothing(t *testing.T) {
	m := rich(t)
	for _, l := range [][]string{nil, {}, {""}, {" ", "round", "check", "create"}} {
		want := slices.Repeat([]api.Errno{api.ErrWord}, len(l))
		if got, came := script.Run(m, l); !slices.Equal(came, want) || !sample.SameMesh(got, m) {
			t.Error(l, came)
		}
	}
	// two of one Id, too, come back each as it was
	m.Nodes = append(m.Nodes, m.Nodes[1])
	m.Nodes[5].Seq++
	if got, _ := script.Run(m, nil); !sample.SameMesh(got, m) {
		t.Error(got)
	}
	if got, _ := script.Play(m, nil); !sample.SameMesh(got, m) {
		t.Error(got)
	}
}

// What changes beside an error is kept: a frame that comes too late is gone.
func TestWhatComesBesideAnError(t *testing.T) {
	m := after(t, newMesh(32), "create 0", "create 0", "write 0 1 1 0 61", "send 02 0", "deliver 0", "deliver 0", "delete 0 1", "expel 0 02",
		"send 01 0", "deliver 0", "deliver 0", "send 01 0", "deliver 0", "deliver 0", "gc 0", "send 02 0", "deliver 0")
	for _, do := range []func() (mesh.Mesh, []api.Errno){
		func() (mesh.Mesh, []api.Errno) { return script.Run(m, []string{"deliver 0"}) },
		func() (mesh.Mesh, []api.Errno) { return script.Play(m, []byte{5, 0, 0, 0}) },
	} {
		got, came := do()
		if !slices.Equal(came, []api.Errno{api.ErrStale}) || len(got.Bag) != 0 || got.Nodes[2].How != node.Expelled {
			t.Error(came, got)
		}
	}
}

// Whatever bytes are played: what they say has a Line, and as lines does the same.
func TestBytesAsLines(t *testing.T) {
	for i, m := range meshes(t) {
		for seed := range uint64(20) {
			r := rand.New(rand.NewPCG(seed, 18))
			b := bytesOf(r, 4*r.IntN(60))
			var lines []string
			at := m
			for rest := b; len(rest) > 0; rest = rest[4:] {
				o := script.One(at, [4]byte(rest))
				s := script.Line(o)
				if back, e := script.Parse(s); s == "" || e != api.OK || !same(back, o) {
					t.Fatalf("%v has the Line %q", o, s)
				}
				lines = append(lines, s)
				at, _ = mesh.Do(at, o)
			}
			byBytes, came := script.Play(m, b)
			byLines, told := script.Run(m, lines)
			if !sample.SameMesh(byBytes, byLines) || !sample.SameMesh(byBytes, at) || !slices.Equal(came, told) {
				t.Fatalf("%d, %d: %q\n%v\n%v", i, seed, lines, came, told)
			}
		}
	}
}

// Of Meshes that can't be no more is promised than an end; where nothing is done all comes back as from the layer below.
func TestNoCallPanics(t *testing.T) {
	all := []mesh.Mesh{{}, {Most: -1, Bag: bag.Bag{nil, {3}}}, {Nodes: []node.State{{}, {}}, Most: 99}}
	for _, s := range sample.WrongStates(rich(t).Nodes[1]) {
		m := rich(t)
		m.Nodes = append(m.Nodes, s, s, node.Root())
		m.Bag = append(m.Bag, nil, []byte("no frame"), frame.Put(frame.Frame{Kind: frame.Stale, From: "0", To: "09"}))
		all = append(all, m)
	}
	for i, m := range all {
		want, _ := mesh.Do(m, mesh.Op{Kind: -1})
		if got, _ := script.Run(m, []string{"no line"}); !sample.SameMesh(got, want) {
			t.Errorf("%d: %v\n%v", i, want, got)
		}
		r := rand.New(rand.NewPCG(uint64(i), 19))
		script.Play(m, bytesOf(r, 400))
		for n := range 4 * 256 {
			o := script.One(m, [4]byte{byte(n), byte(n / 3), byte(n / 5), byte(n / 4)})
			script.Run(m, []string{script.Line(o)})
		}
	}
}
