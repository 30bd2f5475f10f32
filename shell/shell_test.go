package shell_test

import (
	"slices"
	"strconv"
	"strings"
	"testing"

	"cenotaph/api"
	"cenotaph/script"
	"cenotaph/shell"
)

// talk is lines, each behind a > and with its reply behind it, that are said to one Shell from its beginning on.
func talk(t *testing.T, text string) *shell.Shell {
	t.Helper()
	s := shell.New()
	for i, row := range strings.Split(strings.TrimSpace(text), "\n") {
		line, want, _ := strings.Cut(strings.TrimSpace(row), " > ")
		if got := s.Do(line); got != want {
			t.Errorf("row %d, %q: %q, not %q", i+1, line, got, want)
		}
	}
	return s
}

// after is a Shell to which those lines, of which each one is done, were said.
func after(t *testing.T, lines ...string) *shell.Shell {
	t.Helper()
	s := shell.New()
	for _, line := range lines {
		if got := s.Do(line); got != "ok" {
			t.Fatalf("%q: %q", line, got)
		}
	}
	return s
}

// replies is what s replies to all lines that change nothing.
func replies(s *shell.Shell) []string {
	var l []string
	for _, line := range []string{"who", "bag", "newest", "check", "calm"} {
		l = append(l, s.Do(line))
	}
	for _, a := range strings.Split(s.Do("who"), ";") {
		a, _, _ = strings.Cut(a, " ")
		l = append(l, s.Do("has "+a), s.Do("knows "+a), s.Do("floor "+a))
		for key := range 33 {
			l = append(l, s.Do("read "+a+" "+strconv.Itoa(key)))
		}
	}
	return l
}

// The chapter's example.
func TestExample(t *testing.T) {
	talk(t, `
		create 0 > ok
		write 0 3 1 2 6869 > ok
		send 01 0 > ok
		deliver 0 > ok
		deliver 0 > ok
		read 01 3 > text 6869
	`)
}

func TestNew(t *testing.T) {
	talk(t, `
		who > 0 live
		bag > none
		newest > none
		check > ok
		calm > yes
		has 0 > none
		knows 0 > none
		floor 0 > none
		read 0 0 > none
		read 0 31 > none
		read 0 32 > key
		has 01 > id
		round > ok
		calm > yes
	`)
}

// A new one's answers have 32 items at most: all keys come at once. Another one's have as many as was said.
func TestMost(t *testing.T) {
	for _, c := range []struct {
		most  string
		items int
	}{{"", 32}, {"mesh 32", 32}, {"mesh 31", 31}, {"mesh 1", 1}, {"mesh 2", 2}} {
		s := shell.New()
		s.Do(c.most)
		s.Do("create 0")
		for key := range 32 {
			s.Do("write 0 " + strconv.Itoa(key) + " 0 0 61")
		}
		for _, line := range []string{"send 01 0", "deliver 0", "deliver 0"} {
			s.Do(line)
		}
		if n := strings.Count(s.Do("has 01"), "held"); n != c.items {
			t.Errorf("%q: %d items", c.most, n)
		}
	}
}

func TestMesh(t *testing.T) {
	talk(t, `
		create 0 > ok
		write 0 3 1 2 6869 > ok
		send 01 0 > ok
		mesh 0 > argument
		mesh 33 > argument
		mesh 1000000 > argument
		who > 0 live;01 live
		bag > ask 01 0
		read 0 3 > text 6869
		mesh 32 > ok
		who > 0 live
		bag > none
		read 0 3 > none
		read 01 3 > id
		knows 0 > none
		create 0 > ok
		who > 0 live;01 live
		mesh 1 > ok
		who > 0 live
	`)
}

func TestWho(t *testing.T) {
	talk(t, `
		create 0 > ok
		create 01 > ok
		create 0 > ok
		create 011 > ok
		who > 0 live;01 live;011 live;02 live;0111 live
		retire 011 02 > ok
		who > 0 live;01 live;011 retired;02 live;0111 live
		expel 0 0111 > id
		expel 0 01 > ok
		who > 0 live;01 live;011 retired;02 live;0111 live
		send 0 01 > ok
		deliver 0 > ok
		who > 0 live;01 retired;011 retired;02 live;0111 live
	`)
}

// Who was expelled by an order, and knows less than what was let go without it, is told so.
func TestExpelled(t *testing.T) {
	talk(t, `
		create 0 > ok
		expel 0 01 > ok
		expel 0 01 > known
		write 0 7 1 1 61 > ok
		delete 0 7 > ok
		gc 0 > ok
		floor 0 > 0 2
		floor 01 > none
		send 01 0 > ok
		deliver 0 > ok
		bag > stale 0 01
		double 0 > ok
		drop 0 > ok
		bag > stale 0 01
		deliver 0 > stale
		bag > none
		who > 0 live;01 expelled
		read 01 7 > state
		write 01 7 0 0 61 > state
		send 01 0 > state
		round > ok
		who > 0 live;01 expelled
		calm > yes
		check > ok
	`)
}

// Of what is asked of a replica that isn't Live Read alone says so.
func TestRetired(t *testing.T) {
	talk(t, `
		create 0 > ok
		write 01 5 1 0 6f > ok
		write 01 6 1 0 - > ok
		delete 01 5 > ok
		retire 01 0 > ok
		who > 0 live;01 retired
		read 01 6 > state
		read 01 32 > state
		has 01 > 5 3 01 dead;6 2 01 held
		knows 01 > 01 3
		floor 01 > none
		has 0 > 5 3 01 dead;6 2 01 held
		knows 0 > 01 3
		newest > 5 3 01 dead;6 2 01 held
		calm > no
		round > ok
		calm > yes
		has 0 > 6 2 01 held
		knows 0 > 01 3
		floor 0 > 01 3
		has 01 > 5 3 01 dead;6 2 01 held
		newest > 6 2 01 held
	`)
}

func TestRead(t *testing.T) {
	talk(t, `
		create 0 > ok
		zone 01 half;1;0;0 > ok
		write 0 0 -1 0 6162 > ok
		write 0 1 0 0 00ff0a7f80 > ok
		write 0 2 1 0 - > ok
		write 0 31 1000 -1000 30313233343536373839616263646566 > ok
		read 0 0 > text 6162
		read 0 1 > text 00ff0a7f80
		read 0 2 > text -
		read 0 3 > none
		read 0 31 > text 30313233343536373839616263646566
		read 0 32 > key
		read 0 1000000 > key
		read 01 0 > none
		read 01 32 > key
		read 02 0 > id
		read 02 32 > id
		send 01 0 > ok
		deliver 0 > ok
		deliver 0 > ok
		read 01 0 > hidden
		read 01 1 > text 00ff0a7f80
		read 01 2 > text -
		zone 01 all > ok
		read 01 0 > pending
		delete 01 0 > ok
		read 01 0 > none
		delete 0 2 > ok
		read 0 2 > none
		read 01 2 > text -
	`)
}

func TestHas(t *testing.T) {
	talk(t, `
		create 0 > ok
		create 0 > ok
		zone 02 disc;0;0;1 > ok
		write 0 9 5 5 61 > ok
		write 0 31 0 0 62 > ok
		write 01 0 0 1 63 > ok
		write 01 0 0 1 64 > ok
		write 01 10 0 1 65 > ok
		delete 01 10 > ok
		has 0 > 9 1 0 held;31 2 0 held
		has 01 > 0 2 01 held;10 4 01 dead
		has 02 > none
		send 02 0 > ok
		send 02 01 > ok
		deliver 0 > ok
		deliver 0 > ok
		deliver 0 > ok
		deliver 0 > ok
		has 02 > 0 2 01 held;9 1 0 stub;10 4 01 dead;31 2 0 held
		newest > 0 2 01 held;9 1 0 held;10 4 01 dead;31 2 0 held
		retire 01 02 > ok
		write 02 9 0 0 66 > ok
		newest > 0 2 01 held;9 5 02 held;10 4 01 dead;31 2 0 held
	`)
}

func TestKnows(t *testing.T) {
	talk(t, `
		mesh 1 > ok
		create 0 > ok
		write 0 3 0 0 61 > ok
		write 0 4 0 0 61 > ok
		write 0 3 0 0 62 > ok
		write 0 5 0 0 62 > ok
		write 0 4 0 0 62 > ok
		write 0 6 0 0 62 > ok
		knows 0 > 0 6
		knows 01 > none
		send 01 0 > ok
		deliver 0 > ok
		deliver 0 > ok
		has 01 > 3 3 0 held
		knows 01 > 0 0 +3
		write 01 7 0 0 63 > ok
		knows 01 > 0 0 +3;01 1
		send 01 0 > ok
		deliver 0 > ok
		deliver 0 > ok
		knows 01 > 0 0 +3 +4;01 1
		write 0 5 0 0 63 > ok
		send 01 0 > ok
		deliver 0 > ok
		deliver 0 > ok
		knows 01 > 0 0 +3 +4 +5;01 1
		send 01 0 > ok
		deliver 0 > ok
		deliver 0 > ok
		knows 01 > 0 0 +3 +4 +5 +6;01 1
		calm > no
		send 01 0 > ok
		deliver 0 > ok
		deliver 0 > ok
		knows 01 > 0 7;01 1
		knows 0 > 0 7
	`)
}

// Of one whose Row was left out is told as of all others.
func TestKnowsOfOneLeftOut(t *testing.T) {
	talk(t, `
		create 0 > ok
		create 0 > ok
		write 01 3 0 0 61 > ok
		write 02 4 0 0 61 > ok
		write 0 5 0 0 61 > ok
		retire 01 02 > ok
		knows 02 > 01 1;02 1
		round > ok
		round > ok
		round > ok
		calm > yes
		knows 0 > 0 1;01 1;02 1
		knows 02 > 0 1;01 1;02 1
		has 02 > 3 1 01 held;4 1 02 held;5 1 0 held
	`)
}

func TestFloor(t *testing.T) {
	talk(t, `
		create 0 > ok
		create 0 > ok
		write 0 3 0 0 61 > ok
		write 0 4 0 0 61 > ok
		delete 0 3 > ok
		write 02 5 0 0 61 > ok
		delete 02 5 > ok
		floor 0 > none
		round > ok
		floor 0 > 02 2
		floor 01 > 0 3;02 2
		floor 02 > 0 3;02 2
		round > ok
		floor 0 > 0 3;02 2
		floor 01 > 0 3;02 2
		floor 02 > 0 3;02 2
		has 0 > 4 2 0 held
		calm > yes
	`)
}

func TestBag(t *testing.T) {
	talk(t, `
		bag > none
		create 0 > ok
		create 0 > ok
		send 01 0 > ok
		send 02 01 > ok
		send 0 02 > ok
		bag > ask 01 0;ask 02 01;ask 0 02
		double 1 > ok
		bag > ask 01 0;ask 02 01;ask 0 02;ask 02 01
		deliver 1 > ok
		bag > ask 01 0;ask 0 02;ask 02 01;data 01 02
		drop 2 > ok
		bag > ask 01 0;ask 0 02;data 01 02
		deliver 3 > none
		drop 3 > none
		double 3 > none
		bag > ask 01 0;ask 0 02;data 01 02
		deliver 2 > ok
		retire 02 0 > ok
		deliver 1 > state
		bag > ask 01 0
		deliver 0 > ok
		bag > data 0 01
		deliver 0 > ok
		bag > none
	`)
}

// Of one version one that is Held is told; of who isn't Live nothing.
func TestNewest(t *testing.T) {
	talk(t, `
		create 0 > ok
		create 0 > ok
		zone 01 disc;0;0;1 > ok
		write 02 8 9 9 61 > ok
		send 01 02 > ok
		deliver 0 > ok
		deliver 0 > ok
		has 01 > 8 1 02 stub
		newest > 8 1 02 held
		write 0 8 0 0 61 > ok
		newest > 8 1 02 held
		write 0 8 0 0 61 > ok
		newest > 8 2 0 held
		write 01 8 0 0 61 > ok
		newest > 8 2 01 held
		delete 02 8 > ok
		newest > 8 2 02 dead
		retire 02 01 > ok
		newest > 8 2 02 dead
		round > ok
		round > ok
		round > ok
		calm > yes
		newest > none
	`)
}

func TestCalm(t *testing.T) {
	talk(t, `
		create 0 > ok
		calm > yes
		write 0 1 0 0 61 > ok
		calm > no
		send 01 0 > ok
		calm > no
		deliver 0 > ok
		deliver 0 > ok
		calm > yes
		zone 01 disc;9;9;0 > ok
		calm > yes
		write 0 1 5 5 62 > ok
		send 01 0 > ok
		deliver 0 > ok
		deliver 0 > ok
		calm > yes
		zone 01 all > ok
		calm > no
		round > ok
		calm > yes
		delete 0 1 > ok
		round > ok
		calm > no
	`)
}

// In a round nothing goes through the bag, and an answer has 32 items at most, whatever Most is.
func TestRound(t *testing.T) {
	talk(t, `
		mesh 1 > ok
		create 0 > ok
		write 0 1 0 0 61 > ok
		write 0 2 0 0 62 > ok
		write 0 3 0 0 63 > ok
		write 0 4 0 0 64 > ok
		write 0 5 0 0 65 > ok
		write 01 6 0 0 66 > ok
		write 01 7 0 0 67 > ok
		write 01 8 0 0 68 > ok
		write 01 9 0 0 69 > ok
		write 01 10 0 0 6a > ok
		send 0 01 > ok
		bag > ask 0 01
		round > ok
		bag > ask 0 01
		has 0 > 1 1 0 held;2 2 0 held;3 3 0 held;4 4 0 held;5 5 0 held;6 1 01 held;7 2 01 held;8 3 01 held;9 4 01 held;10 5 01 held
		has 01 > 1 1 0 held;2 2 0 held;3 3 0 held;4 4 0 held;5 5 0 held;6 1 01 held;7 2 01 held;8 3 01 held;9 4 01 held;10 5 01 held
		calm > yes
		deliver 0 > ok
		deliver 0 > ok
		bag > none
		calm > yes
	`)
}

// Who asks is the outer one, both in the order in which they came: so the root hears of all, and tells the others.
func TestOrderOfARound(t *testing.T) {
	talk(t, `
		create 0 > ok
		create 01 > ok
		create 0 > ok
		who > 0 live;01 live;011 live;02 live
		zone 01 half;1;0;0 > ok
		zone 011 half;1;0;0 > ok
		write 02 1 -1 0 61 > ok
		send 01 02 > ok
		deliver 0 > ok
		deliver 0 > ok
		has 01 > 1 1 02 stub
		zone 01 all > ok
		round > ok
		has 0 > 1 1 02 held
		has 01 > 1 1 02 held
		has 011 > 1 1 02 stub
		calm > yes
	`)
}

// Who isn't Live neither asks nor answers.
func TestRoundWithoutThoseThatWent(t *testing.T) {
	talk(t, `
		create 0 > ok
		create 0 > ok
		write 01 1 0 0 61 > ok
		retire 01 02 > ok
		write 02 2 0 0 62 > ok
		has 01 > 1 1 01 held
		round > ok
		has 0 > 1 1 01 held;2 2 02 held
		has 01 > 1 1 01 held
		knows 01 > 01 1
		who > 0 live;01 retired;02 live
		mesh 5 > ok
		create 0 > ok
		write 01 1 0 0 61 > ok
		expel 0 01 > ok
		round > ok
		who > 0 live;01 retired
		has 0 > 1 1 01 held
		has 01 > 1 1 01 held
		calm > yes
	`)
}

// What errors there may be of lines.
func TestErrors(t *testing.T) {
	pair := []string{"create 0", "create 0"}
	narrow := []string{"create 0", "create 0", "zone 01 disc;0;0;1", "write 0 3 5 5 61", "send 01 0", "deliver 0", "deliver 0"}
	gone := append(slices.Clone(pair), "retire 01 0")
	full := []string{"create 0", "create 01", "create 01", "create 01", "create 01", "create 01", "create 01", "create 01", "create 01", "create 01"}
	for _, c := range []struct {
		before []string
		lines  []string
		want   string
	}{
		{pair, []string{"mesh 0", "mesh 33", "mesh 1000000", "send 0 0", "send 01 01", "retire 01 01", "expel 01 01"}, "argument"},
		{pair, []string{"write 03 0 0 0 61", "delete 011 0", "zone 09 all", "create 03", "send 03 0", "send 0 03", "retire 03 0", "retire 01 03", "expel 03 01",
			"expel 01 02", "expel 0 03", "gc 011111", "read 03 0", "read 03 99", "has 03", "knows 03", "floor 03"}, "id"},
		{gone, []string{"write 01 0 0 0 61", "delete 01 0", "zone 01 all", "create 01", "send 01 0", "retire 01 02", "retire 02 01", "expel 01 02", "read 01 0", "read 01 32"}, "state"},
		{pair, []string{"write 0 32 0 0 61", "delete 0 32", "write 01 1000000 0 0 61", "read 0 32", "read 01 1000000"}, "key"},
		{pair, []string{"write 0 0 0 0 " + strings.Repeat("61", 17), "write 01 31 0 0 " + strings.Repeat("00", 100)}, "text"},
		{narrow, []string{"write 01 3 1 1 61", "write 01 3 -1000 1000 61", "write 01 0 2 0 " + strings.Repeat("61", 17)}, "zone"},
		{pair, []string{"deliver 0", "drop 0", "double 0", "deliver 1000000", "read 0 0", "read 01 31", "delete 0 5"}, "none"},
		{narrow, []string{"read 01 3"}, "hidden"},
		{append(slices.Clone(narrow), "zone 01 all"), []string{"read 01 3"}, "pending"},
		{pair, []string{"zone 0 all", "zone 0 disc;0;0;1", "retire 0 01", "expel 01 0", "expel 0 0"}, "root"},
		{narrow, []string{"retire 01 02"}, "held"},
		{append(slices.Clone(pair), "expel 0 01", "expel 0 02", "write 0 1 0 0 61", "delete 0 1", "gc 0"), []string{"retire 01 0"}, "stale"},
		{full, []string{"create 01"}, "full"},
		{append(slices.Clone(full), "create 0"), []string{"create 0", "create 01", "create 011", "create 02"}, "full"},
		{[]string{"create 0", "create 01", "create 011", "create 0111", "create 01111"}, []string{"create 011111"}, "full"},
		{append(slices.Clone(pair), "expel 0 01"), []string{"expel 0 01"}, "known"},
	} {
		s := after(t, c.before...)
		was := replies(s)
		for _, line := range c.lines {
			if got := s.Do(line); got != c.want {
				t.Errorf("%q: %q, not %q", line, got, c.want)
			}
			if !slices.Equal(replies(s), was) {
				t.Errorf("%q changes something", line)
			}
		}
	}
}

// What was asked for ahead of a Step, and comes behind it, is told by too little.
func TestOld(t *testing.T) {
	talk(t, `
		create 0 > ok
		write 0 1 0 0 61 > ok
		send 0 01 > ok
		deliver 0 > ok
		bag > data 01 0
		delete 0 1 > ok
		round > ok
		round > ok
		floor 0 > 0 2
		deliver 0 > old
		bag > none
		floor 0 > 0 2
		calm > yes
	`)
}

func TestFullBag(t *testing.T) {
	s := after(t, "create 0")
	for range 64 {
		if got := s.Do("send 01 0"); got != "ok" {
			t.Fatal(got)
		}
	}
	for _, line := range []string{"send 01 0", "send 0 01", "double 63"} {
		if got := s.Do(line); got != "full" {
			t.Error(line, got)
		}
	}
	if got := s.Do("bag"); got != strings.Repeat("ask 01 0;", 63)+"ask 01 0" {
		t.Error(got)
	}
	// a frame that comes makes room for what is sent back
	if got := s.Do("deliver 0"); got != "ok" || s.Do("bag") != strings.Repeat("ask 01 0;", 63)+"data 0 01" {
		t.Error(got, s.Do("bag"))
	}
}

// One makes so many events, and not one more.
func TestManyEvents(t *testing.T) {
	t.Parallel()
	s := shell.New()
	for range 1048575 {
		if got := s.Do("write 0 0 0 0 61"); got != "ok" {
			t.Fatal(got)
		}
	}
	for _, c := range [][2]string{
		{"write 0 0 0 0 61", "sequence"}, {"delete 0 0", "sequence"}, {"has 0", "0 1048575 0 held"}, {"knows 0", "0 1048575"}, {"check", "ok"}, {"calm", "yes"},
		{"create 0", "ok"}, {"write 01 0 0 0 61", "sequence"}, {"round", "ok"}, {"calm", "yes"},
	} {
		if got := s.Do(c[0]); got != c[1] {
			t.Errorf("%q: %q, not %q", c[0], got, c[1])
		}
	}
}

// wrong is lines that are none.
func wrong() []string {
	l := []string{
		"", " ", "  ", "\n", "\x00", "\xff", "0", "01", "-", "ok", "what", "none", "text 61", "help",
		"mesh", "mesh ", "mesh 1 ", " mesh 1", "mesh  1", "mesh 1 1", "mesh 01", "mesh 00", "mesh +1", "mesh -1", "mesh -0", "mesh 1.0", "mesh 1e1", "mesh 0x1", "mesh 1_0",
		"mesh x", "mesh 1000001", "mesh 4294967297", "mesh 9223372036854775808", "mesh 18446744073709551617", "mesh 1\n", "mesh\t1", "Mesh 1", "MESH 1", "mesh １", "mesh1", "meshes 1",
		"read", "read ", "read 0", "read 0 ", "read 0  1", "read  0 1", "read 0 1 ", " read 0 1", "read 0 1 2", "read 0 01", "read 0 -1", "read 0 +1", "read 0 1000001", "read 0 x", "read 0 -",
		"read 00 1", "read 1 1", "read 010 1", "read 0123456 1", "read x 1", "read - 1", "read 0\t1", "read 0 1\n", "Read 0 1", "read 02 x", "read 02 1000001", "read 0 18446744073709551617",
		"has", "has ", "has 0 ", " has 0", "has  0", "has 0 0", "has 00", "has 1", "has 0123456", "has 0\n", "has x", "has -", "Has 0", "has 01 1", "has 02 ", "has 0a", "has ０",
		"knows", "knows ", "knows 0 ", " knows 0", "knows 0 0", "knows 00", "knows 1", "knows x", "know 0", "Knows 0", "knows 0;01",
		"floor", "floor ", "floor 0 ", " floor 0", "floor 0 0", "floor 00", "floor 1", "floor x", "floors 0", "Floor 0",
		"who ", " who", "who 0", "Who", "WHO", "who\n", "whoo", "wh", "bag ", " bag", "bag 0", "Bag", "newest ", " newest", "newest 0", "Newest", "check ", " check", "check 0", "Check",
		"calm ", " calm", "calm 0", "Calm", "round ", " round", "round 1", "Round", "rounds", "round\r", "round;who", "who;who", "round round",
		"write", "write 0 3 1 2", "write 0 3 1 2 6869 ", " write 0 3 1 2 6869", "write 0 3 1 2 686", "write 0 3 1 2 6A", "write 0 3 1001 2 61", "write 0 03 1 2 61", "write 0 1000001 0 0 61",
		"write 0 3 1 2 " + strings.Repeat("61", 101), "write 1 3 1 2 61", "delete 0", "delete 0 -1", "zone 0", "zone 0 disc 0 0 1", "zone 0 not", "zone 01 all;", "create", "create 1", "create 0 0",
		"send 0", "send 0 01 02", "send 0 1", "deliver", "deliver -1", "deliver 1000001", "deliver 0 0", "drop", "drop x", "double", "double 00", "retire 01", "expel 0", "gc", "gc 0 0", "Gc 0",
	}
	for _, s := range []string{" ", "who", "mesh 1", "has 0 ", "read 0 ", "9", "\xff", "mesh " + strings.Repeat("9", 9)} {
		l = append(l, strings.Repeat(s, 20000))
	}
	return append(l, "mesh "+strings.Repeat("9", 100000), "mesh "+strings.Repeat("0", 100000)+"1", "has 0"+strings.Repeat("1", 100000), "read 0 "+strings.Repeat("1", 100000))
}

// A line that is none changes nothing.
func TestWrongLines(t *testing.T) {
	s := after(t, "create 0", "write 0 3 1 2 6869", "send 01 0")
	was := replies(s)
	for _, line := range wrong() {
		if got := s.Do(line); got != "what" {
			t.Errorf("%.40q: %q", line, got)
		}
		if got := shell.New().Do(line); got != "what" {
			t.Errorf("%.40q, first of all: %q", line, got)
		}
		if got := replies(s); !slices.Equal(got, was) {
			t.Fatalf("%.40q: %q, not %q", line, got, was)
		}
	}
}

// Of lines with one byte changed, left out or put between just those are replied to that are lines.
func TestWhatIsNearALine(t *testing.T) {
	for _, line := range []string{"who", "bag", "newest", "check", "calm", "round", "mesh 7", "read 01 3", "has 01", "knows 01", "floor 01"} {
		for i := range len(line) + 1 {
			for c := range 256 {
				judge(t, line[:i]+string([]byte{byte(c)})+line[i:])
				if i < len(line) {
					judge(t, line[:i]+string([]byte{byte(c)})+line[i+1:])
				}
			}
			judge(t, line[:i])
			judge(t, line[i:])
			if i < len(line) {
				judge(t, line[:i]+line[i+1:])
			}
		}
	}
}

// judge: there is something to reply to that just if it is a line.
func judge(t *testing.T, line string) {
	t.Helper()
	if got, want := shell.New().Do(line) != "what", isLine(line); got != want {
		t.Errorf("%q: %v", line, got)
	}
}

// Of all lines of a few words just those are replied to that are lines, be it by an error's word.
func TestAllShortLines(t *testing.T) {
	words := []string{"who", "bag", "newest", "check", "calm", "round", "mesh", "read", "has", "knows", "floor", "create", "delete", "0", "01", "3", "33", "-", ""}
	lines := slices.Clone(words)
	for i := 0; i < len(lines); i++ {
		_, e := script.Parse(lines[i])
		if got := shell.New().Do(lines[i]); (got == "what") == (e == api.OK || isLine(lines[i])) {
			t.Errorf("%q: %q", lines[i], got)
		}
		if strings.Count(lines[i], " ") < 3 {
			for _, w := range words {
				lines = append(lines, lines[i]+" "+w)
			}
		}
	}
}

// isLine: is it a line, by the chapter's table, that isn't an Op's?
func isLine(line string) bool {
	words := strings.Split(line, " ")
	kind, rest := words[0], words[1:]
	switch {
	case len(rest) == 0:
		return slices.Contains([]string{"who", "bag", "newest", "check", "calm", "round"}, kind)
	case len(rest) == 1 && slices.Contains([]string{"has", "knows", "floor"}, kind):
		return isId(rest[0])
	case len(rest) == 1 && kind == "mesh":
		return isNumber(rest[0])
	}
	return len(rest) == 2 && kind == "read" && isId(rest[0]) && isNumber(rest[1])
}

func isId(w string) bool {
	return w != "" && len(w) <= 6 && w[0] == '0' && strings.Trim(w[1:], "123456789") == ""
}

func isNumber(w string) bool {
	return w == "0" || w == "1000000" || w != "" && len(w) <= 6 && w[0] != '0' && strings.Trim(w, "0123456789") == ""
}

// All numbers that a line has, and those next to them.
func TestNumbers(t *testing.T) {
	s := shell.New()
	for n := -12; n <= 1000012; n++ {
		if n == 200 {
			n = 999000
		}
		read, most := "key", "argument"
		if n < 0 || n > 1000000 {
			read, most = "what", "what"
		}
		if n >= 0 && n < 32 {
			read = "none"
		}
		if n >= 1 && n <= 32 {
			most = "ok"
		}
		if got := s.Do("read 0 " + strconv.Itoa(n)); got != read {
			t.Fatal(n, got)
		}
		if got := s.Do("mesh " + strconv.Itoa(n)); got != most {
			t.Fatal(n, got)
		}
	}
}

// story is lines, some of which are none, or can't be done.
func story() []string {
	return []string{
		"create 0", "write 0 3 1 2 6869", "send 01 0", "x", "deliver 0", "deliver 0", "read 01 3", "mesh 0", "who ", "delete 01 3", "has 01", "round", "round", "round",
		"newest", "floor 0", "knows 0", "calm", "retire 01 0", "who", "mesh 2", "", "who", "create 0", "create 01", "send 011 01", "bag", "double 0", "bag", "check",
	}
}

// Lines are the replies of a new one, each to its line.
func TestLines(t *testing.T) {
	s := shell.New()
	var want []string
	for _, line := range story() {
		want = append(want, s.Do(line))
	}
	l := slices.Clone(story())
	if got := shell.Lines(l); !slices.Equal(got, want) || !slices.Equal(l, story()) {
		t.Errorf("%q, not %q", got, want)
	}
	if want[6] != "text 6869" || want[8] != "what" || want[10] != "3 2 01 dead" || want[29] != "ok" {
		t.Errorf("%q", want)
	}
	for _, l := range [][]string{nil, {}} {
		if got := shell.Lines(l); len(got) > 0 {
			t.Errorf("%q", got)
		}
	}
	// each call has a new one
	if a, b := shell.Lines([]string{"create 0"}), shell.Lines([]string{"who"}); a[0] != "ok" || b[0] != "0 live" {
		t.Error(a, b)
	}
}

// A Shell hangs on its own lines alone, whatever others are told meanwhile.
func TestManyShells(t *testing.T) {
	want := shell.Lines(story())
	var all []*shell.Shell
	for range len(story()) {
		all = append(all, shell.New())
	}
	// the i-th one is i lines behind the first one
	for n := range 2 * len(story()) {
		for i, s := range all {
			if at := n - i; at >= 0 && at < len(story()) {
				if got := s.Do(story()[at]); got != want[at] {
					t.Fatalf("%q: %q, not %q", story()[at], got, want[at])
				}
			}
		}
	}
}

// What is done to a copy changes nothing in what was copied.
func TestCopies(t *testing.T) {
	s := after(t, "create 0", "write 0 3 1 2 6869", "create 0", "delete 0 3", "send 01 0", "send 02 01")
	was := replies(s)
	for _, line := range append(story(), "write 0 3 0 0 61", "deliver 0", "drop 0", "double 1", "zone 01 disc;0;0;1", "expel 0 01", "gc 0", "round", "mesh 3") {
		other := *s
		other.Do(line)
		if got := replies(s); !slices.Equal(got, was) {
			t.Fatalf("%q: %q, not %q", line, got, was)
		}
	}
}

func TestNil(t *testing.T) {
	var s *shell.Shell
	for _, line := range append(append(wrong(), story()...), "who", "bag", "newest", "check", "calm", "round", "mesh 32", "read 0 0", "has 0", "knows 0", "floor 0", "gc 0") {
		if got := s.Do(line); got != "what" {
			t.Errorf("%.40q: %q", line, got)
		}
	}
}

// One that New didn't make has no replica; it ends, and doesn't panic.
func TestNoCallPanics(t *testing.T) {
	for _, line := range append(wrong(), append(story(), "check", "calm", "round", "newest", "bag", "who", "read 0 0")...) {
		var s shell.Shell
		s.Do(line)
		for _, other := range story() {
			s.Do(other)
		}
	}
}
