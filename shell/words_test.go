package shell

import (
	"testing"

	"cenotaph/api"
	"cenotaph/mesh"
	"cenotaph/node"
)

// Each error has its word, also one that no line can bring about.
func TestWords(t *testing.T) {
	for e, want := range map[api.Errno]string{
		api.OK: "ok", api.ErrArg: "argument", api.ErrShort: "short", api.ErrForm: "form", api.ErrId: "id", api.ErrState: "state", api.ErrKey: "key",
		api.ErrText: "text", api.ErrSpot: "spot", api.ErrZone: "zone", api.ErrSeq: "sequence", api.ErrNone: "none", api.ErrHidden: "hidden",
		api.ErrPending: "pending", api.ErrRoot: "root", api.ErrHeld: "held", api.ErrStale: "stale", api.ErrOld: "old", api.ErrFull: "full",
		api.ErrKnown: "known", api.ErrWord: "word",
	} {
		if got := word(e); got != want {
			t.Errorf("%d: %q, not %q", e, got, want)
		}
	}
	if api.ErrWord != 20 {
		t.Errorf("there are %d", api.ErrWord)
	}
}

// Of a Mesh in which something is wrong there comes the word for it; no line brings that about.
func TestCheck(t *testing.T) {
	root := node.Root()
	for want, l := range map[string][]node.State{"empty": nil, "ids": {root, root}, "seq": {{Id: "0", Seq: 1}}, "ok": {root}} {
		s := &Shell{mesh.Mesh{Nodes: l, Most: 1}}
		if got := s.Do("check"); got != want {
			t.Errorf("%q, not %q", got, want)
		}
	}
}
