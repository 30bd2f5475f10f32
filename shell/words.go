package shell

import (
	"strconv"
	"strings"

	"cenotaph/api"
	"cenotaph/bag"
	"cenotaph/id"
	"cenotaph/item"
	"cenotaph/know"
	"cenotaph/mesh"
	"cenotaph/node"
	"cenotaph/script"
	"cenotaph/vec"
)

// word is an error's word; without one all was done.
func word(e api.Errno) string {
	words := [...]string{
		api.OK: done, api.ErrArg: "argument", api.ErrShort: "short", api.ErrForm: "form", api.ErrId: "id", api.ErrState: "state",
		api.ErrKey: "key", api.ErrText: "text", api.ErrSpot: "spot", api.ErrZone: "zone", api.ErrSeq: "sequence", api.ErrNone: nothing,
		api.ErrHidden: "hidden", api.ErrPending: "pending", api.ErrRoot: "root", api.ErrHeld: "held", api.ErrStale: "stale",
		api.ErrOld: "old", api.ErrFull: "full", api.ErrKnown: "known", api.ErrWord: "word",
	}
	return words[e]
}

// list is what is told of each, one behind the other.
func list[T any](l []T, tell func(T) string) string {
	if len(l) == 0 {
		return nothing
	}
	var all []string
	for _, x := range l {
		all = append(all, tell(x))
	}
	return strings.Join(all, ";")
}

func replicaWords(x node.State) string {
	hows := [...]string{node.Live: "live", node.Retired: "retired", node.Expelled: "expelled"}
	return string(x.Id) + " " + hows[x.How]
}

// frameWords is what is told of a frame, which stands in its bytes there. Its Kind is one of layer 12's numbers.
func frameWords(b []byte) string {
	f, _ := bag.Look(bag.Bag{b}, 0)
	kinds := [...]string{1: "ask", 2: "data", 3: "stale"}
	return kinds[f.Kind] + " " + string(f.From) + " " + string(f.To)
}

func itemWords(x item.Item) string {
	how := "stub"
	switch {
	case x.Dead:
		how = "dead"
	case x.Held:
		how = "held"
	}
	return strings.Join([]string{strconv.Itoa(x.Key), strconv.Itoa(x.Ver.Stamp), string(x.Ver.Id), how}, " ")
}

func rowWords(x know.Row) string {
	words := []string{string(x.Id), strconv.Itoa(x.Span.Upto)}
	for _, n := range x.Span.Extra {
		words = append(words, "+"+strconv.Itoa(n))
	}
	return strings.Join(words, " ")
}

func atWords(x vec.At) string { return string(x.Id) + " " + strconv.Itoa(x.N) }

// textWord is a text as it stands in the Line of a Write, so that it has one form.
func textWord(text string) string {
	line := script.Line(mesh.Op{Kind: mesh.Write, Who: id.Root, Text: text})
	return line[strings.LastIndex(line, " ")+1:]
}
