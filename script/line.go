package script

import (
	"slices"
	"strconv"
	"strings"

	"cenotaph/api"
	"cenotaph/id"
	"cenotaph/mesh"
	"cenotaph/zone"
)

// The bounds of what a Line can tell, and how many words the longest one has.
const (
	maxNumber = 1000000
	maxText   = 100
	maxWords  = 6
)

// base is the digits of a byte.
const base = "0123456789abcdef"

// nothing is the word for a text without a byte: else it would have no word.
const nothing = "-"

// Line is an Op as a line; an empty text tells that it has none. What o's Kind doesn't have isn't in it.
func Line(o mesh.Op) string {
	words := wordsOf(o)
	if slices.Contains(words, "") {
		return ""
	}
	return strings.Join(words, " ")
}

// wordsOf is a Line's words; an empty one stands for what no Line can tell.
func wordsOf(o mesh.Op) []string {
	kind, who, other := name(o.Kind), idWord(o.Who), idWord(o.Other)
	switch o.Kind {
	case mesh.Write:
		x, y := spotWords(o.Spot)
		return []string{kind, who, number(o.Key), x, y, textWord(o.Text)}
	case mesh.Delete:
		return []string{kind, who, number(o.Key)}
	case mesh.SetZone:
		return []string{kind, who, zoneWord(o.Zone)}
	case mesh.Send, mesh.Retire, mesh.Expel:
		return []string{kind, who, other}
	case mesh.Deliver, mesh.Drop, mesh.Double:
		return []string{kind, number(o.At)}
	}
	return []string{kind, who}
}

// name is a Kind's word; an empty text tells that there is no such Kind.
func name(kind int) string {
	names := [kinds]string{
		mesh.Write: "write", mesh.Delete: "delete", mesh.SetZone: "zone", mesh.Create: "create", mesh.Send: "send", mesh.Deliver: "deliver",
		mesh.Drop: "drop", mesh.Double: "double", mesh.Retire: "retire", mesh.Expel: "expel", mesh.Gc: "gc",
	}
	if kind < 0 || kind >= kinds {
		return ""
	}
	return names[kind]
}

func idWord(a id.Id) string {
	if !id.Right(a) {
		return ""
	}
	return string(a)
}

func number(n int) string {
	if n < 0 || n > maxNumber {
		return ""
	}
	return strconv.Itoa(n)
}

func spotWords(z complex128) (string, string) {
	if !zone.Whole(z) {
		return "", ""
	}
	return strconv.Itoa(int(real(z))), strconv.Itoa(int(imag(z)))
}

func textWord(s string) string {
	switch {
	case s == "":
		return nothing
	case len(s) > maxText:
		return ""
	}
	var digits []byte
	for _, c := range []byte(s) {
		digits = append(digits, base[c/16], base[c%16])
	}
	return string(digits)
}

func zoneWord(l zone.Zone) string { return strings.ReplaceAll(zone.Text(l), " ", ";") }

// Parse is the Op whose Line that is. The words are read loosely, and the Op's Line is held against s then: so each Op
// has one Line, whatever else could be read in the same way.
func Parse(s string) (mesh.Op, api.Errno) {
	words := strings.SplitN(s, " ", maxWords+1)
	o := mesh.Op{Kind: kindOf(words[0])}
	read(&o, words)
	if s == "" || Line(o) != s {
		return mesh.Op{}, api.ErrWord
	}
	return o, api.OK
}

// kindOf is the Kind that has that word; below 0: there is none.
func kindOf(word string) int {
	for kind := range kinds {
		if name(kind) == word {
			return kind
		}
	}
	return -1
}

// read puts into o what its Kind has. Of a word that lacks, or can't be read, something is put that has another word.
func read(o *mesh.Op, words []string) {
	words = append(words, make([]string, maxWords)...)
	switch o.Kind {
	case mesh.Deliver, mesh.Drop, mesh.Double:
		o.At = readNumber(words[1])
		return
	case mesh.Write:
		o.Key, o.Text = readNumber(words[2]), readText(words[5])
		o.Spot = complex(float64(readNumber(words[3])), float64(readNumber(words[4])))
	case mesh.Delete:
		o.Key = readNumber(words[2])
	case mesh.SetZone:
		o.Zone, _ = zone.Parse(strings.ReplaceAll(words[2], ";", " "))
	case mesh.Send, mesh.Retire, mesh.Expel:
		o.Other = id.Id(words[2])
	}
	o.Who = id.Id(words[1])
}

func readNumber(word string) int {
	n, _ := strconv.Atoi(word)
	return n
}

func readText(word string) string {
	var s []byte
	for ; len(word) >= 2; word = word[2:] {
		s = append(s, byte(16*digit(word[0])+digit(word[1])))
	}
	return string(s)
}

func digit(c byte) int { return strings.IndexByte(base, c) }
