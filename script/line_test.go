package script_test

import (
	"math"
	"regexp"
	"slices"
	"strconv"
	"strings"
	"testing"

	"cenotaph/api"
	"cenotaph/id"
	"cenotaph/mesh"
	"cenotaph/sample"
	"cenotaph/script"
	"cenotaph/zone"
)

// lines is Ops and their Lines.
func lines() map[string]mesh.Op {
	long := strings.Repeat("\x00\xff", 50)
	return map[string]mesh.Op{
		"write 0 3 1 2 6869":                       {Kind: mesh.Write, Who: "0", Key: 3, Spot: 1 + 2i, Text: "hi"},
		"write 0123 0 0 0 -":                       {Kind: mesh.Write, Who: "0123"},
		"write 012345 1000000 -1000 1000 00":       {Kind: mesh.Write, Who: "012345", Key: 1000000, Spot: complex(-1000, 1000), Text: "\x00"},
		"write 09 31 1000 -1000 2d":                {Kind: mesh.Write, Who: "09", Key: 31, Spot: complex(1000, -1000), Text: "-"},
		"write 01 7 -7 10 c3a90a20ff":              {Kind: mesh.Write, Who: "01", Key: 7, Spot: complex(-7, 10), Text: "é\n \xff"},
		"write 01 7 0 -1 " + hex(long):             {Kind: mesh.Write, Who: "01", Key: 7, Spot: -1i, Text: long},
		"delete 0 0":                               {Kind: mesh.Delete, Who: "0"},
		"delete 01 1000000":                        {Kind: mesh.Delete, Who: "01", Key: 1000000},
		"delete 011 32":                            {Kind: mesh.Delete, Who: "011", Key: 32},
		"zone 0 all":                               {Kind: mesh.SetZone, Who: "0", Zone: zone.Everywhere()},
		"zone 01 disc;0;0;5,half;1;0;3,and":        {Kind: mesh.SetZone, Who: "01", Zone: sample.Zone("disc 0 0 5,half 1 0 3,and")},
		"zone 01 half;-1000;1000;-2000000,not":     {Kind: mesh.SetZone, Who: "01", Zone: sample.Zone("half -1000 1000 -2000000,not")},
		"zone 01 all" + strings.Repeat(",not", 31): {Kind: mesh.SetZone, Who: "01", Zone: sample.Zone("all" + strings.Repeat(",not", 31))},
		"create 0":                                 {Kind: mesh.Create, Who: "0"},
		"create 011111":                            {Kind: mesh.Create, Who: "011111"},
		"send 0 01":                                {Kind: mesh.Send, Who: "0", Other: "01"},
		"send 0999 0999":                           {Kind: mesh.Send, Who: "0999", Other: "0999"},
		"deliver 0":                                {Kind: mesh.Deliver},
		"deliver 63":                               {Kind: mesh.Deliver, At: 63},
		"deliver 1000000":                          {Kind: mesh.Deliver, At: 1000000},
		"drop 0":                                   {Kind: mesh.Drop},
		"drop 100":                                 {Kind: mesh.Drop, At: 100},
		"double 0":                                 {Kind: mesh.Double},
		"double 9":                                 {Kind: mesh.Double, At: 9},
		"retire 01 0":                              {Kind: mesh.Retire, Who: "01", Other: "0"},
		"expel 0 02":                               {Kind: mesh.Expel, Who: "0", Other: "02"},
		"gc 0":                                     {Kind: mesh.Gc, Who: "0"},
		"gc 019":                                   {Kind: mesh.Gc, Who: "019"},
	}
}

// hex is each byte of s as two digits.
func hex(s string) string {
	var b strings.Builder
	for i := range len(s) {
		b.WriteString(strconv.FormatInt(int64(s[i])+256, 16)[1:])
	}
	return b.String()
}

func TestLines(t *testing.T) {
	for want, o := range lines() {
		if s := script.Line(o); s != want {
			t.Errorf("%v: %q, not %q", o, s, want)
		}
		if back, e := script.Parse(want); e != api.OK || !same(back, o) {
			t.Errorf("%q: %d, %v", want, e, back)
		}
	}
}

// Each byte is two digits.
func TestTexts(t *testing.T) {
	for c := range 256 {
		for _, text := range []string{string([]byte{byte(c)}), string([]byte{'a', byte(c), byte(255 - c)})} {
			s := script.Line(mesh.Op{Kind: mesh.Write, Who: "0", Text: text})
			if o, e := script.Parse(s); s != "write 0 0 0 0 "+hex(text) || e != api.OK || o.Text != text {
				t.Fatalf("%q: %q, %d, %v", text, s, e, o)
			}
		}
	}
	for n := range 210 {
		text := strings.Repeat("k", n)
		want := "write 0 0 0 0 " + strings.Repeat("6b", n)
		o, e := script.Parse(want)
		switch s := script.Line(mesh.Op{Kind: mesh.Write, Who: "0", Text: text}); {
		case n > 100:
			if s != "" || e != api.ErrWord || !same(o, mesh.Op{}) {
				t.Errorf("%d bytes: %q, %d", n, s, e)
			}
		case n > 0 && (s != want || e != api.OK || o.Text != text):
			t.Errorf("%d bytes: %q, %d", n, s, e)
		}
	}
}

// -0 is 0.
func TestNoughts(t *testing.T) {
	null := math.Copysign(0, -1)
	for _, z := range []complex128{complex(null, null), complex(null, 0), complex(0, null)} {
		if s := script.Line(mesh.Op{Kind: mesh.Write, Who: "0", Spot: z, Text: "a"}); s != "write 0 0 0 0 61" {
			t.Error(z, s)
		}
	}
	l := zone.Zone{{Op: zone.Disc, At: complex(null, null), Size: null}}
	if s := script.Line(mesh.Op{Kind: mesh.SetZone, Who: "0", Zone: l}); s != "zone 0 disc;0;0;0" {
		t.Error(s)
	}
}

// What a Kind doesn't have isn't in its Line, whatever it is.
func TestLinesOfWhatAKindDoesntHave(t *testing.T) {
	for want, o := range lines() {
		if s := script.Line(sample.Overfull(o)); s != want {
			t.Errorf("%v: %q, not %q", sample.Overfull(o), s, want)
		}
	}
}

// An Op has no Line if one thing of its Kind can't be told.
func TestOpsWithoutALine(t *testing.T) {
	right := mesh.Op{Who: "01", Other: "02", Spot: 1, Text: "a", Zone: zone.Everywhere()}
	for kind := -3; kind <= 14; kind++ {
		o := right
		o.Kind = kind
		if s := script.Line(o); (s == "") == (kind >= 0 && kind <= 10) {
			t.Errorf("Kind %d: %q", kind, s)
		}
	}
	for _, kind := range []int{math.MinInt, math.MaxInt, 1 << 32, -1 << 32} {
		if s := script.Line(mesh.Op{Kind: kind, Who: "0"}); s != "" {
			t.Errorf("Kind %d: %q", kind, s)
		}
	}
	whos := []int{mesh.Write, mesh.Delete, mesh.SetZone, mesh.Create, mesh.Send, mesh.Retire, mesh.Expel, mesh.Gc}
	others := []int{mesh.Send, mesh.Retire, mesh.Expel}
	ats := []int{mesh.Deliver, mesh.Drop, mesh.Double}
	spoiled := func(kinds []int, spoil func(*mesh.Op)) {
		t.Helper()
		for kind := range 11 {
			o := right
			o.Kind = kind
			spoil(&o)
			if s := script.Line(o); (s == "") != slices.Contains(kinds, kind) {
				t.Errorf("%v: %q", o, s)
			}
		}
	}
	for _, a := range []id.Id{"", "1", "00", "010", "0 ", " 0", "0123456", "0a", "no id", "0\n", "０"} {
		spoiled(whos, func(o *mesh.Op) { o.Who = a })
		spoiled(others, func(o *mesh.Op) { o.Other = a })
	}
	for _, n := range []int{math.MinInt, -1, 1000001, math.MaxInt, 1 << 32} {
		spoiled([]int{mesh.Write, mesh.Delete}, func(o *mesh.Op) { o.Key = n })
		spoiled(ats, func(o *mesh.Op) { o.At = n })
	}
	for _, x := range []float64{1001, -1001, 0.5, 1e300, math.Inf(1), math.Inf(-1), math.NaN()} {
		spoiled([]int{mesh.Write}, func(o *mesh.Op) { o.Spot = complex(x, 0) })
		spoiled([]int{mesh.Write}, func(o *mesh.Op) { o.Spot = complex(0, x) })
	}
	for _, n := range []int{101, 102, 200, 1000} {
		spoiled([]int{mesh.Write}, func(o *mesh.Op) { o.Text = strings.Repeat("a", n) })
	}
	for _, l := range []zone.Zone{nil, {}, {{Op: 0}}, {{Op: 7}}, {{Op: zone.Not}}, {{Op: zone.All}, {Op: zone.All}}, {{Op: zone.Disc, Size: -1}},
		{{Op: zone.Half, At: 1001}}, slices.Concat(zone.Everywhere(), slices.Repeat(zone.Zone{{Op: zone.Not}}, 32))} {
		spoiled([]int{mesh.SetZone}, func(o *mesh.Op) { o.Zone = l })
	}
}

// forms is the forms of all Lines but of those with a zone.
var forms = regexp.MustCompile(`^(write ID NUM XY XY (-|(?:[0-9a-f]{2}){1,100})|delete ID NUM|(create|gc) ID|(send|retire|expel) ID ID|(deliver|drop|double) NUM)$`)

// isLine: is it some Op's Line, by the chapter's words?
func isLine(s string) bool {
	var form []string
	for i, w := range strings.Split(s, " ") {
		form = append(form, shape(w, i, s))
	}
	if rest, ok := strings.CutPrefix(strings.Join(form, " "), "zone ID "); ok {
		return strings.Count(s, " ") == 2 && !strings.Contains(rest, " ") && rightZone(s[strings.LastIndex(s, " ")+1:])
	}
	return forms.MatchString(strings.Join(form, " "))
}

var (
	ids     = regexp.MustCompile(`^0[1-9]{0,5}$`)
	numbers = regexp.MustCompile(`^(0|[1-9][0-9]{0,5}|1000000)$`)
	parts   = regexp.MustCompile(`^(0|-?[1-9][0-9]{0,2}|-?1000)$`)
)

// shape is what stands in a Line's form for its i-th word.
func shape(w string, i int, s string) string {
	kind, _, _ := strings.Cut(s, " ")
	numbered := i == 2 && (kind == "write" || kind == "delete") || i == 1 && (kind == "deliver" || kind == "drop" || kind == "double")
	named := !numbered && (i == 1 || i == 2 && (kind == "send" || kind == "retire" || kind == "expel"))
	switch {
	case named && ids.MatchString(w):
		return "ID"
	case numbered && numbers.MatchString(w):
		return "NUM"
	case (i == 3 || i == 4) && kind == "write" && parts.MatchString(w):
		return "XY"
	case strings.ContainsAny(w, "IDNUMXY"):
		return "?"
	}
	return w
}

func rightZone(w string) bool {
	l, ok := zone.Parse(strings.ReplaceAll(w, ";", " "))
	return ok && strings.ReplaceAll(zone.Text(l), " ", ";") == w
}

// judge: Parse takes s just if it is a Line, and what it answers has just this Line.
func judge(t *testing.T, s string) bool {
	t.Helper()
	o, e := script.Parse(s)
	want := isLine(s)
	switch {
	case want != (e == api.OK) || !want && e != api.ErrWord:
		t.Fatalf("%q: %d, %v", s, e, o)
	case want && script.Line(o) != s:
		t.Fatalf("%q has the Line %q", s, script.Line(o))
	case !want && !same(o, mesh.Op{}):
		t.Fatalf("%q is none, and %v", s, o)
	}
	return want
}

// Of Lines with one byte changed, left out or put between just those are parsed that are Lines.
func TestParseOfWhatIsNearALine(t *testing.T) {
	signs := "0129 -+;,\x00\n\t.adefgAF_no\xff"
	for s := range lines() {
		right := 0
		for i := range len(s) + 1 {
			for _, c := range []byte(signs) {
				if judge(t, s[:i]+string([]byte{c})+s[i:]) {
					right++
				}
				if i < len(s) {
					judge(t, s[:i]+string([]byte{c})+s[i+1:])
				}
			}
			judge(t, s[:i])
			judge(t, s[i:])
			if i < len(s) {
				judge(t, s[:i]+s[i+1:])
			}
		}
		if !judge(t, s) || right == 0 && strings.HasPrefix(s, "write 0 ") {
			t.Errorf("%q isn't taken, or nothing near it", s)
		}
	}
}

// Of all texts of a few words just those are parsed that are Lines.
func TestParseOfAllShortTexts(t *testing.T) {
	words := []string{"write", "delete", "zone", "create", "send", "deliver", "drop", "double", "retire", "expel", "gc", "0", "01", "3", "-1", "-", "61", "all", "not", ""}
	texts := []string{""}
	for _, w := range words {
		texts = append(texts, w)
	}
	parsed := 0
	for i := 0; i < len(texts); i++ {
		if judge(t, texts[i]) {
			parsed++
		}
		if strings.Count(texts[i], " ") < 3 && i > 0 {
			for _, w := range words {
				texts = append(texts, texts[i]+" "+w)
			}
		}
	}
	// an id is one of 2 here, a number one of 3 (0, 3, 61), a zone all: delete 6, zone 2, create and gc 2 each, send,
	// retire and expel 4 each, deliver, drop and double 3 each
	if want := 6 + 2 + 2*2 + 3*4 + 3*3; parsed != want {
		t.Errorf("%d were parsed, not %d", parsed, want)
	}
}

func TestParseOfOtherTexts(t *testing.T) {
	for _, s := range []string{
		"", " ", "-", "0", "write", "write ", "write 0", "write 0 3", "write 0 3 1 2", "write 0 3 1 2 ", "write 0 3 1 2 6869 ", " write 0 3 1 2 6869",
		"write  0 3 1 2 6869", "write 0 3 1 2 6869 61", "write 0 3 1 2 686", "write 0 3 1 2 6A", "write 0 3 1 2 0x61", "write 0 3 1 2 --", "write 0 3 1 2 -61",
		"write 0 3 1 2 +1", "write 0 3 1 2 6 ", "write 0 3 1001 2 61", "write 0 3 1 -1001 61", "write 0 3 -0 2 61", "write 0 3 1 00 61", "write 0 3 1.0 2 61", "write 0 3 +1 2 61",
		"write 0 -1 1 2 61", "write 0 1000001 1 2 61", "write 0 03 1 2 61", "write 0 +3 1 2 61", "write 0 18446744073709551619 1 2 61", "write 0 3 18446744073709551617 2 61",
		"write 1 3 1 2 61", "write 00 3 1 2 61", "write 0123456 3 1 2 61", "write - 3 1 2 61", "Write 0 3 1 2 61", "WRITE 0 3 1 2 61", "writes 0 3 1 2 61", "0 0 3 1 2 61",
		"delete 0", "delete 0 ", "delete 0 1 1", "delete 1 0", "delete 0 -0", "delete 0 x", "delete 01 1000001",
		"zone 0", "zone 0 ", "zone 0 disc 0 0 5", "zone 0 disc;0;0;5 ", "zone 0 disc;0;0", "zone 0 not", "zone 0 all;", "zone 0 ;all", "zone 0 all,", "zone 0 all not", "zone 0 all all",
		"zone 0 disc;0;0;-1", "zone 0 disc;0;0;2001", "zone 0 all" + strings.Repeat(",not", 32), "zone all", "zone 0 All", "zone 1 all", "setzone 0 all", "zone 0 disc;0;0;05",
		"create", "create ", "create 0 0", "create 1", "create 0 ", "create 0\n", "gc", "gc 0 0", "gc 0\r", "gc 00",
		"send 0", "send 0 ", "send 0 1", "send 1 0", "send 0 01 02", "retire 0", "retire 01 0 ", "expel 01", "expel 0  01",
		"deliver", "deliver ", "deliver -1", "deliver 00", "deliver 1000001", "deliver 0 0", "drop", "drop x", "drop 01", "double", "double 1.", "double 9223372036854775808", "double 18446744073709551616",
		"read 0 1", "has 0", "mesh 3", "round", "check", "calm", "bag", "who", "newest", "ok",
	} {
		if judge(t, s) {
			t.Errorf("%q is none", s)
		}
	}
	for _, s := range []string{strings.Repeat(" ", 100000), "write" + strings.Repeat(" 0", 100000), "deliver " + strings.Repeat("9", 100000),
		"write 0 0 0 0 " + strings.Repeat("61", 100000), "zone 0 " + strings.Repeat("all,", 100000) + "all", "zone 0 " + strings.Repeat(";", 100000)} {
		if o, e := script.Parse(s); e != api.ErrWord || !same(o, mesh.Op{}) {
			t.Error(s[:20])
		}
	}
}

// All numbers that a Line has.
func TestNumbers(t *testing.T) {
	for n := -1003; n <= 1003; n++ {
		s := strconv.Itoa(n)
		for _, text := range []string{"write 0 1 " + s + " 0 61", "write 0 1 0 " + s + " 61"} {
			if judge(t, text) != (n >= -1000 && n <= 1000) {
				t.Fatal(text)
			}
		}
	}
	for _, n := range []int{-1, 0, 1, 9, 10, 99, 31, 32, 999999, 1000000, 1000001, 9999999, 10000000} {
		s := strconv.Itoa(n)
		for _, text := range []string{"write 0 " + s + " 0 0 61", "delete 0 " + s, "deliver " + s, "drop " + s, "double " + s} {
			if judge(t, text) != (n >= 0 && n <= 1000000) {
				t.Fatal(text)
			}
		}
	}
}

// An Op that is parsed twice shares nothing with itself.
func TestParsedZonesAreNew(t *testing.T) {
	a, _ := script.Parse("zone 01 all,not")
	b, _ := script.Parse("zone 01 all,not")
	one := script.One(newMesh(1), [4]byte{2, 0, 0, 2})
	other := script.One(newMesh(1), [4]byte{2, 0, 0, 2})
	for _, o := range []mesh.Op{a, one} {
		for i := range o.Zone[:cap(o.Zone)] {
			o.Zone[:cap(o.Zone)][i] = zone.Step{Op: zone.Half}
		}
	}
	if script.Line(b) != "zone 01 all,not" || script.Line(other) != "zone 0 disc;-2;-2;2,not" {
		t.Error(b, other)
	}
}
