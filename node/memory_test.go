package node_test

import (
	"reflect"
	"testing"

	"cenotaph/api"
	"cenotaph/cert"
	"cenotaph/id"
	"cenotaph/know"
	"cenotaph/matrix"
	"cenotaph/node"
	"cenotaph/span"
	"cenotaph/store"
	"cenotaph/vec"
	"cenotaph/zone"
)

// args is all that the calls are handed that has memory of its own.
type args struct {
	S, Heir node.State
	Know    know.Know
	Members []id.Id
	Certs   cert.List
	Rows    matrix.Matrix
	Zone    zone.Zone
}

// answers is all that the calls answer, those beside an error, too.
func answers(a args) []any {
	var l []any
	add := func(x ...any) { l = append(l, x...) }
	retired := a.S
	retired.How = node.Retired
	add(node.Settle(a.S), node.Learn(a.S, a.Know), node.Learn(a.S, nil), node.Learn(a.S, a.S.Know))
	add(node.Meta(a.S, a.Members, a.Certs, a.Rows), node.Meta(a.S, nil, nil, nil), node.Meta(a.S, a.S.Members, a.S.Certs, a.S.Rows))
	add(node.All(a.S), node.All(a.Heir), node.Wants(a.S), node.Wants(a.Heir))
	for _, s := range []node.State{a.S, retired} {
		for key := range 4 {
			node.Read(s, key)
			x, _ := node.Write(s, key, 1, "text")
			y, _ := node.Write(s, key, 999, "text")
			z, _ := node.Delete(s, key)
			add(x, y, z)
		}
		x, _ := node.SetZone(s, a.Zone)
		y, _ := node.SetZone(s, nil)
		z, c, _ := node.Child(s)
		add(x, y, z, c)
		x, y, _ = node.Retire(s, a.Heir)
		z, c, _ = node.Retire(a.Heir, s)
		add(x, y, z, c)
		x, y, _ = node.Retire(s, s)
		add(x, y)
		x, _ = node.Expel(s, "02")
		y, _ = node.Expel(s, "0")
		add(x, y)
	}
	return append(l, node.Root())
}

// copied is x in new memory; each list has its spare room, too, if whole, and else new spare room behind.
func copied(x reflect.Value, whole bool) reflect.Value {
	y := reflect.New(x.Type()).Elem()
	switch x.Kind() {
	case reflect.Struct:
		for i := range x.NumField() {
			y.Field(i).Set(copied(x.Field(i), whole))
		}
	case reflect.Slice:
		n := x.Len()
		if whole {
			n = x.Cap()
			x = x.Slice(0, n)
		}
		y.Set(reflect.MakeSlice(x.Type(), n, n+3))
		for i := range n {
			y.Index(i).Set(copied(x.Index(i), whole))
		}
	default:
		y.Set(x)
	}
	return y
}

func roomy[T any](x T) T { return copied(reflect.ValueOf(x), false).Interface().(T) }

func wholeOf[T any](x T) T { return copied(reflect.ValueOf(x), true).Interface().(T) }

// scratch writes over all lists of x, and over their spare room.
func scratch(x reflect.Value) {
	switch x.Kind() {
	case reflect.Struct:
		for i := range x.NumField() {
			scratch(x.Field(i))
		}
	case reflect.Slice:
		x = x.Slice(0, x.Cap())
		for i := range x.Len() {
			scratch(x.Index(i))
			junk(x.Index(i))
		}
	}
}

func junk(x reflect.Value) {
	switch x.Kind() {
	case reflect.Struct:
		for i := range x.NumField() {
			junk(x.Field(i))
		}
	case reflect.Slice:
		x.Set(reflect.MakeSlice(x.Type(), 1, 1))
		junk(x.Index(0))
	case reflect.Int:
		x.SetInt(-77)
	case reflect.String:
		x.SetString("scratched")
	case reflect.Bool:
		x.SetBool(!x.Bool())
	case reflect.Float64:
		x.SetFloat(0.25)
	case reflect.Complex128:
		x.SetComplex(0.25)
	}
}

func argsOf(t *testing.T) args {
	return args{
		S: rich(t), Heir: heirOf(t),
		Know:    know.Know{knows("0", 3, 9), knows("03", 1, 6), knows("05", 0, 2, 5)},
		Members: []id.Id{"0", "012", "05"},
		Certs:   cert.List{at("02", 1), at("05", 3)},
		Rows:    matrix.Matrix{row("0", at("0", 5), at("05", 1)), row("05", at("0", 1), at("02", 2))},
		Zone:    zoneOf(t, "disc 0 0 5,half 1 0 3,and"),
	}
}

func TestWhatIsHandedInStaysAndIsNotShared(t *testing.T) {
	given := roomy(argsOf(t))
	kept := wholeOf(given)
	want := answers(argsOf(t))
	for i, x := range answers(given) {
		scratch(reflect.ValueOf(x))
		if !reflect.DeepEqual(wholeOf(given), kept) {
			t.Fatalf("answer %d changed what was handed in: %v", i, given)
		}
	}
	again := answers(given)
	scratch(reflect.ValueOf(given))
	for i, x := range again {
		if a, b := plain(x), plain(want[i]); !reflect.DeepEqual(a, b) {
			t.Fatalf("answer %d is kept: %v, not %v", i, a, b)
		}
	}
}

// plain is x copied, so that nil and empty lists are one.
func plain(x any) any { return copied(reflect.ValueOf(x), false).Interface() }

// Nor do two States of one answer share anything, or two lists of one State.
func TestAnswersShareNothingWithOneAnother(t *testing.T) {
	want := answers(argsOf(t))
	got := answers(argsOf(t))
	one := argsOf(t)
	one.S.Gone, one.S.Floor = one.S.Certs, one.S.Certs
	one.S.Rows = matrix.Matrix{{Id: "0", Vec: one.S.Certs}, {Id: "02", Vec: one.S.Certs}}
	one.Heir.Store, one.Heir.Zone, one.Heir.Members = one.S.Store, one.S.Zone, one.S.Members
	want, got = append(want, answers(one)...), append(got, answers(one)...)
	for i, x := range got {
		scratch(reflect.ValueOf(x))
		for k := i + 1; k < len(got); k++ {
			if !reflect.DeepEqual(plain(got[k]), plain(want[k])) {
				t.Fatalf("answers %d and %d share something", i, k)
			}
		}
	}
	for i, x := range answers(one) {
		v := reflect.ValueOf(x)
		if v.Kind() != reflect.Struct {
			continue
		}
		for f := range v.NumField() {
			y := reflect.ValueOf(answers(one)[i])
			scratch(y.Field(f))
			for g := range v.NumField() {
				a, b := copied(y.Field(g), false).Interface(), copied(v.Field(g), false).Interface()
				if g != f && !reflect.DeepEqual(a, b) {
					t.Fatalf("answer %d: %s and %s share something", i, v.Type().Field(f).Name, v.Type().Field(g).Name)
				}
			}
		}
	}
}

// A State that can't be is handed back as it was, beside an error.
func TestWrongStatesStayBesideAnError(t *testing.T) {
	for i, s := range wrongStates(t) {
		s.How = node.Retired
		a, e := node.Write(s, 0, 0, "")
		b, f := node.Delete(s, 0)
		c, g := node.SetZone(s, zone.Everywhere())
		d, _, h := node.Child(s)
		x, y, j := node.Retire(s, s)
		z, k := node.Expel(s, "02")
		for _, e := range []api.Errno{e, f, g, h, j, k} {
			if e != api.ErrState {
				t.Errorf("%d: %d", i, e)
			}
		}
		for _, got := range []node.State{a, b, c, d, x, y, z} {
			if !reflect.DeepEqual(plain(got), plain(s)) {
				t.Errorf("%d: %v, not %v", i, got, s)
			}
		}
	}
}

func wrongStates(t *testing.T) []node.State {
	all := []node.State{{}, {Id: "no id"}, {Id: "0123456", Kids: -5}, {Id: "01", Kids: -1 << 63, Seq: -1 << 63, Clock: -1 << 63}}
	wrongVec := vec.Vec{at("02", -1), at("01", 1<<62), at("01", 0), at("no id", 5)}
	for n := range 10 {
		s := rich(t)
		switch n {
		case 0:
			s.Know = know.Know{{Id: "02", Span: span.Span{Upto: -5, Extra: []int{9, 3, 3, -1}}}, knows("01", 1<<62), knows("", 0)}
		case 1:
			s.Gone = wrongVec
		case 2:
			s.Floor = wrongVec
		case 3:
			s.Store = store.Store{deadOne(9, version("", -1, -1)), {Key: 3, Dead: true, Held: true}, {Key: -1, Text: "a"}, stubOf(3, version("0", 1, 1), 0.5)}
		case 4:
			s.Zone = zone.Zone{{Op: zone.And}, {Op: 99}}
		case 5:
			s.Members = []id.Id{"09", "", "0", "0", "no id"}
		case 6:
			s.Certs = wrongVec
		case 7:
			s.Rows = matrix.Matrix{{Id: "02", Vec: wrongVec}, {}, {Id: "01", Vec: vec.Vec{}}, {Id: "01", Vec: wrongVec}}
		case 8:
			s.Gone = vec.Vec{at("0", 3), at("01", 1)}
		case 9:
			s.Seq, s.Clock, s.Kids = -3, -3, -3
		}
		all = append(all, s)
	}
	return all
}

func TestNoCallPanics(t *testing.T) {
	all := append(wrongStates(t), rich(t), heirOf(t), node.Root())
	for _, s := range all {
		for _, other := range all {
			node.Learn(s, other.Know)
			node.Meta(s, other.Members, other.Certs, other.Rows)
			node.SetZone(s, other.Zone)
			node.Retire(s, other)
			node.Expel(s, other.Id)
		}
		for _, key := range keys {
			node.Read(s, key)
			node.Write(s, key, 0, "a")
			node.Delete(s, key)
		}
		node.Child(s)
		node.Wants(s)
		node.All(s)
		node.Settle(s)
	}
}
