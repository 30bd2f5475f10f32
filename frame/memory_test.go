package frame_test

import (
	"fmt"
	"reflect"
	"slices"
	"strings"
	"testing"

	"cenotaph/api"
	"cenotaph/frame"
	"cenotaph/zone"
)

// spread hands each list in x to do, those inside it, and inside its spare room, first.
func spread(x reflect.Value, do func(reflect.Value)) {
	switch x.Kind() {
	case reflect.Struct:
		for i := range x.NumField() {
			spread(x.Field(i), do)
		}
	case reflect.Slice:
		whole := x.Slice(0, x.Cap())
		for i := range whole.Len() {
			spread(whole.Index(i), do)
		}
		do(x)
	}
}

// roomy is f in new memory, each list with spare room, in which stands what stands in the list.
func roomy(f frame.Frame) frame.Frame {
	var renew func(x reflect.Value)
	renew = func(x reflect.Value) {
		switch x.Kind() {
		case reflect.Struct:
			for i := range x.NumField() {
				renew(x.Field(i))
			}
		case reflect.Slice:
			n := x.Len()
			more := reflect.MakeSlice(x.Type(), 2*n+1, 2*n+1)
			reflect.Copy(more, x)
			reflect.Copy(more.Slice(n, 2*n), x)
			for i := range more.Len() {
				renew(more.Index(i))
			}
			x.Set(more.Slice(0, n))
		}
	}
	renew(reflect.ValueOf(&f).Elem())
	return f
}

// told is all that stands in x's lists and in their spare room.
func told(x reflect.Value) string {
	var b strings.Builder
	spread(x, func(l reflect.Value) { fmt.Fprintln(&b, l.Slice(0, l.Cap())) })
	return b.String()
}

// room is where in memory a list stands, with its spare room.
type room struct{ from, to uintptr }

func rooms(x reflect.Value) []room {
	var l []room
	spread(x, func(s reflect.Value) {
		if size := uintptr(s.Cap()) * s.Type().Elem().Size(); size > 0 {
			l = append(l, room{s.Pointer(), s.Pointer() + size})
		}
	})
	return l
}

// shared: do two of the lists stand, in part, at one place?
func shared(l []room) bool {
	slices.SortFunc(l, func(a, b room) int { return int(a.from) - int(b.from) })
	for i := 1; i < len(l); i++ {
		if l[i].from < l[i-1].to {
			return true
		}
	}
	return false
}

func TestFramesHandedInStayAndAreNotShared(t *testing.T) {
	for i, f := range append(rightOnes(), wrongOnes()...) {
		given := roomy(f)
		v := reflect.ValueOf(given)
		kept := told(v)
		if shared(rooms(v)) {
			t.Fatal("the test's own lists share something")
		}
		frame.Right(given)
		frame.Same(given, given)
		answer, second := frame.Put(given), frame.Put(given)
		all := append(rooms(v), append(rooms(reflect.ValueOf(answer)), rooms(reflect.ValueOf(second))...)...)
		if told(v) != kept || shared(all) {
			t.Fatalf("%d: Put of %v changed or shares it", i, f)
		}
	}
}

func TestBytesHandedInStayAndAreNotShared(t *testing.T) {
	var l []frame.Frame
	for _, f := range rightOnes() {
		l = append(l, f, with(f, func(f *frame.Frame) { f.From, f.To = f.To, f.From }))
	}
	for _, f := range l {
		whole := append(frame.Put(f), "spare room"...)
		kept := string(whole)
		b := whole[:len(whole)-len("spare room")]
		got, errno := frame.Take(b)
		second, _ := frame.Take(b)
		frame.Take(b[:len(b)/2])
		all := append(rooms(reflect.ValueOf(whole)), append(rooms(reflect.ValueOf(got)), rooms(reflect.ValueOf(second))...)...)
		if string(whole) != kept || shared(all) {
			t.Fatalf("Take of %q changed or shares it, or a list with another one", kept)
		}
		for i := range whole {
			whole[i] = '!'
		}
		if errno != api.OK || !frame.Same(got, f) || !frame.Same(second, f) {
			t.Fatalf("Take of %q keeps it: %v", kept, got)
		}
	}
}

func TestNoCallPanics(t *testing.T) {
	all := append(rightOnes(), wrongOnes()...)
	all = append(all, frame.Frame{Kind: frame.Ask, From: "0", To: "0", Zone: make(zone.Zone, 100000)})
	for _, f := range all {
		frame.Right(f)
		frame.Put(f)
		for _, g := range all {
			frame.Same(f, g)
		}
	}
}
