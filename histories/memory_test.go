package histories

import (
	"fmt"
	"reflect"
	"slices"
	"strings"
	"testing"

	"cenotaph/frame"
	"cenotaph/node"
)

// spread hands each list in x to do, those inside it, and inside its spare room, first.
func spread(x reflect.Value, do func(reflect.Value)) {
	switch x.Kind() {
	case reflect.Struct:
		for i := range x.NumField() {
			spread(x.Field(i), do)
		}
	case reflect.Slice:
		whole := x.Slice(0, x.Cap())
		for i := range whole.Len() {
			spread(whole.Index(i), do)
		}
		do(x)
	}
}

// roomy is x in new memory, each list with spare room, in which stands what stands in the list.
func roomy[T any](x T) T {
	var renew func(x reflect.Value)
	renew = func(x reflect.Value) {
		switch x.Kind() {
		case reflect.Struct:
			for i := range x.NumField() {
				renew(x.Field(i))
			}
		case reflect.Slice:
			n := x.Len()
			more := reflect.MakeSlice(x.Type(), 2*n+1, 2*n+1)
			reflect.Copy(more, x)
			reflect.Copy(more.Slice(n, 2*n), x)
			for i := range more.Len() {
				renew(more.Index(i))
			}
			x.Set(more.Slice(0, n))
		}
	}
	renew(reflect.ValueOf(&x).Elem())
	return x
}

// told is all that stands in the lists of those, and in their spare room.
func told(all []reflect.Value) string {
	var b strings.Builder
	for _, x := range all {
		spread(x, func(l reflect.Value) { fmt.Fprintln(&b, l.Slice(0, l.Cap())) })
	}
	return b.String()
}

// room is where in memory a list stands, with its spare room.
type room struct{ from, to uintptr }

// shared: do two lists of those stand, in part, at one place?
func shared(all []reflect.Value) bool {
	var l []room
	for _, x := range all {
		spread(x, func(s reflect.Value) {
			if size := uintptr(s.Cap()) * s.Type().Elem().Size(); size > 0 {
				l = append(l, room{s.Pointer(), s.Pointer() + size})
			}
		})
	}
	slices.SortFunc(l, func(a, b room) int { return int(a.from) - int(b.from) })
	for i := 1; i < len(l); i++ {
		if l[i].from < l[i-1].to {
			return true
		}
	}
	return false
}

// watch is what a call is handed, with spare room, and what is to be asked of its answers: did it change what it was
// handed, and do they share anything with it, or with one another?
func (w *world) watch(s node.State, f frame.Frame) (node.State, frame.Frame, func(answers ...any)) {
	if !w.watched {
		return s, f, func(...any) {}
	}
	s, f = roomy(s), roomy(f)
	return s, f, handed(w.t, s, f)
}

// handed is what is to be asked of a call's answers when it was handed those.
func handed(t *testing.T, given ...any) func(answers ...any) {
	all := values(given)
	kept := told(all)
	return func(answers ...any) {
		t.Helper()
		if told(all) != kept {
			t.Fatalf("what was handed in is changed: %v", given)
		}
		if shared(append(all, values(answers)...)) {
			t.Fatalf("something is shared: %v", answers)
		}
	}
}

func values(l []any) []reflect.Value {
	var all []reflect.Value
	for _, x := range l {
		all = append(all, reflect.ValueOf(x))
	}
	return all
}
