// Package vec is layer 3: of each of some how far: see shared/doc/03-vec.md.
package vec

import (
	"slices"

	"cenotaph/api"
	"cenotaph/id"
)

// At is one, and how far.
type At struct {
	Id id.Id
	N  int
}

// Vec is some, rising.
type Vec []At

// Right: may it be? One that is 0 far isn't there: so there is one Vec for all that it says.
func Right(v Vec) bool {
	for i, x := range v {
		if !id.Right(x.Id) || x.N < 1 || x.N > api.MaxSeq {
			return false
		}
		if i > 0 && id.Compare(v[i-1].Id, x.Id) >= 0 {
			return false
		}
	}
	return true
}

// Of is how far a is.
func Of(v Vec, a id.Id) int {
	i, found := slices.BinarySearchFunc(v, a, order)
	if !found {
		return 0
	}
	return v[i].N
}

func order(x At, a id.Id) int { return id.Compare(x.Id, a) }

// Set is v, where a is n far at least.
func Set(v Vec, a id.Id, n int) Vec {
	if !id.Right(a) || n < 1 {
		return Join(v, nil)
	}
	return Join(v, Vec{{Id: a, N: min(n, api.MaxSeq)}})
}

// Join is of each the greater one.
func Join(a, b Vec) Vec {
	var v Vec
	for len(a) > 0 && len(b) > 0 {
		switch c := order(a[0], b[0].Id); {
		case c < 0:
			v, a = append(v, a[0]), a[1:]
		case c > 0:
			v, b = append(v, b[0]), b[1:]
		default:
			v = append(v, At{Id: a[0].Id, N: max(a[0].N, b[0].N)})
			a, b = a[1:], b[1:]
		}
	}
	return append(append(v, a...), b...)
}

// Meet is of each the lesser one: who lacks in either is 0 far there, and stands in no Vec.
func Meet(a, b Vec) Vec {
	var v Vec
	for _, x := range a {
		if n := min(x.N, Of(b, x.Id)); n > 0 {
			v = append(v, At{Id: x.Id, N: n})
		}
	}
	return v
}

// Within: is none farther in a than in b?
func Within(a, b Vec) bool {
	for _, x := range a {
		if x.N > Of(b, x.Id) {
			return false
		}
	}
	return true
}

// Drop is v without a.
func Drop(v Vec, a id.Id) Vec {
	var rest Vec
	for _, x := range v {
		if x.Id != a {
			rest = append(rest, x)
		}
	}
	return rest
}

// Same: do both say the same?
func Same(a, b Vec) bool { return slices.Equal(a, b) }
