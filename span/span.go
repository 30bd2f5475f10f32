// Package span is layer 2: numbers from 1 on, most of them side by side: see shared/doc/02-span.md.
package span

import (
	"slices"

	"cenotaph/api"
)

// Span is the numbers 1 to Upto, and some beyond.
type Span struct {
	Upto  int
	Extra []int
}

// Right: may it be? A number right behind Upto would belong to Upto: so each set has one Span.
func Right(s Span) bool {
	if s.Upto < 0 || s.Upto > api.MaxSeq || len(s.Extra) > api.MaxExtra {
		return false
	}
	below := s.Upto + 1
	for _, n := range s.Extra {
		if n <= below || n > api.MaxSeq {
			return false
		}
		below = n
	}
	return true
}

// First is 1 to n.
func First(n int) Span { return Span{Upto: min(max(n, 0), api.MaxSeq)} }

// Has: is n in s?
func Has(s Span, n int) bool {
	if n <= s.Upto {
		return n >= 1
	}
	_, found := slices.BinarySearch(s.Extra, n)
	return found
}

// Add is s with n.
func Add(s Span, n int) Span {
	if n < 1 || n > api.MaxSeq {
		return Span{Upto: s.Upto, Extra: slices.Concat(s.Extra)}
	}
	return Union(s, Span{Extra: []int{n}})
}

// Union is what either has.
func Union(a, b Span) Span {
	s := First(max(a.Upto, b.Upto))
	x, y := a.Extra, b.Extra
	for len(x) > 0 && len(y) > 0 {
		if x[0] <= y[0] {
			s, x = push(s, x[0]), x[1:]
		} else {
			s, y = push(s, y[0]), y[1:]
		}
	}
	return pushAll(pushAll(s, x), y)
}

// push is s with n, where numbers come rising: so what isn't above the greatest one is there already, and
// Extra is still empty when a number comes that stands right behind Upto. It appends to s's own Extra: it is
// for a Span that is being made, not for one that was handed in.
func push(s Span, n int) Span {
	switch {
	case n <= Top(s):
	case n == s.Upto+1:
		s.Upto = n
	default:
		s.Extra = append(s.Extra, n)
	}
	return s
}

func pushAll(s Span, numbers []int) Span {
	for _, n := range numbers {
		s = push(s, n)
	}
	return s
}

// Within: has b all that a has? What stands right behind b's Upto b never has, so a's may not go beyond.
func Within(a, b Span) bool {
	if a.Upto > b.Upto {
		return false
	}
	for _, n := range a.Extra {
		if !Has(b, n) {
			return false
		}
	}
	return true
}

// Count is how many numbers s has.
func Count(s Span) int { return s.Upto + len(s.Extra) }

// Top is the greatest one; 0 tells that there is none.
func Top(s Span) int {
	if len(s.Extra) == 0 {
		return s.Upto
	}
	return s.Extra[len(s.Extra)-1]
}

// Same: have both the same numbers?
func Same(a, b Span) bool { return a.Upto == b.Upto && slices.Equal(a.Extra, b.Extra) }
