// Package id is layer 1: names that are handed out without asking anybody: see shared/doc/01-id.md.
package id

import (
	"slices"
	"strconv"
	"strings"

	"cenotaph/api"
)

// Id is a name.
type Id string

// Root is the first one's.
const Root Id = "0"

// Right: may it be an Id?
func Right(a Id) bool {
	if len(a) > api.MaxDepth || !strings.HasPrefix(string(a), string(Root)) {
		return false
	}
	for i := len(Root); i < len(a); i++ {
		if a[i] < '1' || a[i] > '0'+api.MaxKids {
			return false
		}
	}
	return true
}

// Child is the name that a hands out as its k-th.
func Child(a Id, k int) (Id, api.Errno) {
	switch {
	case !Right(a):
		return "", api.ErrId
	case k < 1 || k > api.MaxKids:
		return "", api.ErrArg
	case len(a) == api.MaxDepth:
		return "", api.ErrFull
	}
	return a + Id(strconv.Itoa(k)), api.OK
}

// Parent is the one that handed a out.
func Parent(a Id) (Id, api.Errno) {
	switch {
	case !Right(a):
		return "", api.ErrId
	case a == Root:
		return "", api.ErrRoot
	}
	return a[:len(a)-1], api.OK
}

// Depth is how many signs a has; 0 tells that it is no Id.
func Depth(a Id) int {
	if !Right(a) {
		return 0
	}
	return len(a)
}

// Above: does b come from a, by however many steps?
func Above(a, b Id) bool {
	return Right(a) && Right(b) && len(b) > len(a) && strings.HasPrefix(string(b), string(a))
}

// Compare is the order of all lists of ids: -1, 0 or 1.
func Compare(a, b Id) int { return strings.Compare(string(a), string(b)) }

// Parse is a text as an Id.
func Parse(s string) (Id, api.Errno) {
	if !Right(Id(s)) {
		return "", api.ErrWord
	}
	return Id(s), api.OK
}

// Add is l with a.
func Add(l []Id, a Id) []Id { return Union(l, []Id{a}) }

// Has: is a there?
func Has(l []Id, a Id) bool { return slices.Contains(l, a) }

// Union is all of both; it sorts, since either may come in any order.
func Union(a, b []Id) []Id {
	all := slices.Concat(a, b)
	slices.SortFunc(all, Compare)
	return slices.Compact(all)
}
