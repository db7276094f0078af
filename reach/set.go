package reach

import (
	"cmp"
	"maps"
	"slices"
)

// set is a set of numbers.
type set[N cmp.Ordered] map[N]struct{}

// setOf is the set of these.
func setOf[N cmp.Ordered](l ...N) set[N] {
	s := make(set[N], len(l))
	for _, n := range l {
		s.put(n)
	}
	return s
}

// put puts a number in.
func (s set[N]) put(n N) { s[n] = struct{}{} }

// has tells whether a number is in it.
func (s set[N]) has(n N) bool {
	_, in := s[n]
	return in
}

// rising are its numbers in order.
func (s set[N]) rising() []N { return slices.Sorted(maps.Keys(s)) }

// lacks are those of a list that are not in it, as they stand.
func (s set[N]) lacks(l []N) []N {
	var out []N
	for _, n := range l {
		if !s.has(n) {
			out = append(out, n)
		}
	}
	return out
}
