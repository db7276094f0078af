package reach_test

import (
	"cmp"
	"slices"

	"graftwood/api"
)

// top is how often a pair may be there.
const top = 1 << 40

// pair is an edge's From and To.
type pair [2]int

// able tells whether there may be an edge of a pair.
func able(p pair) bool { return p[0] >= -1 && p[1] >= 0 }

// fits tells whether edges may be.
func fits(l []api.Edge) bool {
	for i, e := range l {
		if !able(pair{e.From, e.To}) || e.N <= 0 || e.N > top {
			return false
		}
		for _, f := range l[:i] {
			if f.From > e.From || f.From == e.From && f.To >= e.To {
				return false
			}
		}
	}
	return true
}

// counts are how often each pair is there.
func counts(l []api.Edge) map[pair]int {
	m := map[pair]int{}
	for _, e := range l {
		m[pair{e.From, e.To}] = e.N
	}
	return m
}

// listed are the edges of such counts.
func listed(m map[pair]int) []api.Edge {
	var l []api.Edge
	for p, n := range m {
		if n > 0 {
			l = append(l, api.Edge{From: p[0], To: p[1], N: n})
		}
	}
	slices.SortFunc(l, func(a, b api.Edge) int { return cmp.Or(cmp.Compare(a.From, b.From), cmp.Compare(a.To, b.To)) })
	return l
}

// live are the numbers that edges reach from Root, rising: edge by edge, again and again, till no edge leads to another one.
func live(l []api.Edge) []int {
	var out []int
	for more := true; more; {
		more = false
		for _, e := range l {
			if (e.From == -1 || slices.Contains(out, e.From)) && !slices.Contains(out, e.To) {
				out = append(out, e.To)
				more = true
			}
		}
	}
	slices.Sort(out)
	return out
}

// of is what Of tells.
func of(l []api.Edge) (api.Graph, api.Errno) {
	if !fits(l) {
		return api.Graph{}, api.ErrArg
	}
	return api.Graph{Edges: l, Live: live(l)}, api.OK
}

// may tells whether a graph may be.
func may(g api.Graph) bool { return fits(g.Edges) && equal(g.Live, live(g.Edges)) }

// beside are the numbers of a list that are not in another one.
func beside(l, other []int) []int {
	var out []int
	for _, n := range l {
		if !slices.Contains(other, n) {
			out = append(out, n)
		}
	}
	return out
}

// linked is what Link tells.
func linked(g api.Graph, p pair) (api.Graph, []int, api.Errno) {
	if !may(g) || !able(p) {
		return g, nil, api.ErrArg
	}
	m := counts(g.Edges)
	if m[p] == top {
		return g, nil, api.ErrLarge
	}
	m[p]++
	x, _ := of(listed(m))
	return x, beside(x.Live, g.Live), api.OK
}

// unlinked is what Unlink tells.
func unlinked(g api.Graph, p pair) (api.Graph, []int, api.Errno) {
	if !may(g) || !able(p) {
		return g, nil, api.ErrArg
	}
	m := counts(g.Edges)
	if m[p] == 0 {
		return g, nil, api.ErrNone
	}
	m[p]--
	x, _ := of(listed(m))
	return x, beside(g.Live, x.Live), api.OK
}

// equal tells whether two lists are the same.
func equal[T comparable](a, b []T) bool {
	if len(a) != len(b) {
		return false
	}
	for i := range a {
		if a[i] != b[i] {
			return false
		}
	}
	return true
}

// alike tells whether both parts of two graphs are the same.
func alike(a, b api.Graph) bool { return equal(a.Edges, b.Edges) && equal(a.Live, b.Live) }
