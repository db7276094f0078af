package edges_test

import (
	"cmp"
	"slices"

	"graftwood/api"
)

// top is how often a pair may be there.
const top = 1 << 40

// pair is an edge's From and To.
type pair [2]int

// before tells whether a pair is ahead of another one.
func before(a, b pair) bool { return a[0] < b[0] || a[0] == b[0] && a[1] < b[1] }

// able tells whether a pair may be asked.
func able(p pair) bool { return p[0] >= -1 && p[1] >= 0 }

// fits tells whether edges may be.
func fits(l []api.Edge) bool {
	for i, e := range l {
		p := pair{e.From, e.To}
		if !able(p) || e.N <= 0 || e.N > top {
			return false
		}
		for _, f := range l[:i] {
			if !before(pair{f.From, f.To}, p) {
				return false
			}
		}
	}
	return true
}

// counts are how often each pair is there.
func counts(l []api.Edge) map[pair]int {
	m := map[pair]int{}
	for _, e := range l {
		m[pair{e.From, e.To}] = e.N
	}
	return m
}

// listed are the edges of such counts.
func listed(m map[pair]int) []api.Edge {
	var l []api.Edge
	for p, n := range m {
		if n > 0 {
			l = append(l, api.Edge{From: p[0], To: p[1], N: n})
		}
	}
	slices.SortFunc(l, func(a, b api.Edge) int { return cmp.Or(cmp.Compare(a.From, b.From), cmp.Compare(a.To, b.To)) })
	return l
}

// often is what Many tells.
func often(l []api.Edge, p pair) (int, api.Errno) {
	if !fits(l) || !able(p) {
		return 0, api.ErrArg
	}
	return counts(l)[p], api.OK
}

// more is what Add tells.
func more(l []api.Edge, p pair) ([]api.Edge, api.Errno) {
	if !fits(l) || !able(p) {
		return nil, api.ErrArg
	}
	m := counts(l)
	if m[p] == top {
		return nil, api.ErrLarge
	}
	m[p]++
	return listed(m), api.OK
}

// less is what Drop tells.
func less(l []api.Edge, p pair) ([]api.Edge, api.Errno) {
	if !fits(l) || !able(p) {
		return nil, api.ErrArg
	}
	m := counts(l)
	if m[p] == 0 {
		return nil, api.ErrNone
	}
	m[p]--
	return listed(m), api.OK
}

// led are the other ends of the pairs that have a number at a place, rising.
func led(l []api.Edge, place, number int) ([]int, api.Errno) {
	if !fits(l) || number < place-1 {
		return nil, api.ErrArg
	}
	var out []int
	for p := range counts(l) {
		if p[place] == number {
			out = append(out, p[1-place])
		}
	}
	slices.Sort(out)
	return out, api.OK
}

// ended is what Ends tells.
func ended(l []api.Edge) (int, api.Errno) {
	if !fits(l) {
		return 0, api.ErrArg
	}
	var ends []int
	for _, e := range l {
		for _, n := range []int{e.From, e.To} {
			if n >= 0 && !slices.Contains(ends, n) {
				ends = append(ends, n)
			}
		}
	}
	return len(ends), api.OK
}
