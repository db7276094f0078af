package intern_test

import (
	"slices"

	"graftwood/api"
	"graftwood/node"
)

// fits tells whether names may be.
func fits(m api.Names) bool {
	for i, n := range m.L {
		if !node.May(n) || slices.Contains(m.L[:i], n) {
			return false
		}
	}
	return true
}

// able tells whether each of some nodes may be.
func able(l []api.Node) bool {
	return !slices.ContainsFunc(l, func(n api.Node) bool { return !node.May(n) })
}

// found is what Find tells.
func found(m api.Names, n api.Node) (int, api.Errno) {
	if !fits(m) || !node.May(n) {
		return 0, api.ErrArg
	}
	if at := slices.Index(m.L, n); at >= 0 {
		return at, api.OK
	}
	return 0, api.ErrNone
}

// there is what At tells.
func there(m api.Names, ids []int) ([]api.Node, api.Errno) {
	if !fits(m) {
		return nil, api.ErrArg
	}
	var l []api.Node
	for _, id := range ids {
		if id < 0 || id > len(m.L)-1 {
			return nil, api.ErrNone
		}
		l = append(l, m.L[id])
	}
	return l, api.OK
}

// given is what All tells: each node goes behind the others, if it is not among them.
func given(m api.Names, l []api.Node) ([]int, api.Names, api.Errno) {
	if !fits(m) || !able(l) {
		return nil, m, api.ErrArg
	}
	names := slices.Clone(m.L)
	for _, n := range l {
		if !slices.Contains(names, n) {
			names = append(names, n)
		}
	}
	var ids []int
	for _, n := range l {
		ids = append(ids, slices.Index(names, n))
	}
	return ids, api.Names{L: names}, api.OK
}

// equal tells whether names are alike.
func equal(a, b api.Names) bool { return slices.Equal(a.L, b.L) }

// deep are names in memory of their own.
func deep(m api.Names) api.Names { return api.Names{L: slices.Clone(m.L)} }

// namesOf are names of some nodes.
func namesOf(l ...api.Node) api.Names { return api.Names{L: l} }
