package room_test

import (
	"graftwood/api"
	"graftwood/node"
)

// top is how many manifests and edges there may be, and how often a node may be spoken of.
const top = 1 << 40

// before tells whether a node that may be comes ahead of another one.
func before(a, b api.Node) bool {
	c, e := node.Cmp(a, b)
	return e == api.OK && c < 0
}

// may tells whether use may be.
func may(u api.Use) bool {
	if u.Manifests < 0 || u.Manifests > top || u.Edges < 0 || u.Edges > top {
		return false
	}
	for i, e := range u.Said {
		if !node.May(e.N) || e.By < 1 || e.By > top || i > 0 && !before(u.Said[i-1].N, e.N) {
			return false
		}
	}
	return true
}

// allMay tells whether all nodes may be.
func allMay(l []api.Node) bool {
	for _, n := range l {
		if !node.May(n) {
			return false
		}
	}
	return true
}

// often is how often nodes are spoken of.
func often(l []api.Edit) map[api.Node]int {
	m := map[api.Node]int{}
	for _, e := range l {
		m[e.N] += e.By
	}
	return m
}

// placed are nodes that are spoken of, in order: each goes behind as many as come ahead of it.
func placed(m map[api.Node]int) []api.Edit {
	many := 0
	for _, times := range m {
		if times != 0 {
			many++
		}
	}
	l := make([]api.Edit, many)
	for n, times := range m {
		if times == 0 {
			continue
		}
		ahead := 0
		for o, other := range m {
			if other != 0 && before(o, n) {
				ahead++
			}
		}
		l[ahead] = api.Edit{N: n, By: times}
	}
	return l
}

// allOf is what Of tells.
func allOf(keys []api.Node, lists [][]api.Node, root []api.Node) (api.Use, api.Errno) {
	if len(keys) != len(lists) || !allMay(keys) || !allMay(root) {
		return api.Use{}, api.ErrArg
	}
	m := map[api.Node]int{}
	edges := 0
	for _, n := range root {
		m[n]++
		edges++
	}
	for i, l := range lists {
		if !allMay(l) {
			return api.Use{}, api.ErrArg
		}
		m[keys[i]]++
		for _, n := range l {
			m[n]++
			edges++
		}
	}
	return api.Use{Manifests: len(keys), Edges: edges, Said: placed(m)}, api.OK
}

// taken is what Take tells.
func taken(u api.Use, key api.Node, l []api.Node) (api.Use, api.Errno) {
	if !may(u) || !node.May(key) || !allMay(l) {
		return u, api.ErrArg
	}
	m := often(u.Said)
	m[key]++
	for _, n := range l {
		m[n]++
	}
	return orLarge(u, api.Use{Manifests: u.Manifests + 1, Edges: u.Edges + len(l), Said: placed(m)})
}

// given is what Give tells.
func given(u api.Use, key api.Node, l []api.Node) (api.Use, api.Errno) {
	if !may(u) || !node.May(key) || !allMay(l) {
		return u, api.ErrArg
	}
	m := often(u.Said)
	m[key]--
	for _, n := range l {
		m[n]--
	}
	return orNone(u, api.Use{Manifests: u.Manifests - 1, Edges: u.Edges - len(l), Said: placed(m)})
}

// rooted is what Root tells.
func rooted(u api.Use, n api.Node, on bool) (api.Use, api.Errno) {
	if !may(u) || !node.May(n) {
		return u, api.ErrArg
	}
	m := often(u.Said)
	if on {
		m[n]++
		return orLarge(u, api.Use{Manifests: u.Manifests, Edges: u.Edges + 1, Said: placed(m)})
	}
	m[n]--
	return orNone(u, api.Use{Manifests: u.Manifests, Edges: u.Edges - 1, Said: placed(m)})
}

// orLarge is what use comes to, or, if something of that is too many, use as it was.
func orLarge(was, is api.Use) (api.Use, api.Errno) {
	for _, e := range is.Said {
		if e.By > top {
			return was, api.ErrLarge
		}
	}
	if is.Manifests > top || is.Edges > top {
		return was, api.ErrLarge
	}
	return is, api.OK
}

// orNone is what use comes to, or, if something of that is less than none, use as it was.
func orNone(was, is api.Use) (api.Use, api.Errno) {
	for _, e := range is.Said {
		if e.By < 0 {
			return was, api.ErrNone
		}
	}
	if is.Manifests < 0 || is.Edges < 0 {
		return was, api.ErrNone
	}
	return is, api.OK
}

// fitting is what Fits tells.
func fitting(l api.Limits, u api.Use) api.Errno {
	if !may(u) {
		return api.ErrArg
	}
	if l.Manifests < u.Manifests {
		return api.ErrManifests
	}
	if l.Nodes < len(u.Said) {
		return api.ErrNodes
	}
	if l.Edges < u.Edges {
		return api.ErrEdges
	}
	return api.OK
}

// alike tells whether all parts of two are the same.
func alike(a, b api.Use) bool {
	if a.Manifests != b.Manifests || a.Edges != b.Edges || len(a.Said) != len(b.Said) {
		return false
	}
	for i, e := range a.Said {
		o := b.Said[i]
		if e.N.Path != o.N.Path || e.N.Version != o.N.Version || e.By != o.By {
			return false
		}
	}
	return true
}
