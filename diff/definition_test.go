package diff_test

import (
	"graftwood/api"
	"graftwood/node"
)

// top is as far as a By goes, either way.
const top = 1 << 40

// before tells whether a node that may be comes ahead of another one.
func before(a, b api.Node) bool {
	c, e := node.Cmp(a, b)
	return e == api.OK && c < 0
}

// fits tells whether edits may be.
func fits(l []api.Edit) bool {
	for i, e := range l {
		if !node.May(e.N) || e.By == 0 || e.By > top || e.By < -top {
			return false
		}
		for _, f := range l[:i] {
			if !before(f.N, e.N) {
				return false
			}
		}
	}
	return true
}

// allMay tells whether all nodes may be.
func allMay(l []api.Node) bool {
	for _, n := range l {
		if !node.May(n) {
			return false
		}
	}
	return true
}

// often is how often a node is there.
func often(l []api.Node, n api.Node) int {
	times := 0
	for _, m := range l {
		if m.Path == n.Path && m.Version == n.Version {
			times++
		}
	}
	return times
}

// by is what edits say of a node.
func by(l []api.Edit, n api.Node) int {
	for _, e := range l {
		if e.N.Path == n.Path && e.N.Version == n.Version {
			return e.By
		}
	}
	return 0
}

// placed are edits of different nodes, without those by 0: each goes behind as many as come ahead of it.
func placed(m map[api.Node]int) []api.Edit {
	many := 0
	for _, by := range m {
		if by != 0 {
			many++
		}
	}
	l := make([]api.Edit, many)
	for n, by := range m {
		if by == 0 {
			continue
		}
		ahead := 0
		for o, other := range m {
			if other != 0 && before(o, n) {
				ahead++
			}
		}
		l[ahead] = api.Edit{N: n, By: by}
	}
	return l
}

// between is what Diff tells.
func between(old, now []api.Node) ([]api.Edit, api.Errno) {
	if !allMay(old) || !allMay(now) {
		return nil, api.ErrArg
	}
	m := map[api.Node]int{}
	for _, l := range [][]api.Node{old, now} {
		for _, n := range l {
			m[n] = often(now, n) - often(old, n)
		}
	}
	return placed(m), api.OK
}

// counted is what Count tells.
func counted(l []api.Node) ([]api.Edit, api.Errno) {
	if !allMay(l) {
		return nil, api.ErrArg
	}
	m := map[api.Node]int{}
	for _, n := range l {
		m[n] = often(l, n)
	}
	return placed(m), api.OK
}

// joined is what Both tells.
func joined(a, b []api.Edit) ([]api.Edit, api.Errno) {
	if !fits(a) || !fits(b) {
		return nil, api.ErrArg
	}
	m := map[api.Node]int{}
	for _, l := range [][]api.Edit{a, b} {
		for _, e := range l {
			m[e.N] = by(a, e.N) + by(b, e.N)
			if m[e.N] > top || m[e.N] < -top {
				return nil, api.ErrLarge
			}
		}
	}
	return placed(m), api.OK
}

// turned is what Turn tells.
func turned(l []api.Edit) ([]api.Edit, api.Errno) {
	if !fits(l) {
		return nil, api.ErrArg
	}
	var out []api.Edit
	for _, e := range l {
		out = append(out, api.Edit{N: e.N, By: 0 - e.By})
	}
	return out, api.OK
}

// equal tells whether edits are alike: as many, and each as the other one.
func equal(a, b []api.Edit) bool {
	if len(a) != len(b) {
		return false
	}
	for i := range a {
		if a[i].N.Path != b[i].N.Path || a[i].N.Version != b[i].N.Version || a[i].By != b[i].By {
			return false
		}
	}
	return true
}
