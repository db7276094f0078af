package tally_test

import (
	"slices"

	"graftwood/api"
	"graftwood/path"
	"graftwood/version"
)

// earlier tells whether a version that may be comes ahead of another one.
func earlier(v, w string) bool {
	c, e := version.Cmp(v, w)
	return e == api.OK && c < 0
}

// able tells whether a node may be.
func able(n api.Node) bool { return path.May(n.Path) && version.May(n.Version) }

// may tells whether rows may be: each path, and each version of a row, is held against all that stand ahead of it.
func may(l []api.Row) bool {
	for i, r := range l {
		if !path.May(r.Path) || len(r.Versions) == 0 {
			return false
		}
		for _, o := range l[:i] {
			if o.Path >= r.Path {
				return false
			}
		}
		for j, v := range r.Versions {
			if !version.May(v) || slices.ContainsFunc(r.Versions[:j], func(w string) bool { return !earlier(w, v) }) {
				return false
			}
		}
	}
	return true
}

// kept are the nodes of rows.
func kept(l []api.Row) map[api.Node]bool {
	m := map[api.Node]bool{}
	for _, r := range l {
		for _, v := range r.Versions {
			m[api.Node{Path: r.Path, Version: v}] = true
		}
	}
	return m
}

// placed are texts, none twice, each behind as many as come ahead of it.
func placed(l []string, before func(a, b string) bool) []string {
	out := make([]string, len(l))
	for _, s := range l {
		ahead := 0
		for _, o := range l {
			if before(o, s) {
				ahead++
			}
		}
		out[ahead] = s
	}
	return out
}

// listed are the rows of nodes.
func listed(m map[api.Node]bool) []api.Row {
	versions := map[string][]string{}
	var paths []string
	for n := range m {
		if versions[n.Path] == nil {
			paths = append(paths, n.Path)
		}
		versions[n.Path] = append(versions[n.Path], n.Version)
	}
	var l []api.Row
	for _, p := range placed(paths, func(a, b string) bool { return a < b }) {
		l = append(l, api.Row{Path: p, Versions: placed(versions[p], earlier)})
	}
	return l
}

// rowsOf is what Of tells.
func rowsOf(l []api.Node) ([]api.Row, api.Errno) {
	m := map[api.Node]bool{}
	for _, n := range l {
		if !able(n) {
			return nil, api.ErrArg
		}
		m[n] = true
	}
	return listed(m), api.OK
}

// nodesOf is what All tells.
func nodesOf(l []api.Row) ([]api.Node, api.Errno) {
	if !may(l) {
		return nil, api.ErrArg
	}
	var all []api.Node
	for _, r := range l {
		for _, v := range r.Versions {
			all = append(all, api.Node{Path: r.Path, Version: v})
		}
	}
	return all, api.OK
}

// added is what Add tells.
func added(l []api.Row, n api.Node) ([]api.Row, api.Errno) {
	if !may(l) || !able(n) {
		return l, api.ErrArg
	}
	m := kept(l)
	if m[n] {
		return l, api.ErrThere
	}
	m[n] = true
	return listed(m), api.OK
}

// dropped is what Drop tells.
func dropped(l []api.Row, n api.Node) ([]api.Row, api.Errno) {
	if !may(l) || !able(n) {
		return l, api.ErrArg
	}
	m := kept(l)
	if !m[n] {
		return l, api.ErrNone
	}
	delete(m, n)
	return listed(m), api.OK
}

// last is what Best tells: the version of that path that no other one of it comes behind.
func last(l []api.Row, p string) (string, api.Errno) {
	if !may(l) || !path.May(p) {
		return "", api.ErrArg
	}
	best := ""
	for n := range kept(l) {
		if n.Path == p && (best == "" || earlier(best, n.Version)) {
			best = n.Version
		}
	}
	if best == "" {
		return "", api.ErrNone
	}
	return best, api.OK
}

// equal tells whether rows are alike: as many, and of each the path, and each version, as the other one's.
func equal(a, b []api.Row) bool {
	if len(a) != len(b) {
		return false
	}
	for i, r := range a {
		o := b[i]
		if r.Path != o.Path || len(r.Versions) != len(o.Versions) {
			return false
		}
		for j, v := range r.Versions {
			if v != o.Versions[j] {
				return false
			}
		}
	}
	return true
}

// deep are rows in memory of their own.
func deep(l []api.Row) []api.Row {
	out := slices.Clone(l)
	for i, r := range l {
		out[i].Versions = slices.Clone(r.Versions)
	}
	return out
}
