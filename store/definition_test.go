package store_test

import (
	"slices"

	"graftwood/api"
	"graftwood/node"
)

// before tells whether a node that may be comes ahead of another one.
func before(a, b api.Node) bool {
	c, e := node.Cmp(a, b)
	return e == api.OK && c < 0
}

// fits tells whether a store may be.
func fits(s api.Store) bool {
	for i, n := range s.Keys {
		if !node.May(n) {
			return false
		}
		for _, m := range s.Keys[:i] {
			if !before(m, n) {
				return false
			}
		}
	}
	return len(s.Keys) == len(s.Texts)
}

// kept are the texts of a store that may be, by their nodes.
func kept(s api.Store) map[api.Node]string {
	m := map[api.Node]string{}
	for i, n := range s.Keys {
		m[n] = s.Texts[i]
	}
	return m
}

// listed is the store of such texts: each node goes behind as many as come ahead of it.
func listed(m map[api.Node]string) api.Store {
	s := api.Store{Keys: make([]api.Node, len(m)), Texts: make([]string, len(m))}
	for n, t := range m {
		ahead := 0
		for o := range m {
			if before(o, n) {
				ahead++
			}
		}
		s.Keys[ahead], s.Texts[ahead] = n, t
	}
	return s
}

// got is what Get tells.
func got(s api.Store, n api.Node) (string, api.Errno) {
	if !fits(s) || !node.May(n) {
		return "", api.ErrArg
	}
	t, in := kept(s)[n]
	if !in {
		return "", api.ErrNone
	}
	return t, api.OK
}

// put is what Put tells.
func put(s api.Store, n api.Node, t string) (api.Store, api.Errno) {
	if !fits(s) || !node.May(n) {
		return s, api.ErrArg
	}
	m := kept(s)
	m[n] = t
	return listed(m), api.OK
}

// dropped is what Drop tells.
func dropped(s api.Store, n api.Node) (api.Store, api.Errno) {
	if !fits(s) || !node.May(n) {
		return s, api.ErrArg
	}
	m := kept(s)
	if _, in := m[n]; !in {
		return s, api.ErrNone
	}
	delete(m, n)
	return listed(m), api.OK
}

// equal tells whether stores are alike: as many of each, and each as the other one's.
func equal(a, b api.Store) bool {
	if len(a.Keys) != len(b.Keys) || len(a.Texts) != len(b.Texts) {
		return false
	}
	for i := range a.Keys {
		if a.Keys[i].Path != b.Keys[i].Path || a.Keys[i].Version != b.Keys[i].Version {
			return false
		}
	}
	for i := range a.Texts {
		if a.Texts[i] != b.Texts[i] {
			return false
		}
	}
	return true
}

// deep is a store in memory of its own.
func deep(s api.Store) api.Store {
	return api.Store{Keys: slices.Clone(s.Keys), Texts: slices.Clone(s.Texts)}
}
