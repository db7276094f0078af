package session_test

import (
	"maps"
	"slices"

	"graftwood/api"
	"graftwood/node"
	"graftwood/path"
	"graftwood/text"
	"graftwood/version"
	"graftwood/why"
)

// plain is what all answers hang on: the limits, the manifests, and the root requirements.
type plain struct {
	limits api.Limits
	texts  map[api.Node]string
	root   map[api.Node]bool
}

// fresh is one without manifests, and root requirements.
func fresh(l api.Limits) plain {
	return plain{limits: l, texts: map[api.Node]string{}, root: map[api.Node]bool{}}
}

// copied is the same in maps of its own.
func (p plain) copied() plain {
	return plain{limits: p.limits, texts: maps.Clone(p.texts), root: maps.Clone(p.root)}
}

// requires are what a text requires, as it has them.
func requires(t string) []api.Node {
	m, _, _ := text.Parse(t)
	return m.Reqs
}

// ahead tells whether a node that may be comes ahead of another one.
func ahead(a, b api.Node) bool {
	c, _ := version.Cmp(a.Version, b.Version)
	return a.Path < b.Path || a.Path == b.Path && c < 0
}

// inOrder are a map's keys: each is put ahead of the first one that it comes ahead of.
func inOrder[V any](m map[api.Node]V) []api.Node {
	var l []api.Node
	for n := range m {
		at := 0
		for at < len(l) && ahead(l[at], n) {
			at++
		}
		l = slices.Insert(l, at, n)
	}
	return l
}

// put is what Put tells.
func (p plain) put(n api.Node, t string) (plain, int, api.Errno) {
	if !node.May(n) {
		return p, 0, api.ErrArg
	}
	if len(t) > p.limits.Text {
		return p, 0, api.ErrLarge
	}
	m, at, e := text.Parse(t)
	if e != api.OK {
		return p, at, e
	}
	if m.Module != n.Path {
		return p, 0, api.ErrOther
	}
	if old, has := p.texts[n]; has && old == t {
		return p, 0, api.OK
	}
	x := p.copied()
	x.texts[n] = t
	x, e = p.or(x)
	return x, 0, e
}

// drop is what Drop tells.
func (p plain) drop(n api.Node) (plain, api.Errno) {
	if !node.May(n) {
		return p, api.ErrArg
	}
	if _, has := p.texts[n]; !has {
		return p, api.ErrNone
	}
	x := p.copied()
	delete(x.texts, n)
	return x, api.OK
}

// need is what Need tells.
func (p plain) need(n api.Node) (plain, api.Errno) {
	if !node.May(n) {
		return p, api.ErrArg
	}
	if p.root[n] {
		return p, api.OK
	}
	x := p.copied()
	x.root[n] = true
	return p.or(x)
}

// free is what Free tells.
func (p plain) free(n api.Node) (plain, api.Errno) {
	if !node.May(n) {
		return p, api.ErrArg
	}
	if !p.root[n] {
		return p, api.ErrNone
	}
	x := p.copied()
	delete(x.root, n)
	return x, api.OK
}

// or is what there would be, or, if that does not fit, what there is.
func (p plain) or(x plain) (plain, api.Errno) {
	u := x.use()
	if u.Manifests > x.limits.Manifests {
		return p, api.ErrManifests
	}
	if len(u.Said) > x.limits.Nodes {
		return p, api.ErrNodes
	}
	if u.Edges > x.limits.Edges {
		return p, api.ErrEdges
	}
	return x, api.OK
}

// use is what there is.
func (p plain) use() api.Use {
	u := api.Use{Manifests: len(p.texts), Edges: len(p.root)}
	said := map[api.Node]int{}
	for n := range p.root {
		said[n]++
	}
	for n, t := range p.texts {
		said[n]++
		for _, r := range requires(t) {
			said[r]++
			u.Edges++
		}
	}
	for _, n := range inOrder(said) {
		u.Said = append(u.Said, api.Edit{N: n, By: said[n]})
	}
	return u
}

// needs are all needs, in any order.
func (p plain) needs() []api.Need {
	var l []api.Need
	for n := range p.root {
		l = append(l, api.Need{To: n})
	}
	for n, t := range p.texts {
		for _, r := range requires(t) {
			l = append(l, api.Need{From: n, To: r})
		}
	}
	return l
}

// reached are the nodes that are: need by need, again and again, till no need leads to another one.
func (p plain) reached() map[api.Node]bool {
	out := map[api.Node]bool{}
	for more := true; more; {
		more = false
		for _, d := range p.needs() {
			if (d.From == api.Node{} || out[d.From]) && !out[d.To] {
				out[d.To] = true
				more = true
			}
		}
	}
	return out
}

// build is the build list: what is reached, but what is ahead of another one of the same path.
func (p plain) build() []api.Node {
	l := inOrder(p.reached())
	return slices.DeleteFunc(slices.Clone(l), func(n api.Node) bool {
		return slices.ContainsFunc(l, func(m api.Node) bool { return m.Path == n.Path && ahead(n, m) })
	})
}

// missing are those that are reached, and have no manifest.
func (p plain) missing() []api.Node {
	return slices.DeleteFunc(inOrder(p.reached()), func(n api.Node) bool {
		_, has := p.texts[n]
		return has
	})
}

// selected is a path's version.
func (p plain) selected(q string) (string, api.Errno) {
	if !path.May(q) {
		return "", api.ErrArg
	}
	for _, n := range p.build() {
		if n.Path == q {
			return n.Version, api.OK
		}
	}
	return "", api.ErrNeed
}

// why is the chain to a path's version.
func (p plain) why(q string) ([]api.Node, api.Errno) {
	v, e := p.selected(q)
	if e != api.OK {
		return nil, e
	}
	return why.Chain(p.needs(), api.Node{Path: q, Version: v})
}
