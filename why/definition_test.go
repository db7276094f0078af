package why_test

import (
	"slices"

	"graftwood/api"
	"graftwood/path"
	"graftwood/version"
)

// able tells whether a node may be.
func able(n api.Node) bool { return path.May(n.Path) && version.May(n.Version) }

// ahead tells whether a node that may be comes ahead of another one.
func ahead(a, b api.Node) bool {
	c, _ := version.Cmp(a.Version, b.Version)
	return a.Path < b.Path || a.Path == b.Path && c < 0
}

// may tells whether needs may be.
func may(l []api.Need) bool {
	for _, d := range l {
		byRoot := d.From.Path == "" && d.From.Version == ""
		if !able(d.To) || !byRoot && !able(d.From) {
			return false
		}
	}
	return true
}

// eachChain hands on each chain that has no node twice: those that begin so, and go on by what the last one needs.
func eachChain(l []api.Need, begun []api.Node, next func(c []api.Node)) {
	last := root
	if len(begun) > 0 {
		last = begun[len(begun)-1]
		next(begun)
	}
	for i, d := range l {
		if d.From == last && !slices.Contains(begun, d.To) && !slices.Contains(l[:i], d) {
			eachChain(l, append(slices.Clone(begun), d.To), next)
		}
	}
}

// better tells whether a chain to a node goes ahead of another one to it: it is shorter, or, of as many, from behind on the least.
func better(a, b []api.Node) bool {
	if len(a) != len(b) {
		return len(a) < len(b)
	}
	for i := range a {
		if x, y := a[len(a)-1-i], b[len(b)-1-i]; x != y {
			return ahead(x, y)
		}
	}
	return false
}

// best are the chains of all nodes that have one.
func best(l []api.Need) map[api.Node][]api.Node {
	chains := map[api.Node][]api.Node{}
	eachChain(l, nil, func(c []api.Node) {
		n := c[len(c)-1]
		if old, is := chains[n]; !is || better(c, old) {
			chains[n] = slices.Clone(c)
		}
	})
	return chains
}

// depthsBy is what Depths tells, by the chains: each is put ahead of the first one that it comes ahead of.
func depthsBy(chains map[api.Node][]api.Node) []api.Deep {
	var out []api.Deep
	for n, c := range chains {
		at := 0
		for at < len(out) && ahead(out[at].N, n) {
			at++
		}
		out = slices.Insert(out, at, api.Deep{N: n, D: len(c)})
	}
	return out
}

// isChain is what Is tells.
func isChain(l []api.Need, c []api.Node) (bool, api.Errno) {
	if !may(l) || len(c) == 0 {
		return false, api.ErrArg
	}
	for _, n := range c {
		if !able(n) {
			return false, api.ErrArg
		}
	}
	is := slices.Contains(l, api.Need{To: c[0]})
	for i := range len(c) - 1 {
		is = is && slices.Contains(l, api.Need{From: c[i], To: c[i+1]})
	}
	return is, api.OK
}
