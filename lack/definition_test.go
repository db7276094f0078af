package lack_test

import (
	"slices"

	"graftwood/api"
	"graftwood/path"
	"graftwood/version"
)

// able tells whether a node may be.
func able(n api.Node) bool { return path.May(n.Path) && version.May(n.Version) }

// ahead tells whether a node that may be comes ahead of another one.
func ahead(a, b api.Node) bool {
	c, _ := version.Cmp(a.Version, b.Version)
	return a.Path < b.Path || a.Path == b.Path && c < 0
}

// isSet tells whether a list is a set: each node is held against all that stand ahead of it.
func isSet(l []api.Node) bool {
	for i, n := range l {
		if !able(n) || slices.ContainsFunc(l[:i], func(o api.Node) bool { return !ahead(o, n) }) {
			return false
		}
	}
	return true
}

// setOf is the set of nodes that may be: each is put ahead of the first one that it comes ahead of.
func setOf(l []api.Node) []api.Node {
	var out []api.Node
	for _, n := range l {
		at := 0
		for at < len(out) && ahead(out[at], n) {
			at++
		}
		if at == len(out) || out[at] != n {
			out = slices.Insert(out, at, n)
		}
	}
	return out
}

// may tells whether needs may be.
func may(l []api.Need) bool {
	for _, d := range l {
		byRoot := d.From.Path == "" && d.From.Version == ""
		if !able(d.To) || !byRoot && !able(d.From) {
			return false
		}
	}
	return true
}

// missed is what Missing tells.
func missed(live, keys []api.Node) ([]api.Node, api.Errno) {
	if !isSet(live) || !isSet(keys) {
		return nil, api.ErrArg
	}
	var out []api.Node
	for _, n := range live {
		if !slices.Contains(keys, n) {
			out = append(out, n)
		}
	}
	return out, api.OK
}

// needing is what By tells.
func needing(l []api.Need, n api.Node) ([]api.Node, bool, api.Errno) {
	if !may(l) || !able(n) {
		return nil, false, api.ErrArg
	}
	var from []api.Node
	root := false
	for _, d := range l {
		switch {
		case d.To != n:
		case d.From.Path == "":
			root = true
		default:
			from = append(from, d.From)
		}
	}
	return setOf(from), root, api.OK
}

// lacking is what Of tells.
func lacking(live, keys []api.Node, l []api.Need) ([]api.Lack, api.Errno) {
	missing, e := missed(live, keys)
	if e != api.OK || !may(l) {
		return nil, api.ErrArg
	}
	var out []api.Lack
	for _, n := range missing {
		all, root, _ := needing(l, n)
		var by []api.Node
		for _, m := range all {
			if slices.Contains(live, m) {
				by = append(by, m)
			}
		}
		out = append(out, api.Lack{N: n, By: by, Root: root})
	}
	return out, api.OK
}

// equal tells whether lacks are alike, one by one.
func equal(a, b []api.Lack) bool {
	return slices.EqualFunc(a, b, func(x, y api.Lack) bool {
		return x.N == y.N && slices.Equal(x.By, y.By) && x.Root == y.Root
	})
}
