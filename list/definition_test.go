package list_test

import (
	"slices"

	"graftwood/api"
	"graftwood/path"
	"graftwood/version"
)

// earlier tells whether a version that may be comes ahead of another one.
func earlier(v, w string) bool {
	c, e := version.Cmp(v, w)
	return e == api.OK && c < 0
}

// may tells whether a list is a build list: each node is held against all that stand ahead of it.
func may(l []api.Node) bool {
	for i, n := range l {
		behind := func(o api.Node) bool { return o.Path >= n.Path }
		if !path.May(n.Path) || !version.May(n.Version) || slices.ContainsFunc(l[:i], behind) {
			return false
		}
	}
	return true
}

// rowsMay tells whether rows may be, in the same way.
func rowsMay(l []api.Row) bool {
	for i, r := range l {
		behind := func(o api.Row) bool { return o.Path >= r.Path }
		if !path.May(r.Path) || len(r.Versions) == 0 || slices.ContainsFunc(l[:i], behind) {
			return false
		}
		for j, v := range r.Versions {
			if !version.May(v) || slices.ContainsFunc(r.Versions[:j], func(w string) bool { return !earlier(w, v) }) {
				return false
			}
		}
	}
	return true
}

// changesMay tells whether changes may be, in the same way.
func changesMay(c []api.Change) bool {
	for i, x := range c {
		behind := func(o api.Change) bool { return o.Path >= x.Path }
		if !path.May(x.Path) || slices.ContainsFunc(c[:i], behind) {
			return false
		}
		for _, v := range []string{x.Old, x.New} {
			if v != "" && !version.May(v) {
				return false
			}
		}
		if x.Old == x.New {
			return false
		}
	}
	return true
}

// versionOf is a path's version in a list, empty if it has none.
func versionOf(l []api.Node, p string) string {
	for _, n := range l {
		if n.Path == p {
			return n.Version
		}
	}
	return ""
}

// pathsOf are the paths of nodes, in order, each once.
func pathsOf(l []api.Node) []string {
	var out []string
	for _, n := range l {
		at := 0
		for at < len(out) && out[at] < n.Path {
			at++
		}
		if at == len(out) || out[at] != n.Path {
			out = slices.Insert(out, at, n.Path)
		}
	}
	return out
}

// built is what Build tells: of each row the version that no other one of it comes behind.
func built(l []api.Row) ([]api.Node, api.Errno) {
	if !rowsMay(l) {
		return nil, api.ErrArg
	}
	var out []api.Node
	for _, r := range l {
		last := r.Versions[0]
		for _, v := range r.Versions {
			if earlier(last, v) {
				last = v
			}
		}
		out = append(out, of(r.Path, last))
	}
	return out, api.OK
}

// picked is what Pick tells.
func picked(l []api.Node, p string) (string, api.Errno) {
	switch {
	case !may(l) || !path.May(p):
		return "", api.ErrArg
	case versionOf(l, p) == "":
		return "", api.ErrNone
	}
	return versionOf(l, p), api.OK
}

// changed is what Delta tells.
func changed(old, now []api.Node) ([]api.Change, api.Errno) {
	if !may(old) || !may(now) {
		return nil, api.ErrArg
	}
	var out []api.Change
	for _, p := range pathsOf(slices.Concat(now, old)) {
		if v, w := versionOf(old, p), versionOf(now, p); v != w {
			out = append(out, to(p, v, w))
		}
	}
	return out, api.OK
}

// applied is what Apply tells.
func applied(l []api.Node, c []api.Change) ([]api.Node, api.Errno) {
	if !may(l) || !changesMay(c) {
		return nil, api.ErrArg
	}
	var changing []api.Node
	for _, x := range c {
		if versionOf(l, x.Path) != x.Old {
			return nil, api.ErrNone
		}
		changing = append(changing, of(x.Path, x.New))
	}
	var out []api.Node
	for _, p := range pathsOf(slices.Concat(l, changing)) {
		v := versionOf(l, p)
		if slices.ContainsFunc(c, func(x api.Change) bool { return x.Path == p }) {
			v = versionOf(changing, p)
		}
		if v != "" {
			out = append(out, of(p, v))
		}
	}
	return out, api.OK
}

// over is what Above tells.
func over(old, now []api.Node) (bool, api.Errno) {
	if !may(old) || !may(now) {
		return false, api.ErrArg
	}
	for _, n := range old {
		if v := versionOf(now, n.Path); v == "" || earlier(v, n.Version) {
			return false, api.OK
		}
	}
	return true, api.OK
}
