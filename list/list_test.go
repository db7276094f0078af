package list_test

import (
	"fmt"
	"slices"
	"strings"
	"testing"

	"graftwood/api"
	"graftwood/list"
	"graftwood/node"
)

// paths are paths in order; some begin others, and those of one are not in the order of their elements.
var paths = []string{"-", "0", "A", "a", "a-b", "a.b", "a/b", "a/b/c", "ab", "b", "golang.org/x/mod", "~"}

// versions are versions in order, many of them not in that of their octets.
var versions = []string{
	"v0.0.0-0", "v0.0.0", "v0.9.0", "v1.0.0-2", "v1.0.0-10", "v1.0.0-A", "v1.0.0-a", "v1.0.0-a.2", "v1.0.0-a.10", "v1.0.0-a.b",
	"v1.0.0", "v1.9.0", "v1.10.0-rc", "v1.10.0", "v2.0.0", "v10.0.0", "v10000000000000000000000.0.0",
}

// wrongPaths and wrongVersions are texts that are none.
var (
	wrongPaths = []string{
		"", ".", "/", ".a", "a.", "a/", "/a", "a//b", "a/.b", "a./b", "@", "a@v1.0.0", " a", "a ", "a b", "a\n", "a+", "é", "a\x00", "~\xff",
	}
	wrongVersions = []string{
		"", "v", "1.0.0", "v1", "v1.0", "v1.0.0.0", "v01.0.0", "v1.0.0-", "v1.0.0-01", "v1.0.0-a..b", "v1.0.0+a", "V1.0.0", "@v1.0.0",
		" v1.0.0", "v1.0.0 ", "v1.0.0\n", "v1.0.0\x00", "v1.0.0-\xff", "a", "latest",
	}
)

// The greatest texts here: a path, and two versions of it, in order. What is asked each by each goes without them, as they take long.
var (
	longPath    = strings.Repeat("a/", 20000) + "a"
	longVersion = "v" + strings.Repeat("9", 20000) + ".0.0-" + strings.Repeat("a.", 20000) + "a"
	moreVersion = "v1" + strings.Repeat("0", 20000) + ".0.0"
)

// of is a node.
func of(path, version string) api.Node { return api.Node{Path: path, Version: version} }

// nodes are the nodes of texts.
func nodes(texts ...string) []api.Node {
	var l []api.Node
	for _, s := range texts {
		p, v, _ := strings.Cut(s, "@")
		l = append(l, of(p, v))
	}
	return l
}

// row is a row.
func row(path string, versions ...string) api.Row { return api.Row{Path: path, Versions: versions} }

// three are three nodes of a build list.
func three() []api.Node { return nodes("b@v1.9.0", "c@v1.10.0", "e@v1.0.0-rc") }

// every is a build list of all paths.
func every() []api.Node {
	var l []api.Node
	for i, p := range paths {
		l = append(l, of(p, versions[(5*i)%len(versions)]))
	}
	return l
}

// at is a list with something put in at a place.
func at[T any](l []T, place int, x ...T) []T { return slices.Insert(slices.Clone(l), place, x...) }

// instead is a list with something in the stead of what stands at a place.
func instead[T any](l []T, place int, x T) []T {
	out := slices.Clone(l)
	out[place] = x
	return out
}

// swapped is a list where two changed places.
func swapped[T any](l []T, i, j int) []T {
	out := slices.Clone(l)
	out[i], out[j] = out[j], out[i]
	return out
}

// nothing is the list of none: as nil, as an empty one, and with room behind.
func nothing[T any]() [][]T { return [][]T{nil, {}, make([]T, 0, 3)} }

// mayBe are build lists.
func mayBe() [][]api.Node {
	l := append(nothing[api.Node](), three(), every(), every()[3:9])
	for i, p := range paths {
		l = append(l, []api.Node{of(p, "v1.0.0")})
		for _, o := range paths[:i] {
			l = append(l, []api.Node{of(o, "v1.10.0"), of(p, "v1.9.0")})
		}
	}
	for i, v := range versions {
		l = append(l, []api.Node{of("a", v)}, []api.Node{of("a", v), of("a/b", versions[(i+7)%len(versions)])})
	}
	return append(l, nodes("a@v9.0.0", "a-b@v10.0.0", "a/b@v0.0.0", "ab@v1.0.0-a"))
}

// mayNot are lists that are no build lists.
func mayNot() [][]api.Node {
	l := [][]api.Node{{{}}, nodes("a@v1.9.0", "a@v1.10.0"), nodes("a@v1.10.0", "a@v1.9.0"), nodes("a@v1.0.0", "a@v1.0.0")}
	for i, n := range three() {
		for _, w := range wrong() {
			l = append(l, instead(three(), i, w), []api.Node{w})
		}
		for _, w := range wrongVersions {
			l = append(l, instead(three(), i, of(n.Path, w)))
		}
		// a node twice, and two nodes of one path, side by side and not
		for place := range 4 {
			for _, v := range []string{n.Version, "v0.0.0", "v1.9.5", "v99.0.0"} {
				l = append(l, at(three(), place, of(n.Path, v)))
			}
		}
		for j := range i {
			l = append(l, swapped(three(), i, j))
		}
	}
	for i, p := range paths {
		for _, o := range paths[:i+1] {
			l = append(l, []api.Node{of(p, "v1.0.0"), of(o, "v1.0.0")}, []api.Node{of(p, "v1.0.0"), of(o, "v1.1.0")})
		}
	}
	return l
}

// wrong are nodes that may not be: by the path, by the version, or by both.
func wrong() []api.Node {
	l := []api.Node{of("v1.0.0", "a"), of("a@v1.0.0", "")}
	for i, p := range wrongPaths {
		l = append(l, of(p, "v1.0.0"), of(p, wrongVersions[i]))
	}
	for _, v := range wrongVersions {
		l = append(l, of("a", v))
	}
	return l
}

// threeRows are rows of one, two and three versions.
func threeRows() []api.Row {
	return []api.Row{row("b", "v1.9.0"), row("c", "v1.0.0-rc", "v1.0.0"), row("e", "v1.9.0", "v1.10.0-rc", "v1.10.0")}
}

// rowsMayBe are rows that may be.
func rowsMayBe() [][]api.Row {
	l := append(nothing[api.Row](), threeRows(), threeRows()[1:])
	var each []api.Row
	for i, p := range paths {
		each = append(each, row(p, versions[:i+1]...))
		l = append(l, []api.Row{row(p, "v1.0.0")}, []api.Row{row(p, versions...)})
	}
	for i, v := range versions {
		l = append(l, []api.Row{row("a", v)})
		for _, w := range versions[:i] {
			l = append(l, []api.Row{row("a", w, v), row("a/b", w)})
		}
	}
	return append(l, each)
}

// rowsMayNot are rows that may not be.
func rowsMayNot() [][]api.Row {
	l := [][]api.Row{{{}}, {row("a")}, {{Path: "a", Versions: []string{}}}, {row("a", "v1.0.0"), row("a", "v1.1.0")}}
	for i, r := range threeRows() {
		for _, w := range wrongPaths {
			l = append(l, instead(threeRows(), i, row(w, r.Versions...)), []api.Row{row(w, "v1.0.0")})
		}
		for j, v := range r.Versions {
			for _, w := range wrongVersions {
				l = append(l, instead(threeRows(), i, row(r.Path, instead(r.Versions, j, w)...)))
			}
			l = append(l, instead(threeRows(), i, row(r.Path, at(r.Versions, j, v)...)))
			for k := range j {
				l = append(l, instead(threeRows(), i, row(r.Path, swapped(r.Versions, j, k)...)))
			}
		}
		l = append(l, instead(threeRows(), i, row(r.Path)))
		for place := range 4 {
			l = append(l, at(threeRows(), place, r), at(threeRows(), place, row(r.Path, "v99.0.0")))
		}
		for j := range i {
			l = append(l, swapped(threeRows(), i, j))
		}
	}
	return l
}

// short is a list as it is shown.
func short[T any](l []T) string {
	s := ""
	for _, x := range l[:min(len(l), 12)] {
		s += fmt.Sprintf(" %.20q", any(x))
	}
	return fmt.Sprintf("(%d:%s)", len(l), s)
}

// is holds a list and an error against what they are to be; with an error nothing comes, and without one it is a build list.
func is(t *testing.T, what string, got []api.Node, e api.Errno, want []api.Node, no api.Errno) {
	t.Helper()
	if !slices.Equal(got, want) || e != no || e != api.OK && len(got) > 0 || e == api.OK && !may(got) {
		t.Errorf("%s: %s, %d, not %s, %d", what, short(got), e, short(want), no)
	}
}

// builds builds rows' list, holds it against the definition, and answers it.
func builds(t *testing.T, l []api.Row) []api.Node {
	t.Helper()
	got, e := list.Build(l)
	want, no := built(l)
	is(t, "Build of "+short(l), got, e, want, no)
	return got
}

// picks picks a path's version, and holds it against the definition.
func picks(t *testing.T, l []api.Node, p string) {
	t.Helper()
	v, e := list.Pick(l, p)
	if want, no := picked(l, p); v != want || e != no {
		t.Errorf("Pick(%s, %.20q): %.20q, %d, not %.20q, %d", short(l), p, v, e, want, no)
	}
}

// P17.1

func TestCheck(t *testing.T) {
	for _, l := range mayBe() {
		if e := list.Check(l); e != api.OK || !may(l) {
			t.Errorf("Check of a build list, %s: %d", short(l), e)
		}
	}
	for _, l := range mayNot() {
		if e := list.Check(l); e != api.ErrArg || may(l) {
			t.Errorf("Check of what is none, %s: %d", short(l), e)
		}
	}
}

func TestCheckOfSome(t *testing.T) {
	for _, x := range []struct {
		l []api.Node
		e api.Errno
	}{
		{nil, api.OK}, {[]api.Node{}, api.OK}, {nodes("a@v1.0.0"), api.OK}, {nodes("a@v1.0.0", "b@v1.0.0"), api.OK},
		{nodes("a@v2.0.0", "a/b@v1.0.0", "a/b/c@v0.0.0"), api.OK}, {nodes("a@v1.10.0", "a-b@v1.9.0", "a/b@v1.0.0-a"), api.OK},
		{[]api.Node{of("a", moreVersion), of(longPath, longVersion)}, api.OK}, {[]api.Node{of(longPath, longVersion), of(longPath, moreVersion)}, api.ErrArg},
		{[]api.Node{of(longPath+"/", longVersion)}, api.ErrArg}, {[]api.Node{of(longPath, longVersion+".")}, api.ErrArg},
		// a path, and a version, that may not be
		{nodes("a/@v1.0.0", "b@v1.0.0", "c@v1.0.0"), api.ErrArg}, {nodes("a@v1.0.0", "b/@v1.0.0", "c@v1.0.0"), api.ErrArg},
		{nodes("a@v1.0.0", "b@v1.0.0", "c/@v1.0.0"), api.ErrArg},
		{nodes("a@v1.0", "b@v1.0.0", "c@v1.0.0"), api.ErrArg}, {nodes("a@v1.0.0", "b@", "c@v1.0.0"), api.ErrArg},
		{nodes("a@v1.0.0", "b@v1.0.0", "c@v1.0.0-01"), api.ErrArg},
		// out of order
		{nodes("b@v1.0.0", "a@v1.0.0"), api.ErrArg}, {nodes("b@v1.0.0", "a@v1.0.0", "c@v1.0.0"), api.ErrArg},
		{nodes("a@v1.0.0", "c@v1.0.0", "b@v1.0.0"), api.ErrArg}, {nodes("a/b@v1.0.0", "a-b@v1.0.0"), api.ErrArg},
		// a node twice
		{nodes("a@v1.0.0", "a@v1.0.0", "b@v1.0.0", "c@v1.0.0"), api.ErrArg}, {nodes("a@v1.0.0", "b@v1.0.0", "b@v1.0.0", "c@v1.0.0"), api.ErrArg},
		{nodes("a@v1.0.0", "b@v1.0.0", "c@v1.0.0", "c@v1.0.0"), api.ErrArg}, {nodes("a@v1.0.0", "b@v1.0.0", "a@v1.0.0"), api.ErrArg},
		// two of one path, which are a set
		{nodes("a@v1.9.0", "a@v1.10.0", "b@v1.0.0", "c@v1.0.0"), api.ErrArg}, {nodes("a@v1.0.0", "b@v1.0.0-a", "b@v1.0.0", "c@v1.0.0"), api.ErrArg},
		{nodes("a@v1.0.0", "b@v1.0.0", "c@v1.0.0", "c@v2.0.0"), api.ErrArg}, {nodes("a@v1.9.0", "a@v1.10.0"), api.ErrArg},
	} {
		if e := list.Check(x.l); e != x.e {
			t.Errorf("Check(%s): %d, not %d", short(x.l), e, x.e)
		}
	}
}

func TestCheckOfEachShortList(t *testing.T) {
	few := nodes("a@v1.9.0", "a@v1.10.0", "a@v1.10.0-rc", "a-b@v1.0.0", "a/b@v0.0.1", "b@v1.0.0", "b@v1.0", "a/@v1.0.0")
	var grow func(l []api.Node)
	grow = func(l []api.Node) {
		want := api.OK
		if !may(l) {
			want = api.ErrArg
		}
		if e := list.Check(l); e != want {
			t.Errorf("Check(%s): %d, not %d", short(l), e, want)
		}
		for _, n := range few {
			if len(l) < 4 {
				grow(append(slices.Clone(l), n))
			}
		}
	}
	grow(nil)
}

func TestBuild(t *testing.T) {
	for _, x := range []struct {
		l    []api.Row
		want []api.Node
	}{
		{nil, nil}, {[]api.Row{}, nil}, {[]api.Row{row("a", "v1.0.0")}, nodes("a@v1.0.0")},
		{[]api.Row{row("a", "v1.0.0", "v1.1.0")}, nodes("a@v1.1.0")}, {[]api.Row{row("a", "v1.9.0", "v1.10.0")}, nodes("a@v1.10.0")},
		{[]api.Row{row("a", "v1.0.0-9", "v1.0.0-10", "v1.0.0-a", "v1.0.0")}, nodes("a@v1.0.0")},
		{[]api.Row{row("a", "v1.0.0-9", "v1.0.0-10")}, nodes("a@v1.0.0-10")}, {[]api.Row{row("a", "v1.9.0", "v1.10.0-rc")}, nodes("a@v1.10.0-rc")},
		{[]api.Row{row("a", "v2.0.0"), row("a-b", "v1.0.0"), row("a/b", "v1.0.0-a", "v1.0.0"), row("ab", "v9.0.0", "v10.0.0", "v11.0.0-0")},
			nodes("a@v2.0.0", "a-b@v1.0.0", "a/b@v1.0.0", "ab@v11.0.0-0")},
		{threeRows(), nodes("b@v1.9.0", "c@v1.0.0", "e@v1.10.0")},
		{[]api.Row{row("a", longVersion, moreVersion), row(longPath, longVersion)}, []api.Node{of("a", moreVersion), of(longPath, longVersion)}},
	} {
		l, e := list.Build(x.l)
		is(t, "Build of "+short(x.l), l, e, x.want, api.OK)
	}
}

func TestBuildOfEach(t *testing.T) {
	for _, l := range rowsMayBe() {
		x := builds(t, l)
		if list.Check(x) != api.OK || len(x) != len(l) {
			t.Errorf("Build(%s): %s", short(l), short(x))
		}
	}
	for _, l := range rowsMayNot() {
		if x, e := list.Build(l); len(x) != 0 || e != api.ErrArg {
			t.Errorf("Build of what may not be, %s: %s, %d", short(l), short(x), e)
		}
		builds(t, l)
	}
}

func TestPick(t *testing.T) {
	l := nodes("b@v1.9.0", "c@v1.10.0", "c/d@v1.0.0-rc", "e@v0.0.0")
	two := nodes("a@v1.9.0", "a@v1.10.0")
	for _, x := range []struct {
		l    []api.Node
		p    string
		want string
		e    api.Errno
	}{
		{l, "b", "v1.9.0", api.OK}, {l, "c", "v1.10.0", api.OK}, {l, "c/d", "v1.0.0-rc", api.OK}, {l, "e", "v0.0.0", api.OK}, {l[:1], "b", "v1.9.0", api.OK},
		{[]api.Node{of("a", moreVersion), of(longPath, longVersion)}, longPath, longVersion, api.OK},
		// that no node has: ahead of all, between, behind all, and in none at all
		{l, "a", "", api.ErrNone}, {l, "B", "", api.ErrNone}, {l, "b/c", "", api.ErrNone}, {l, "c-d", "", api.ErrNone}, {l, "c/d/e", "", api.ErrNone},
		{l, "d", "", api.ErrNone}, {l, "e/b", "", api.ErrNone}, {l, "f", "", api.ErrNone}, {l, "v1.9.0", "", api.ErrNone}, {l, longPath, "", api.ErrNone},
		{nil, "a", "", api.ErrNone}, {[]api.Node{}, "a", "", api.ErrNone},
		// that may not be, though no node has it
		{l, "", "", api.ErrArg}, {l, "b/", "", api.ErrArg}, {l, ".b", "", api.ErrArg}, {l, "b@v1.9.0", "", api.ErrArg}, {nil, "", "", api.ErrArg},
		// of what is no build list, though a node has it, or none
		{two, "a", "", api.ErrArg}, {two, "b", "", api.ErrArg}, {two, "", "", api.ErrArg}, {nodes("b@v1.0.0", "a@v1.0.0"), "a", "", api.ErrArg},
		{nodes("a@v1.0.0", "b@v1"), "a", "", api.ErrArg}, {nodes("a@v1.0.0", "b@v1"), "c", "", api.ErrArg}, {nodes("@v1.0.0"), "", "", api.ErrArg},
	} {
		if v, e := list.Pick(x.l, x.p); v != x.want || e != x.e {
			t.Errorf("Pick(%s, %.20q): %.20q, %d, not %.20q, %d", short(x.l), x.p, v, e, x.want, x.e)
		}
	}
}

func TestPickOfEach(t *testing.T) {
	asked := slices.Concat(paths, wrongPaths, []string{"c", "e", "none", "a/b/c/d"})
	for _, l := range append(mayBe(), mayNot()...) {
		for _, p := range asked {
			picks(t, l, p)
		}
	}
	for _, n := range every() {
		if v, e := list.Pick(every(), n.Path); v != n.Version || e != api.OK {
			t.Errorf("Pick of %q: %q, %d", node.Text(n), v, e)
		}
	}
}

// P17.3

// above tells whether one is above another one, and holds it against the definition.
func above(t *testing.T, old, now []api.Node) bool {
	t.Helper()
	got, e := list.Above(old, now)
	if want, no := over(old, now); got != want || e != no {
		t.Errorf("Above(%s, %s): %v, %d, not %v, %d", short(old), short(now), got, e, want, no)
	}
	return got
}

func TestAbove(t *testing.T) {
	l := nodes("b@v1.9.0", "c@v1.10.0", "e@v1.0.0-10")
	for _, x := range []struct {
		old, now []api.Node
		want     bool
	}{
		{nil, nil, true}, {nil, []api.Node{}, true}, {[]api.Node{}, nil, true}, {nil, l, true}, {[]api.Node{}, l, true}, {l, nil, false}, {l, []api.Node{}, false}, {l, l, true},
		// a path is missing
		{l, l[1:], false}, {l, nodes("b@v1.9.0", "e@v1.0.0-10"), false}, {l, l[:2], false}, {l, nodes("b@v9.0.0", "c@v9.0.0"), false},
		{l, nodes("b@v9.0.0", "d@v9.0.0", "e@v9.0.0"), false}, {nodes("a@v1.0.0"), nodes("a/b@v1.0.0"), false}, {nodes("a/b@v1.0.0"), nodes("a@v9.0.0"), false},
		// a version is lower
		{l, nodes("b@v1.8.0", "c@v1.10.0", "e@v1.0.0-10"), false}, {l, nodes("b@v1.9.0", "c@v1.9.0", "e@v1.0.0-10"), false},
		{l, nodes("b@v1.9.0", "c@v1.10.0", "e@v1.0.0-9"), false}, {l, nodes("b@v1.9.0-rc", "c@v2.0.0", "e@v2.0.0"), false},
		{l, nodes("b@v2.0.0", "c@v2.0.0", "e@v1.0.0-2"), false}, {nodes("a@v1.0.0"), nodes("a@v1.0.0-a"), false}, {nodes("a@v1.10.0"), nodes("a@v1.9.0"), false},
		// a version is higher
		{l, nodes("b@v1.10.0", "c@v1.10.0", "e@v1.0.0-10"), true}, {l, nodes("b@v1.9.0", "c@v1.10.1", "e@v1.0.0-10"), true},
		{l, nodes("b@v1.9.0", "c@v1.10.0", "e@v1.0.0-a"), true}, {l, nodes("b@v10.0.0", "c@v1.100.0", "e@v1.0.0"), true}, {nodes("a@v1.9.0"), nodes("a@v1.10.0"), true},
		// there are more paths: ahead of all, between, behind all
		{l, at(l, 0, of("a", "v0.0.0")), true}, {l, at(l, 2, of("d", "v0.0.0")), true}, {l, at(l, 3, of("f", "v0.0.0")), true},
		{l, nodes("a@v0.0.0", "b@v1.9.0", "c@v1.10.0", "d@v9.0.0", "e@v1.0.0-9", "f@v1.0.0"), false},
		{[]api.Node{of("a", longVersion)}, []api.Node{of("a", moreVersion)}, true}, {[]api.Node{of("a", moreVersion)}, []api.Node{of("a", longVersion)}, false},
	} {
		if got, e := list.Above(x.old, x.now); got != x.want || e != api.OK {
			t.Errorf("Above(%s, %s): %v, %d, not %v", short(x.old), short(x.now), got, e, x.want)
		}
	}
}

func TestAboveOfEach(t *testing.T) {
	for _, old := range mayBe() {
		for _, now := range mayBe() {
			above(t, old, now)
		}
	}
	for i, v := range versions {
		for j, w := range versions {
			if got, e := list.Above([]api.Node{of("a", v)}, []api.Node{of("a", w)}); got != (j >= i) || e != api.OK {
				t.Errorf("Above of a@%s, and a@%s: %v, %d", v, w, got, e)
			}
		}
	}
}

func TestAboveOfWhatIsNone(t *testing.T) {
	for _, l := range mayNot() {
		for _, x := range [][]api.Node{nil, three(), every(), l} {
			for _, pair := range [][2][]api.Node{{l, x}, {x, l}} {
				if got, e := list.Above(pair[0], pair[1]); got || e != api.ErrArg {
					t.Errorf("Above(%s, %s): %v, %d", short(pair[0]), short(pair[1]), got, e)
				}
			}
		}
	}
}

func TestExamples(t *testing.T) {
	l, e := list.Build([]api.Row{row("a", "v1.0.0", "v1.1.0")})
	is(t, "rows a of v1.0.0 and v1.1.0", l, e, nodes("a@v1.1.0"), api.OK)
	c, e := list.Delta(nodes("a@v1.0.0"), nodes("b@v1.0.0"))
	if !slices.Equal(c, []api.Change{to("a", "v1.0.0", ""), to("b", "", "v1.0.0")}) || e != api.OK {
		t.Errorf("from a@v1.0.0 to b@v1.0.0: %s, %d", short(c), e)
	}
	if v, e := list.Pick(nil, "a"); v != "" || e != api.ErrNone {
		t.Errorf("Pick of none: %q, %d", v, e)
	}
}
