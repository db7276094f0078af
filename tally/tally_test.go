package tally_test

import (
	"fmt"
	"math/rand"
	"slices"
	"strings"
	"sync"
	"testing"

	"graftwood/api"
	"graftwood/node"
	"graftwood/path"
	"graftwood/tally"
	"graftwood/version"
)

// paths are paths in order; some begin others, and those of one are not in the order of their elements.
var paths = []string{"-", "0", "A", "a", "a-b", "a.b", "a/b", "a/b/c", "ab", "b", "golang.org/x/mod", "~"}

// versions are versions in order, many of them not in that of their octets.
var versions = []string{
	"v0.0.0-0", "v0.0.0", "v0.9.0", "v1.0.0-2", "v1.0.0-10", "v1.0.0-A", "v1.0.0-a", "v1.0.0-a.2", "v1.0.0-a.10", "v1.0.0-a.b",
	"v1.0.0", "v1.9.0", "v1.10.0-rc", "v1.10.0", "v2.0.0", "v10.0.0", "v10000000000000000000000.0.0",
}

// wrongPaths and wrongVersions are texts that are none.
var (
	wrongPaths = []string{
		"", ".", "/", ".a", "a.", "a/", "/a", "a//b", "a/.b", "a./b", "@", "a@v1.0.0", " a", "a ", "a b", "a\n", "a+", "é", "a\x00", "~\xff",
	}
	wrongVersions = []string{
		"", "v", "1.0.0", "v1", "v1.0", "v1.0.0.0", "v01.0.0", "v1.0.0-", "v1.0.0-01", "v1.0.0-a..b", "v1.0.0+a", "V1.0.0", "@v1.0.0",
		" v1.0.0", "v1.0.0 ", "v1.0.0\n", "v1.0.0\x00", "v1.0.0-\xff", "a", "latest",
	}
)

// The greatest texts here: a path, and two versions of it, in order.
var (
	longPath    = strings.Repeat("a/", 20000) + "a"
	longVersion = "v" + strings.Repeat("9", 20000) + ".0.0-" + strings.Repeat("a.", 20000) + "a"
	moreVersion = "v1" + strings.Repeat("0", 20000) + ".0.0"
)

// of is a node.
func of(path, version string) api.Node { return api.Node{Path: path, Version: version} }

// row is a row.
func row(path string, versions ...string) api.Row { return api.Row{Path: path, Versions: versions} }

// three are three rows of three versions.
func three() []api.Row {
	return []api.Row{
		row("a", "v1.9.0", "v1.10.0-rc", "v1.10.0"), row("a/b", "v1.0.0-2", "v1.0.0-10", "v1.0.0"), row("ab", "v0.0.1", "v2.0.0", "v10.0.0"),
	}
}

// nothing are rows of none, as a nil list, as an empty one, and with room behind.
func nothing() [][]api.Row { return [][]api.Row{nil, {}, make([]api.Row, 0, 3)} }

// mayBe are rows that may be.
func mayBe() [][]api.Row {
	var every []api.Row
	l := append(nothing(), three(), three()[:2], three()[1:])
	for i, p := range paths {
		every = append(every, row(p, versions...))
		l = append(l, []api.Row{row(p, "v1.0.0")}, []api.Row{row(p, versions...)})
		for _, o := range paths[:i] {
			l = append(l, []api.Row{row(o, "v1.10.0"), row(p, "v1.9.0")})
		}
	}
	for i, v := range versions {
		l = append(l, []api.Row{row("a", v)})
		for _, w := range versions[:i] {
			l = append(l, []api.Row{row("a", w, v)})
		}
	}
	return append(l, every)
}

// mayNot are rows that may not be.
func mayNot() [][]api.Row {
	var l [][]api.Row
	for i, r := range three() {
		for _, bad := range slices.Concat(wrongRows(r.Path), badRows(r)) {
			x := three()
			x[i] = bad
			l = append(l, x, []api.Row{bad})
		}
		// a path twice, of other versions, too, side by side and not
		for at := range 4 {
			for _, again := range []api.Row{r, row(r.Path, r.Versions[0]), row(r.Path, "v0.0.0"), row(r.Path, "v99.0.0")} {
				l = append(l, slices.Insert(three(), at, again))
			}
		}
		// paths out of order
		for j := range i {
			x := three()
			x[i], x[j] = x[j], x[i]
			l = append(l, x)
		}
	}
	return append(l, pairs()...)
}

// pairs are two rows each, that may not be by the order of their paths alone.
func pairs() [][]api.Row {
	var l [][]api.Row
	for i, p := range paths {
		for _, o := range paths[:i+1] {
			l = append(l, []api.Row{row(p, "v1.0.0"), row(o, "v1.1.0")}, []api.Row{row(p, "v1.0.0"), row(o, "v1.0.0")})
		}
	}
	return l
}

// wrongRows are rows of a path that is none, and such of that path by one version that is none.
func wrongRows(p string) []api.Row {
	var l []api.Row
	for _, w := range wrongPaths {
		l = append(l, row(w, "v1.0.0"), row(w))
	}
	for _, w := range wrongVersions {
		l = append(l, row(p, w), row("", w))
	}
	return append(l, api.Row{})
}

// badRows are rows that may not be by their versions, where a row has three that may.
func badRows(r api.Row) []api.Row {
	l := []api.Row{{Path: r.Path}, {Path: r.Path, Versions: []string{}}, {Path: r.Path, Versions: make([]string, 0, 2)}}
	for i, v := range r.Versions {
		for _, w := range wrongVersions {
			x := slices.Clone(r.Versions)
			x[i] = w
			l = append(l, row(r.Path, x...))
		}
		// a version twice
		for at := range 4 {
			l = append(l, row(r.Path, slices.Insert(slices.Clone(r.Versions), at, v)...))
		}
		l = append(l, row(r.Path, v, v))
		// versions out of order
		for j, w := range r.Versions[:i] {
			x := slices.Clone(r.Versions)
			x[i], x[j] = x[j], x[i]
			l = append(l, row(r.Path, x...), row(r.Path, v, w))
		}
	}
	return l
}

// wrong are nodes that may not be: by the path, by the version, or by both.
func wrong() []api.Node {
	l := []api.Node{of("v1.0.0", "a"), of("a@v1.0.0", "")}
	for i, p := range wrongPaths {
		l = append(l, of(p, "v1.0.0"), of(p, wrongVersions[i%len(wrongVersions)]))
	}
	for _, v := range wrongVersions {
		l = append(l, of("a", v))
	}
	return l
}

// asked are nodes that are asked, some of which may be.
func asked() []api.Node {
	l := wrong()
	for i, p := range paths {
		l = append(l, of(p, "v1.0.0"), of(p, versions[i]), of(p, versions[i+5]))
	}
	for _, v := range append(versions, "v1.9.5", "v2.0.0-rc", "v99.0.0") {
		l = append(l, of("a", v))
	}
	return append(l, of("a/b", "v1.0.0-10"), of("ab", "v0.0.1"), of("ab", "v2.0.0"), of("b", "v2.0.0"), of("none", "v1.0.0"))
}

// short are rows as they are shown.
func short(l []api.Row) string {
	s := ""
	for _, r := range l[:min(len(l), 12)] {
		s += fmt.Sprintf(" %.20q:%.20q", r.Path, r.Versions[:min(len(r.Versions), 20)])
	}
	return fmt.Sprintf("(%d rows%s)", len(l), s)
}

// is holds rows and an error against what they are to be; without an error rows may be.
func is(t *testing.T, what string, got []api.Row, e api.Errno, want []api.Row, no api.Errno) {
	t.Helper()
	if !equal(got, want) || e != no || e == api.OK && tally.Check(got) != api.OK {
		t.Errorf("%s: %s, %d, not %s, %d", what, short(got), e, short(want), no)
	}
}

// adds adds a node, holds what comes against the definition, and answers it.
func adds(t *testing.T, l []api.Row, n api.Node) []api.Row {
	t.Helper()
	x, e := tally.Add(l, n)
	want, no := added(l, n)
	is(t, fmt.Sprintf("Add of %.20q to %s", n, short(l)), x, e, want, no)
	return x
}

// drops drops a node, holds what comes against the definition, and answers it.
func drops(t *testing.T, l []api.Row, n api.Node) []api.Row {
	t.Helper()
	x, e := tally.Drop(l, n)
	want, no := dropped(l, n)
	is(t, fmt.Sprintf("Drop of %.20q from %s", n, short(l)), x, e, want, no)
	return x
}

// bests asks a path's last version, and holds it against the definition.
func bests(t *testing.T, l []api.Row, p string) {
	t.Helper()
	v, e := tally.Best(l, p)
	if want, no := last(l, p); v != want || e != no {
		t.Errorf("Best(%s, %.20q): %.20q, %d, not %.20q, %d", short(l), p, v, e, want, no)
	}
}

// alls asks the nodes of rows, and holds them against the definition.
func alls(t *testing.T, l []api.Row) {
	t.Helper()
	x, e := tally.All(l)
	if want, no := nodesOf(l); !slices.Equal(x, want) || e != no {
		t.Errorf("All(%s): %.20q, %d, not %.20q, %d", short(l), x, e, want, no)
	}
}

// P16.1

func TestCheck(t *testing.T) {
	for _, l := range mayBe() {
		if e := tally.Check(l); e != api.OK || !may(l) {
			t.Errorf("Check of what may be, %s: %d", short(l), e)
		}
	}
	for _, l := range mayNot() {
		if e := tally.Check(l); e != api.ErrArg || may(l) {
			t.Errorf("Check of what may not be, %s: %d", short(l), e)
		}
	}
}

func TestCheckOfSome(t *testing.T) {
	for _, x := range []struct {
		l []api.Row
		e api.Errno
	}{
		{nil, api.OK}, {[]api.Row{}, api.OK}, {[]api.Row{row("a", "v1.0.0")}, api.OK}, {[]api.Row{row("a", "v1.9.0", "v1.10.0")}, api.OK},
		{[]api.Row{row("a", "v1.0.0-9", "v1.0.0-10", "v1.0.0-a", "v1.0.0")}, api.OK}, {[]api.Row{row("a", "v1.0.0"), row("a/b", "v0.0.1")}, api.OK},
		{[]api.Row{row("a", "v9.0.0", "v10.0.0"), row("a-b", "v1.0.0"), row("a/b", "v1.0.0"), row("ab", "v1.0.0")}, api.OK},
		{[]api.Row{row("a/", "v1.0.0")}, api.ErrArg}, {[]api.Row{row("a", "v1.0.0"), row("a/", "v1.0.0"), row("b", "v1.0.0")}, api.ErrArg},
		{[]api.Row{row("a", "v1.0.0"), row("b.", "v1.0.0")}, api.ErrArg}, {[]api.Row{row("", "v1.0.0"), row("b", "v1.0.0")}, api.ErrArg},
		{[]api.Row{row("b", "v1.0.0"), row("a", "v1.0.0")}, api.ErrArg}, {[]api.Row{row("a/b", "v1.0.0"), row("a-b", "v1.0.0")}, api.ErrArg},
		{[]api.Row{row("a", "v1.0.0"), row("a", "v1.1.0")}, api.ErrArg},
		{[]api.Row{row("a", "v1.0.0"), row("b", "v1.0.0"), row("a", "v1.1.0")}, api.ErrArg},
		{[]api.Row{row("a")}, api.ErrArg}, {[]api.Row{{Path: "a", Versions: []string{}}}, api.ErrArg},
		{[]api.Row{row("a", "v1.0.0"), row("b")}, api.ErrArg},
		{[]api.Row{row("a", "v1.0")}, api.ErrArg}, {[]api.Row{row("a", "v1.0.0", "")}, api.ErrArg},
		{[]api.Row{row("a", "v1.0.0", "v1.1", "v2.0.0")}, api.ErrArg},
		{[]api.Row{row("a", "v1.10.0", "v1.9.0")}, api.ErrArg}, {[]api.Row{row("a", "v1.0.0", "v1.0.0-a")}, api.ErrArg},
		{[]api.Row{row("a", "v1.0.0", "v1.0.0")}, api.ErrArg}, {[]api.Row{row("a", "v1.0.0", "v2.0.0", "v1.0.0")}, api.ErrArg},
		{[]api.Row{{}}, api.ErrArg},
	} {
		if e := tally.Check(x.l); e != x.e {
			t.Errorf("Check(%s): %d, not %d", short(x.l), e, x.e)
		}
	}
}

func TestCheckOfEachShortList(t *testing.T) {
	few := []api.Row{
		row("a", "v1.9.0"), row("a", "v1.10.0"), row("a", "v1.9.0", "v1.10.0"), row("a", "v1.10.0", "v1.9.0"), row("a"),
		row("a-b", "v1.0.0"), row("b", "v1.0.0-a", "v1.0.0"), row("b", "v1.0"), row("a/", "v1.0.0"), {},
	}
	var grow func(l []api.Row)
	grow = func(l []api.Row) {
		want := api.OK
		if !may(l) {
			want = api.ErrArg
		}
		if e := tally.Check(l); e != want {
			t.Errorf("Check(%s): %d, not %d", short(l), e, want)
		}
		for _, r := range few {
			if len(l) < 4 {
				grow(append(slices.Clone(l), r))
			}
		}
	}
	grow(nil)
}

func TestOf(t *testing.T) {
	for _, x := range []struct {
		l    []api.Node
		want []api.Row
	}{
		{nil, nil}, {[]api.Node{}, nil}, {make([]api.Node, 0, 2), []api.Row{}},
		{[]api.Node{of("a", "v1.0.0")}, []api.Row{row("a", "v1.0.0")}},
		{[]api.Node{of("a", "v1.0.0"), of("a", "v1.0.0")}, []api.Row{row("a", "v1.0.0")}},
		{[]api.Node{of("a", "v1.9.0"), of("a", "v1.10.0")}, []api.Row{row("a", "v1.9.0", "v1.10.0")}},
		{[]api.Node{of("a", "v1.10.0"), of("a", "v1.9.0")}, []api.Row{row("a", "v1.9.0", "v1.10.0")}},
		{[]api.Node{of("a", "v1.0.0"), of("a", "v1.0.0-a"), of("a", "v1.0.0-10"), of("a", "v1.0.0-9")},
			[]api.Row{row("a", "v1.0.0-9", "v1.0.0-10", "v1.0.0-a", "v1.0.0")}},
		// one version of many paths
		{[]api.Node{of("b", "v1.0.0"), of("a/b", "v1.0.0"), of("a", "v1.0.0")}, []api.Row{row("a", "v1.0.0"), row("a/b", "v1.0.0"), row("b", "v1.0.0")}},
		{[]api.Node{of("ab", "v1.0.0"), of("a/b", "v1.0.0"), of("a-b", "v1.0.0")},
			[]api.Row{row("a-b", "v1.0.0"), row("a/b", "v1.0.0"), row("ab", "v1.0.0")}},
		// paths by turns, one node thrice
		{[]api.Node{of("b", "v2.0.0"), of("a", "v1.0.0"), of("b", "v1.0.0"), of("a", "v0.1.0"), of("b", "v2.0.0"), of("b", "v2.0.0")},
			[]api.Row{row("a", "v0.1.0", "v1.0.0"), row("b", "v1.0.0", "v2.0.0")}},
		{[]api.Node{of(longPath, moreVersion), of(longPath, longVersion), of("a", "v1.0.0")},
			[]api.Row{row("a", "v1.0.0"), row(longPath, longVersion, moreVersion)}},
	} {
		l, e := tally.Of(x.l)
		is(t, fmt.Sprintf("Of(%.30q)", x.l), l, e, x.want, api.OK)
	}
}

func TestOfInWhateverOrder(t *testing.T) {
	all, _ := nodesOf(mayBe()[len(mayBe())-1])
	chance := rand.New(rand.NewSource(16))
	for range 60 {
		l := slices.Concat(all, all[:chance.Intn(len(all))], all[:chance.Intn(9)])
		chance.Shuffle(len(l), func(i, j int) { l[i], l[j] = l[j], l[i] })
		l = l[:chance.Intn(len(l)+1)]
		got, e := tally.Of(l)
		want, no := rowsOf(l)
		is(t, "Of nodes by chance", got, e, want, no)
	}
}

func TestOfWrongNodes(t *testing.T) {
	a, b := of("a", "v1.0.0"), of("b", "v1.0.0")
	for _, w := range wrong() {
		for _, l := range [][]api.Node{{w}, {w, w}, {w, a, b}, {a, w, b}, {b, a, w}, {a, w, a, w}} {
			if x, e := tally.Of(l); len(x) != 0 || e != api.ErrArg {
				t.Errorf("Of(%.20q): %s, %d", l, short(x), e)
			}
		}
	}
}

func TestAll(t *testing.T) {
	for _, x := range []struct {
		l    []api.Row
		want []api.Node
	}{
		{nil, nil}, {[]api.Row{}, []api.Node{}}, {[]api.Row{row("a", "v1.0.0")}, []api.Node{of("a", "v1.0.0")}},
		{[]api.Row{row("a", "v1.9.0", "v1.10.0")}, []api.Node{of("a", "v1.9.0"), of("a", "v1.10.0")}},
		{[]api.Row{row("a", "v2.0.0"), row("b", "v1.0.0")}, []api.Node{of("a", "v2.0.0"), of("b", "v1.0.0")}},
		{[]api.Row{row("a", "v1.0.0-a", "v1.0.0"), row("a-b", "v0.0.1"), row("a/b", "v0.0.0", "v9.0.0")},
			[]api.Node{of("a", "v1.0.0-a"), of("a", "v1.0.0"), of("a-b", "v0.0.1"), of("a/b", "v0.0.0"), of("a/b", "v9.0.0")}},
	} {
		if got, e := tally.All(x.l); !slices.Equal(got, x.want) || e != api.OK {
			t.Errorf("All(%s): %q, %d, not %q", short(x.l), got, e, x.want)
		}
	}
	for _, l := range mayBe() {
		alls(t, l)
		all, _ := tally.All(l)
		if node.Check(all) != api.OK {
			t.Errorf("All(%s): no set", short(l))
		}
	}
	for _, l := range mayNot() {
		if all, e := tally.All(l); len(all) != 0 || e != api.ErrArg {
			t.Errorf("All of what may not be, %s: %.20q, %d", short(l), all, e)
		}
	}
}

func TestSame(t *testing.T) {
	// Those that may not be are asked, too: their parts are the same, or not.
	all := append(mayBe()[:90], mayNot()...)
	for i, a := range all {
		for _, b := range all[max(0, i-60):min(i+60, len(all))] {
			if tally.Same(a, b) != equal(a, b) {
				t.Errorf("Same(%s, %s): %v", short(a), short(b), tally.Same(a, b))
			}
		}
		if !tally.Same(a, deep(a)) {
			t.Errorf("Same of %s and itself: false", short(a))
		}
	}
}

func TestSameOfOnePart(t *testing.T) {
	others := [][]api.Row{nil, {}, {{}}, three()[:2], three()[1:], append(three(), row("b", "v1.0.0")), append([]api.Row{row("A", "v1.0.0")}, three()...)}
	for i, r := range three() {
		rows := []api.Row{row(r.Path+"x", r.Versions...), row("", r.Versions...), row(r.Path), row(r.Path, r.Versions[1:]...), row(r.Path, r.Versions[:2]...)}
		rows = append(rows, row(r.Path, append(slices.Clone(r.Versions), "v99.0.0")...), row(r.Path, append([]string{"v0.0.0"}, r.Versions...)...))
		for j, v := range r.Versions {
			x, y := slices.Clone(r.Versions), slices.Clone(r.Versions)
			x[j], y[j] = v+"0", ""
			rows = append(rows, row(r.Path, x...), row(r.Path, y...))
		}
		for _, one := range rows {
			x := three()
			x[i] = one
			others = append(others, x)
		}
		x := three()
		x[i], x[(i+1)%3] = x[(i+1)%3], x[i]
		others = append(others, x)
	}
	for _, x := range others {
		if tally.Same(three(), x) || tally.Same(x, three()) || !tally.Same(x, x) {
			t.Errorf("Same of three rows, and of %s", short(x))
		}
	}
	if !tally.Same(three(), three()) {
		t.Error("Same of three rows, twice: false")
	}
}

func TestSameOfNothing(t *testing.T) {
	for _, a := range nothing() {
		for _, b := range nothing() {
			if !tally.Same(a, b) {
				t.Errorf("Same(%#v, %#v): false", a, b)
			}
		}
		if tally.Same(a, []api.Row{{}}) || tally.Same([]api.Row{{}}, a) {
			t.Errorf("Same of %#v and a row of nothing: true", a)
		}
	}
	a, b := []api.Row{{Path: "a"}}, []api.Row{{Path: "a", Versions: []string{}}}
	if c := []api.Row{{Path: "a", Versions: []string{""}}}; !tally.Same(a, b) || !tally.Same(b, a) || tally.Same(a, c) || tally.Same(c, b) {
		t.Error("Same of a row without versions, as a nil list, as an empty one, and of one empty version")
	}
}

// P16.2

// step is rows, a node that comes or goes, and what is told of it.
type step struct {
	l    []api.Row
	n    api.Node
	want []api.Row
	e    api.Errno
}

// some are three rows of one, two and three versions.
func some() []api.Row {
	return []api.Row{row("b", "v1.9.0"), row("c", "v1.0.0-rc", "v1.10.0"), row("e", "v1.0.0", "v2.0.0", "v10.0.0")}
}

func TestAdd(t *testing.T) {
	b, c, e := some()[0], some()[1], some()[2]
	for _, x := range []step{
		{nil, of("a", "v1.0.0"), []api.Row{row("a", "v1.0.0")}, api.OK}, {[]api.Row{}, of("a", "v1.0.0"), []api.Row{row("a", "v1.0.0")}, api.OK},
		// of a path that is new: ahead of all, between, behind all
		{some(), of("a", "v99.0.0"), []api.Row{row("a", "v99.0.0"), b, c, e}, api.OK},
		{some(), of("B", "v1.9.0"), []api.Row{row("B", "v1.9.0"), b, c, e}, api.OK},
		{some(), of("b/c", "v1.9.0"), []api.Row{b, row("b/c", "v1.9.0"), c, e}, api.OK},
		{some(), of("b-", "v0.0.0"), []api.Row{b, row("b-", "v0.0.0"), c, e}, api.OK},
		{some(), of("d", "v1.0.0"), []api.Row{b, c, row("d", "v1.0.0"), e}, api.OK},
		{some(), of("e/b", "v0.0.0"), []api.Row{b, c, e, row("e/b", "v0.0.0")}, api.OK},
		{some(), of("f", "v0.0.0"), []api.Row{b, c, e, row("f", "v0.0.0")}, api.OK},
		// of one that is there: ahead of all its versions, between, behind all
		{some(), of("b", "v1.8.0"), []api.Row{row("b", "v1.8.0", "v1.9.0"), c, e}, api.OK},
		{some(), of("b", "v1.10.0"), []api.Row{row("b", "v1.9.0", "v1.10.0"), c, e}, api.OK},
		{some(), of("c", "v1.0.0-9"), []api.Row{b, row("c", "v1.0.0-9", "v1.0.0-rc", "v1.10.0"), e}, api.OK},
		{some(), of("c", "v1.0.0"), []api.Row{b, row("c", "v1.0.0-rc", "v1.0.0", "v1.10.0"), e}, api.OK},
		{some(), of("c", "v1.9.0"), []api.Row{b, row("c", "v1.0.0-rc", "v1.9.0", "v1.10.0"), e}, api.OK},
		{some(), of("c", "v1.10.1"), []api.Row{b, row("c", "v1.0.0-rc", "v1.10.0", "v1.10.1"), e}, api.OK},
		{some(), of("e", "v1.0.0-a"), []api.Row{b, c, row("e", "v1.0.0-a", "v1.0.0", "v2.0.0", "v10.0.0")}, api.OK},
		{some(), of("e", "v1.10.0"), []api.Row{b, c, row("e", "v1.0.0", "v1.10.0", "v2.0.0", "v10.0.0")}, api.OK},
		{some(), of("e", "v9.0.0"), []api.Row{b, c, row("e", "v1.0.0", "v2.0.0", "v9.0.0", "v10.0.0")}, api.OK},
		{some(), of("e", "v11.0.0"), []api.Row{b, c, row("e", "v1.0.0", "v2.0.0", "v10.0.0", "v11.0.0")}, api.OK},
		// a node that is there
		{some(), of("b", "v1.9.0"), some(), api.ErrThere}, {some(), of("c", "v1.0.0-rc"), some(), api.ErrThere},
		{some(), of("c", "v1.10.0"), some(), api.ErrThere},
		{some(), of("e", "v1.0.0"), some(), api.ErrThere}, {some(), of("e", "v2.0.0"), some(), api.ErrThere},
		{some(), of("e", "v10.0.0"), some(), api.ErrThere},
		{[]api.Row{b}, of("b", "v1.9.0"), []api.Row{b}, api.ErrThere},
	} {
		l, no := tally.Add(x.l, x.n)
		is(t, fmt.Sprintf("Add of %q to %s", x.n, short(x.l)), l, no, x.want, x.e)
		adds(t, x.l, x.n)
	}
}

func TestDrop(t *testing.T) {
	b, c, e := some()[0], some()[1], some()[2]
	alone := row("f", "v1.0.0")
	for _, x := range []step{
		// that has others beside it in its row
		{some(), of("c", "v1.0.0-rc"), []api.Row{b, row("c", "v1.10.0"), e}, api.OK},
		{some(), of("c", "v1.10.0"), []api.Row{b, row("c", "v1.0.0-rc"), e}, api.OK},
		{some(), of("e", "v1.0.0"), []api.Row{b, c, row("e", "v2.0.0", "v10.0.0")}, api.OK},
		{some(), of("e", "v2.0.0"), []api.Row{b, c, row("e", "v1.0.0", "v10.0.0")}, api.OK},
		{some(), of("e", "v10.0.0"), []api.Row{b, c, row("e", "v1.0.0", "v2.0.0")}, api.OK},
		{[]api.Row{c}, of("c", "v1.10.0"), []api.Row{row("c", "v1.0.0-rc")}, api.OK},
		// the only one of its row: the first, a middle, the last and the only one
		{some(), of("b", "v1.9.0"), []api.Row{c, e}, api.OK}, {[]api.Row{c, row("d", "v1.0.0"), e}, of("d", "v1.0.0"), []api.Row{c, e}, api.OK},
		{append(some(), alone), of("f", "v1.0.0"), some(), api.OK}, {[]api.Row{alone}, of("f", "v1.0.0"), nil, api.OK},
		// that is not there, by its path, and by its version
		{nil, of("a", "v1.0.0"), nil, api.ErrNone}, {[]api.Row{}, of("a", "v1.0.0"), nil, api.ErrNone},
		{some(), of("a", "v1.9.0"), some(), api.ErrNone}, {some(), of("b/c", "v1.9.0"), some(), api.ErrNone},
		{some(), of("d", "v1.10.0"), some(), api.ErrNone},
		{some(), of("B", "v1.9.0"), some(), api.ErrNone}, {some(), of("f", "v10.0.0"), some(), api.ErrNone},
		{[]api.Row{alone}, of("g", "v1.0.0"), []api.Row{alone}, api.ErrNone},
		{some(), of("b", "v1.8.0"), some(), api.ErrNone}, {some(), of("b", "v1.10.0"), some(), api.ErrNone},
		{some(), of("c", "v1.0.0"), some(), api.ErrNone},
		{some(), of("c", "v1.0.0-9"), some(), api.ErrNone},
		{some(), of("e", "v1.10.0"), some(), api.ErrNone}, {some(), of("e", "v99.0.0"), some(), api.ErrNone},
		// whose version another path has
		{some(), of("c", "v1.9.0"), some(), api.ErrNone}, {some(), of("b", "v1.10.0"), some(), api.ErrNone},
		{some(), of("b", "v2.0.0"), some(), api.ErrNone},
	} {
		l, no := tally.Drop(x.l, x.n)
		is(t, fmt.Sprintf("Drop of %q from %s", x.n, short(x.l)), l, no, x.want, x.e)
		drops(t, x.l, x.n)
	}
}

func TestAddAndDropEach(t *testing.T) {
	for _, l := range append(mayBe(), mayNot()...) {
		for _, n := range asked() {
			adds(t, l, n)
			drops(t, l, n)
		}
	}
}

// refuses holds all that is done with rows, and a node, against ErrArg: rows are as they are, and all else is nothing.
func refuses(t *testing.T, l []api.Row, n api.Node) {
	t.Helper()
	was := deep(l)
	x, e := tally.Add(l, n)
	is(t, fmt.Sprintf("Add of %q to %s", n, short(l)), x, e, was, api.ErrArg)
	x, e = tally.Drop(l, n)
	is(t, fmt.Sprintf("Drop of %q from %s", n, short(l)), x, e, was, api.ErrArg)
}

func TestRefused(t *testing.T) {
	for _, n := range wrong() {
		for _, l := range append(nothing(), three(), some(), mayBe()[9]) {
			// It isn't there, either: that it may not be is told ahead of that.
			refuses(t, l, n)
		}
	}
	for _, l := range mayNot() {
		// Whether it is there, isn't, or may not be.
		nodes := []api.Node{of("none", "v1.0.0"), of("-", "v1.0.0"), {}, of("a", "v1.0"), of("a/", "v1.0.0")}
		for n := range kept(l) {
			nodes = append(nodes, n)
		}
		for _, n := range nodes {
			refuses(t, l, n)
		}
	}
}

// P16.3

func TestBest(t *testing.T) {
	l := append(some(), row("e/f", "v1.0.0-a", "v1.0.0"), row("g", "v1.9.0", "v1.10.0", "v1.10.1-rc"))
	for _, x := range []struct {
		l    []api.Row
		p    string
		want string
		e    api.Errno
	}{
		// of one version, and of many
		{l, "b", "v1.9.0", api.OK}, {l, "c", "v1.10.0", api.OK}, {l, "e", "v10.0.0", api.OK},
		{l, "e/f", "v1.0.0", api.OK}, {l, "g", "v1.10.1-rc", api.OK},
		{l[:1], "b", "v1.9.0", api.OK}, {[]api.Row{row("a", "v1.9.0", "v1.10.0")}, "a", "v1.10.0", api.OK},
		// that no row has
		{nil, "a", "", api.ErrNone}, {[]api.Row{}, "a", "", api.ErrNone},
		{l, "a", "", api.ErrNone}, {l, "B", "", api.ErrNone}, {l, "b/c", "", api.ErrNone},
		{l, "d", "", api.ErrNone}, {l, "e-f", "", api.ErrNone}, {l, "f", "", api.ErrNone},
		{l, "h", "", api.ErrNone}, {l, "e/f/g", "", api.ErrNone}, {l[:1], "a", "", api.ErrNone},
		// what may not be asked, though no row has it
		{nil, "", "", api.ErrArg}, {l, "", "", api.ErrArg}, {l, "b/", "", api.ErrArg}, {l, ".b", "", api.ErrArg}, {l, "b@v1.9.0", "", api.ErrArg},
		// rows that may not be, though one has it, or none
		{[]api.Row{row("a")}, "a", "", api.ErrArg}, {[]api.Row{row("a", "v1")}, "a", "", api.ErrArg},
		{[]api.Row{row("a", "v1.0.0"), row("b")}, "a", "", api.ErrArg},
		{[]api.Row{row("b", "v1.0.0"), row("a", "v1.0.0")}, "a", "", api.ErrArg},
		{[]api.Row{row("a", "v1.0.0"), row("a", "v1.1.0")}, "a", "", api.ErrArg},
		{[]api.Row{row("a", "v1.10.0", "v1.9.0")}, "a", "", api.ErrArg}, {[]api.Row{row("a", "v1.0.0", "v1.0.0")}, "b", "", api.ErrArg},
		{[]api.Row{row("", "v1.0.0")}, "", "", api.ErrArg}, {[]api.Row{row("a")}, "/", "", api.ErrArg},
	} {
		if v, e := tally.Best(x.l, x.p); v != x.want || e != x.e {
			t.Errorf("Best(%s, %q): %q, %d, not %q, %d", short(x.l), x.p, v, e, x.want, x.e)
		}
		bests(t, x.l, x.p)
	}
}

func TestBestOfEach(t *testing.T) {
	every := slices.Concat(paths, wrongPaths, []string{"none", "a/b/", "a/b/c/d", "v1.0.0"})
	for _, l := range append(mayBe(), mayNot()...) {
		for _, p := range every {
			bests(t, l, p)
		}
	}
}

func TestExamples(t *testing.T) {
	l, _ := tally.Of([]api.Node{of("a", "v1.9.0"), of("a", "v1.10.0")})
	if v, e := tally.Best(l, "a"); v != "v1.10.0" || e != api.OK {
		t.Errorf("the best one of two: %q, %d", v, e)
	}
	less, _ := tally.Drop(l, of("a", "v1.10.0"))
	if v, e := tally.Best(less, "a"); v != "v1.9.0" || e != api.OK {
		t.Errorf("the best one without that: %q, %d", v, e)
	}
	if v, e := tally.Best(nil, "a"); v != "" || e != api.ErrNone {
		t.Errorf("Best of none: %q, %d", v, e)
	}
}

// P16.4

func TestAddedAndDropped(t *testing.T) {
	for _, l := range mayBe() {
		for _, n := range asked() {
			switch x, e := tally.Add(l, n); e {
			case api.OK:
				// It wasn't there: added, and dropped, it leaves rows as they were.
				back, e := tally.Drop(x, n)
				is(t, fmt.Sprintf("%s, %q added, and dropped", short(l), n), back, e, l, api.OK)
				if tally.Same(x, l) || !tally.Same(back, l) {
					t.Errorf("%s, %q added, and dropped: not the same", short(l), n)
				}
			case api.ErrThere:
				// It was there: dropped, and added again, it leaves rows as they were.
				less, _ := tally.Drop(l, n)
				back, e := tally.Add(less, n)
				is(t, fmt.Sprintf("%s, %q dropped, and added", short(l), n), back, e, l, api.OK)
			}
		}
	}
}

func TestOfAllIsIt(t *testing.T) {
	for _, l := range mayBe() {
		all, _ := tally.All(l)
		slices.Reverse(all)
		x, e := tally.Of(append(all, all...))
		is(t, "Of all nodes of "+short(l), x, e, l, api.OK)
	}
}

func TestEachOrder(t *testing.T) {
	// Each order of adding, and then of dropping, some nodes.
	l := []api.Node{of("a", "v1.9.0"), of("a", "v1.10.0"), of("a", "v1.10.0-rc"), of("a/b", "v1.0.0"), of("a-b", "v1.0.0"), of("b", "v0.0.0")}
	want := []api.Row{row("a", "v1.9.0", "v1.10.0-rc", "v1.10.0"), row("a-b", "v1.0.0"), row("a/b", "v1.0.0"), row("b", "v0.0.0")}
	orders(l, 0, func() {
		var x []api.Row
		for i, n := range l {
			x = adds(t, x, n)
			y, e := tally.Of(l[:i+1])
			is(t, fmt.Sprintf("Of(%q)", l[:i+1]), y, e, x, api.OK)
		}
		if !equal(x, want) {
			t.Fatalf("added in order %q: %s", l, short(x))
		}
		for i, n := range l {
			x = drops(t, x, n)
			y, e := tally.Of(l[i+1:])
			is(t, fmt.Sprintf("Of(%q)", l[i+1:]), y, e, x, api.OK)
		}
		if len(x) != 0 {
			t.Fatalf("dropped in order %q: %s", l, short(x))
		}
	})
}

// orders tries each order of what stands from a place on.
func orders(l []api.Node, from int, try func()) {
	if from == len(l) {
		try()
		return
	}
	for i := from; i < len(l); i++ {
		l[from], l[i] = l[i], l[from]
		orders(l, from+1, try)
		l[from], l[i] = l[i], l[from]
	}
}

func TestBestIsNoLower(t *testing.T) {
	for _, l := range mayBe() {
		for _, r := range l {
			best, e := tally.Best(l, r.Path)
			if e != api.OK || !slices.Contains(r.Versions, best) {
				t.Errorf("Best(%s, %q): %q, %d", short(l), r.Path, best, e)
			}
			for _, v := range r.Versions {
				if c, e := version.Cmp(best, v); c < 0 || e != api.OK {
					t.Errorf("Best(%s, %q): %q, lower than %q", short(l), r.Path, best, v)
				}
			}
			if top, _ := version.Max(r.Versions...); top != best {
				t.Errorf("Best(%s, %q): %q, not %q", short(l), r.Path, best, top)
			}
		}
	}
}

func TestComeAndGo(t *testing.T) {
	every := asked()
	for seed := range 60 {
		chance := rand.New(rand.NewSource(int64(seed)))
		var l []api.Row
		m := map[api.Node]bool{}
		for range 150 {
			n := every[chance.Intn(len(every))]
			switch on := chance.Intn(3) > 0; {
			case !able(n):
				refuses(t, l, n)
			case on:
				m[n] = true
				l = adds(t, l, n)
			default:
				delete(m, n)
				l = drops(t, l, n)
			}
			if !equal(l, listed(m)) {
				t.Fatalf("what came and went: %s, not %s", short(l), short(listed(m)))
			}
		}
		alls(t, l)
		for _, n := range every {
			bests(t, l, n.Path)
		}
	}
}

// What holds of all

func TestChance(t *testing.T) {
	chance := rand.New(rand.NewSource(116))
	every := asked()
	for range 5000 {
		m := map[api.Node]bool{}
		for range chance.Intn(12) {
			m[of(paths[chance.Intn(5)], versions[chance.Intn(len(versions))])] = true
		}
		l := listed(m)
		if len(l) > 0 && chance.Intn(3) == 0 {
			i, j := chance.Intn(len(l)), chance.Intn(len(l))
			at := chance.Intn(len(l[i].Versions))
			switch chance.Intn(5) {
			case 0:
				l[i], l[j] = l[j], l[i]
			case 1:
				l[i].Path = l[j].Path
			case 2:
				l[i].Path = wrongPaths[chance.Intn(len(wrongPaths))]
			case 3:
				l[i].Versions[at] = wrongVersions[chance.Intn(len(wrongVersions))]
			default:
				l[i].Versions[at] = l[j].Versions[0]
			}
		}
		if e := tally.Check(l); (e == api.OK) != may(l) || e != api.OK && e != api.ErrArg {
			t.Errorf("Check(%s): %d", short(l), e)
		}
		n := every[chance.Intn(len(every))]
		adds(t, l, n)
		drops(t, l, n)
		bests(t, l, n.Path)
		alls(t, l)
	}
}

func TestOfNothing(t *testing.T) {
	for _, l := range nothing() {
		for _, n := range asked() {
			adds(t, l, n)
			drops(t, l, n)
			bests(t, l, n.Path)
		}
		alls(t, l)
	}
}

// spoilt is what stands in the room behind lists, and where one was written over.
const spoilt = "spoilt"

// roomy are rows in memory of their own, with room behind each list, which is its owner's, too.
func roomy(l []api.Row) []api.Row {
	x := slices.Grow(deep(l), 3)
	for i := range x {
		v := slices.Grow(x[i].Versions, 3)
		for j := len(v); j < cap(v); j++ {
			v[:cap(v)][j] = "room"
		}
		x[i].Versions = v
	}
	for i := len(x); i < cap(x); i++ {
		x[:cap(x)][i] = row("room", "v1.0.0")
	}
	return x
}

// whole are rows with the room behind each list.
func whole(l []api.Row) []api.Row {
	x := slices.Clone(l[:cap(l)])
	for i, r := range x {
		x[i].Versions = r.Versions[:cap(r.Versions)]
	}
	return x
}

// spoil writes over all of rows, and over the room behind them.
func spoil(l []api.Row) {
	for i, r := range l[:cap(l)] {
		spoilVersions(r)
		l[:cap(l)][i] = row(spoilt)
	}
}

// spoilVersions writes over the versions of a row, and over the room behind them.
func spoilVersions(r api.Row) {
	for j := range r.Versions[:cap(r.Versions)] {
		r.Versions[:cap(r.Versions)][j] = spoilt
	}
}

func TestUnchanged(t *testing.T) {
	every := asked()
	for _, x := range append(mayBe(), mayNot()...) {
		l := roomy(x)
		was := deep(whole(l))
		tally.Check(l)
		tally.All(l)
		tally.Same(l, x)
		tally.Same(x, l)
		for _, n := range every {
			tally.Add(l, n)
			tally.Drop(l, n)
			tally.Best(l, n.Path)
		}
		if !equal(whole(l), was) {
			t.Fatalf("%s is %s", short(was), short(whole(l)))
		}
	}
}

func TestNodesUnchanged(t *testing.T) {
	nodes := slices.Grow([]api.Node{of("b", "v1.10.0"), of("b", "v1.9.0"), of("a", "v1.0.0"), of("b", "v1.10.0"), of("a", "v1.0.0")}, 4)
	for _, l := range [][]api.Node{nodes, append(slices.Clone(nodes), of("", "v1.0.0"))} {
		was := slices.Clone(l[:cap(l)])
		one, _ := tally.Of(l)
		two, _ := tally.Of(l)
		wasTwo := deep(two)
		spoil(one)
		if !slices.Equal(l[:cap(l)], was) || !equal(two, wasTwo) {
			t.Errorf("Of(%q) changed it, or shares with others", was)
		}
	}
}

func TestNothingShared(t *testing.T) {
	for _, x := range append(mayBe(), mayNot()...) {
		for _, n := range []api.Node{of("a", "v1.10.0"), of("a", "v1.9.5"), of("a/b", "v1.0.0"), of("a/b/d", "v1.0.0"), of("zz", "v1.0.0"), {}} {
			l := roomy(x)
			was := deep(whole(l))
			one, _ := tally.Add(l, n)
			two, _ := tally.Add(l, n)
			three, _ := tally.Drop(l, n)
			four, _ := tally.Drop(l, n)
			nodes, _ := tally.All(l)
			wasTwo, wasFour, wasNodes := deep(two), deep(four), slices.Clone(nodes)
			for _, answer := range [][]api.Row{one, three} {
				spoil(answer)
				if !equal(whole(l), was) || !equal(two, wasTwo) || !equal(four, wasFour) {
					t.Fatalf("what is answered of %s, %q shares with others", short(x), n)
				}
			}
			spoil(l)
			if !equal(two, wasTwo) || !equal(four, wasFour) || !slices.Equal(nodes, wasNodes) {
				t.Fatalf("what is answered of %s, %q shares with what was handed in", short(x), n)
			}
		}
	}
}

func TestNoTwoListsShared(t *testing.T) {
	nodes, _ := tally.All(three())
	of3, _ := tally.Of(nodes)
	add, _ := tally.Add(three(), of("a/b", "v2.0.0"))
	begin, _ := tally.Add(three(), of("A", "v2.0.0"))
	less, _ := tally.Drop(three(), of("a/b", "v1.0.0-10"))
	there, _ := tally.Add(three(), of("a", "v1.9.0"))
	none, _ := tally.Drop(three(), of("a", "v9.9.0"))
	for i, l := range [][]api.Row{of3, add, begin, less, there, none} {
		for j, r := range l {
			was := deep(l)
			spoilVersions(r)
			was[j].Versions = slices.Clone(r.Versions)
			if !equal(l, was) {
				t.Errorf("rows %d: the versions of row %d are those of another one, too: %s", i, j, short(l))
			}
		}
	}
}

func TestBranches(t *testing.T) {
	// Two go on from the same rows: neither is in the other's.
	nodes := []api.Node{of("A", "v1.0.0"), of("a", "v1.9.5"), of("a", "v1.11.0"), of("a/b", "v0.0.1"), of("a/c", "v1.0.0"), of("b", "v1.0.0")}
	l := three()
	for _, n := range nodes {
		for _, m := range nodes {
			x := adds(t, l, n)
			y := adds(t, l, m)
			z := drops(t, x, of("a", "v1.10.0"))
			w := adds(t, z, of("a", "v1.9.9"))
			for _, o := range [][]api.Row{x, y, z, w} {
				alls(t, o)
			}
			wantX, _ := added(l, n)
			wantY, _ := added(l, m)
			if !equal(l, three()) || !equal(x, wantX) || !equal(y, wantY) {
				t.Fatalf("%q, %q: %s, %s, %s", n, m, short(l), short(x), short(y))
			}
		}
	}
}

func TestSameAgain(t *testing.T) {
	l := roomy(three())
	var g sync.WaitGroup
	for range 8 {
		g.Go(func() {
			for range 10 {
				for _, n := range asked() {
					adds(t, l, n)
					drops(t, l, n)
					bests(t, l, n.Path)
				}
				alls(t, l)
			}
		})
	}
	g.Wait()
}

func TestMany(t *testing.T) {
	const many = 20000
	var l []api.Row
	var nodes []api.Node
	for i := range many {
		p := fmt.Sprintf("m%06d", i)
		l = append(l, row(p, "v1.9.0", "v1.10.0"))
		nodes = append(nodes, of(p, "v1.10.0"), of(p, "v1.9.0"))
	}
	if x, e := tally.Of(nodes); !equal(x, l) || e != api.OK || tally.Check(x) != api.OK {
		t.Fatalf("Of %d nodes: %d rows, %d", 2*many, len(x), e)
	}
	for _, i := range []int{0, 1, 2, many / 3, many / 2, many - 2, many - 1} {
		n := of(l[i].Path, "v1.10.0")
		x, e := tally.Drop(l, n)
		if v, no := tally.Best(x, n.Path); len(x) != many || v != "v1.9.0" || e != api.OK || no != api.OK {
			t.Errorf("Drop of node %d: %d rows, %d, %q, %d", i, len(x), e, v, no)
		}
		y, e := tally.Drop(x, of(n.Path, "v1.9.0"))
		if v, no := tally.Best(y, n.Path); len(y) != many-1 || v != "" || e != api.OK || no != api.ErrNone {
			t.Errorf("Drop of row %d: %d rows, %d, %q, %d", i, len(y), e, v, no)
		}
		y, _ = tally.Add(y, n)
		if back, e := tally.Add(y, of(n.Path, "v1.9.0")); !equal(back, l) || e != api.OK {
			t.Errorf("Add of row %d again: %d rows, %d", i, len(back), e)
		}
	}
	l[many-1].Path = l[0].Path
	if e := tally.Check(l); e != api.ErrArg {
		t.Errorf("Check of the first path again, last: %d", e)
	}
}

func TestManyVersions(t *testing.T) {
	const many = 20000
	r := row("a")
	for i := range many {
		r.Versions = append(r.Versions, fmt.Sprintf("v1.%d.0", i))
	}
	l := []api.Row{r, row("b", "v1.0.0")}
	if e := tally.Check(l); e != api.OK {
		t.Fatalf("Check of %d versions: %d", many, e)
	}
	for _, i := range []int{0, 1, 9, 10, many / 2, many - 1} {
		n := of("a", r.Versions[i])
		less, e := tally.Drop(l, n)
		if len(less) != 2 || len(less[0].Versions) != many-1 || slices.Contains(less[0].Versions, n.Version) || e != api.OK {
			t.Errorf("Drop of version %d: %d", i, e)
		}
		if back, e := tally.Add(less, n); !equal(back, l) || e != api.OK {
			t.Errorf("Add of version %d again: %d", i, e)
		}
	}
}

func TestLong(t *testing.T) {
	if !path.May(longPath) || !version.May(longVersion) || !version.May(moreVersion) {
		t.Fatal("the greatest texts here may not be")
	}
	long, more := of(longPath, longVersion), of(longPath, moreVersion)
	l := adds(t, adds(t, three(), more), long)
	is(t, "rows of the greatest texts", l, tally.Check(l), slices.Insert(three(), 1, row(longPath, longVersion, moreVersion)), api.OK)
	for _, n := range []api.Node{long, more, of(longPath, "v1.0.0"), of(longPath+"/", "v1.0.0"), of(longPath, longVersion+".")} {
		adds(t, l, n)
		drops(t, l, n)
		bests(t, l, n.Path)
	}
	if v, e := tally.Best(l, longPath); v != moreVersion || e != api.OK {
		t.Errorf("Best of a long path: %d octets, %d", len(v), e)
	}
	is(t, "long ones added, and dropped", drops(t, drops(t, l, long), more), api.OK, three(), api.OK)
	alls(t, l)
	bad := slices.Insert(three(), 1, row(longPath, moreVersion, longVersion))
	refuses(t, bad, of("a", "v1.0.0"))
	if e := tally.Check(bad); e != api.ErrArg {
		t.Errorf("Check of long versions out of order: %d", e)
	}
}
