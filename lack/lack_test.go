package lack_test

import (
	"fmt"
	"slices"
	"strings"
	"testing"

	"graftwood/api"
	"graftwood/lack"
	"graftwood/node"
)

// paths are paths in order; some begin others, and those of one are not in the order of their elements.
var paths = []string{"-", "0", "A", "a", "a-b", "a.b", "a/b", "a/b/c", "ab", "b", "golang.org/x/mod", "~"}

// versions are versions in order, many of them not in that of their octets.
var versions = []string{
	"v0.0.0-0", "v0.0.0", "v0.9.0", "v1.0.0-2", "v1.0.0-10", "v1.0.0-A", "v1.0.0-a", "v1.0.0-a.2", "v1.0.0-a.10", "v1.0.0-a.b",
	"v1.0.0", "v1.9.0", "v1.10.0-rc", "v1.10.0", "v2.0.0", "v10.0.0", "v10000000000000000000000.0.0",
}

// wrongPaths and wrongVersions are texts that are none, but for the empty one.
var (
	wrongPaths = []string{
		".", "/", ".a", "a.", "a/", "/a", "a//b", "a/.b", "a./b", "@", "a@v1.0.0", " a", "a ", "a b", "a\n", "a+", "é", "a\x00", "~\xff",
	}
	wrongVersions = []string{
		"v", "1.0.0", "v1", "v1.0", "v1.0.0.0", "v01.0.0", "v1.0.0-", "v1.0.0-01", "v1.0.0-a..b", "v1.0.0+a", "V1.0.0", "@v1.0.0",
		" v1.0.0", "v1.0.0 ", "v1.0.0\n", "v1.0.0\x00", "v1.0.0-\xff", "a", "latest",
	}
)

// The greatest texts here. What is asked each by each goes without them, as they take long.
var (
	longPath    = strings.Repeat("a/", 20000) + "a"
	longVersion = "v" + strings.Repeat("9", 20000) + ".0.0-" + strings.Repeat("a.", 20000) + "a"
)

// root is whom the root's needs come from.
var root api.Node

// of is a node.
func of(path, version string) api.Node { return api.Node{Path: path, Version: version} }

// one is the node of a text; an empty one's is the root.
func one(text string) api.Node {
	p, v, _ := strings.Cut(text, "@")
	return of(p, v)
}

// nodes are the nodes of texts.
func nodes(texts ...string) []api.Node {
	var l []api.Node
	for _, s := range texts {
		l = append(l, one(s))
	}
	return l
}

// need is a need, told by two nodes' texts.
func need(from, to string) api.Need { return api.Need{From: one(from), To: one(to)} }

// three are three nodes of a set, two of them of one path.
func three() []api.Node { return nodes("b@v1.9.0", "b@v1.10.0", "e@v1.0.0-rc") }

// every is a set of all paths, of some two versions.
func every() []api.Node {
	var l []api.Node
	for i, p := range paths {
		l = append(l, of(p, versions[i]))
		if i%3 > 0 {
			l = append(l, of(p, versions[i+2]))
		}
	}
	return l
}

// some are needs in no order, one of them twice: the root's, of nodes, and of a node by itself.
func some() []api.Need {
	return []api.Need{
		need("b@v1.10.0", "b@v1.9.0"), need("", "b@v1.10.0"), need("e@v1.0.0-rc", "e@v1.0.0-rc"), need("", "a@v1.0.0"),
		need("b@v1.9.0", "e@v1.0.0-rc"), need("a@v1.0.0", "e@v1.0.0-rc"), need("b@v1.9.0", "e@v1.0.0-rc"), need("", "e@v1.0.0-rc"),
	}
}

// at is a list with something put in at a place.
func at[T any](l []T, place int, x ...T) []T { return slices.Insert(slices.Clone(l), place, x...) }

// instead is a list with something in the stead of what stands at a place.
func instead[T any](l []T, place int, x T) []T {
	out := slices.Clone(l)
	out[place] = x
	return out
}

// swapped is a list where two changed places.
func swapped[T any](l []T, i, j int) []T {
	out := slices.Clone(l)
	out[i], out[j] = out[j], out[i]
	return out
}

// turned is a list from its end on.
func turned[T any](l []T) []T {
	out := slices.Clone(l)
	slices.Reverse(out)
	return out
}

// nothing is the list of none: as nil, as an empty one, and with room behind.
func nothing[T any]() [][]T { return [][]T{nil, {}, make([]T, 0, 3)} }

// sets are lists that are sets.
func sets() [][]api.Node {
	l := append(nothing[api.Node](), three(), three()[:1], three()[2:], every(), every()[4:11])
	for i, p := range paths {
		l = append(l, []api.Node{of(p, "v1.0.0")}, []api.Node{of(p, "v1.9.0"), of(p, "v1.10.0"), of(p+"z", versions[i])})
	}
	return l
}

// noSets are lists that are none.
func noSets() [][]api.Node {
	l := [][]api.Node{nodes("a@v1.10.0", "a@v1.9.0"), nodes("a@v1.0.0", "a@v1.0.0"), nodes("a/b@v1.0.0", "a-b@v1.0.0")}
	for i, n := range three() {
		for _, w := range append(wrong(), root) {
			l = append(l, instead(three(), i, w), []api.Node{w})
		}
		for place := range 4 {
			l = append(l, at(three(), place, n))
		}
		for j := range i {
			l = append(l, swapped(three(), i, j))
		}
	}
	return l
}

// wrong are nodes that may not be, but for the root: by the path, by the version, or by both.
func wrong() []api.Node {
	l := []api.Node{of("a", ""), of("", "v1.0.0"), of("v1.0.0", "a"), of("a@v1.0.0", ""), of("", "a"), of("", "v"), of("/", "")}
	for i, p := range wrongPaths {
		l = append(l, of(p, "v1.0.0"), of(p, wrongVersions[i]))
	}
	for _, v := range wrongVersions {
		l = append(l, of("a", v))
	}
	return l
}

// mayBe are needs that may be.
func mayBe() [][]api.Need {
	l := append(nothing[api.Need](), some(), turned(some()), some()[:1], some()[1:2], some()[3:6])
	var circle []api.Need
	for i, n := range every() {
		l = append(l, []api.Need{{To: n}}, []api.Need{{From: n, To: n}}, []api.Need{{To: n}, {To: n}, {From: n, To: one("b@v1.9.0")}, {To: n}})
		circle = append(circle, api.Need{From: n, To: every()[(i+5)%len(every())]})
	}
	return append(l, circle, turned(circle))
}

// mayNot are needs that may not be: one in the stead of each, or at each place.
func mayNot() [][]api.Need {
	var bad []api.Need
	for _, w := range wrong() {
		bad = append(bad, api.Need{To: w}, api.Need{From: w, To: one("b@v1.9.0")}, api.Need{From: one("b@v1.9.0"), To: w}, api.Need{From: w, To: w})
	}
	bad = append(bad, api.Need{}, api.Need{From: one("b@v1.9.0")}, api.Need{From: of("b", "")}, api.Need{From: of("", "v1.9.0")})
	var l [][]api.Need
	for i, d := range bad {
		l = append(l, []api.Need{d}, at(some(), i%len(some()), d))
		for _, place := range []int{0, len(some()) / 2, len(some()) - 1} {
			l = append(l, instead(some(), place, d))
		}
	}
	return l
}

// short is a list as it is shown.
func short[T any](l []T) string {
	s := ""
	for _, x := range l[:min(len(l), 12)] {
		s += fmt.Sprintf(" %.20q", any(x))
	}
	return fmt.Sprintf("(%d:%s)", len(l), s)
}

// misses asks what is missing, holds it against the definition, and answers it.
func misses(t *testing.T, live, keys []api.Node) []api.Node {
	t.Helper()
	l, e := lack.Missing(live, keys)
	want, no := missed(live, keys)
	if !slices.Equal(l, want) || e != no || !isSet(l) {
		t.Errorf("Missing(%s, %s): %s, %d, not %s, %d", short(live), short(keys), short(l), e, short(want), no)
	}
	return l
}

// asksBy asks who needs a node, and holds it against the definition.
func asksBy(t *testing.T, l []api.Need, n api.Node) {
	t.Helper()
	by, is, e := lack.By(l, n)
	want, wants, no := needing(l, n)
	if !slices.Equal(by, want) || is != wants || e != no || !isSet(by) {
		t.Errorf("By(%s, %.20q): %s, %v, %d, not %s, %v, %d", short(l), n, short(by), is, e, short(want), wants, no)
	}
}

// P18.1

func TestCheck(t *testing.T) {
	for _, l := range mayBe() {
		if e := lack.Check(l); e != api.OK || !may(l) {
			t.Errorf("Check of needs that may be, %s: %d", short(l), e)
		}
	}
	for _, l := range mayNot() {
		if e := lack.Check(l); e != api.ErrArg || may(l) {
			t.Errorf("Check of needs that may not be, %s: %d", short(l), e)
		}
	}
}

func TestCheckOfSome(t *testing.T) {
	for _, x := range []struct {
		l []api.Need
		e api.Errno
	}{
		{nil, api.OK}, {[]api.Need{}, api.OK}, {[]api.Need{need("", "a@v1.0.0")}, api.OK}, {[]api.Need{need("a@v1.0.0", "b@v1.0.0")}, api.OK},
		{[]api.Need{need("a@v1.0.0", "a@v1.0.0")}, api.OK}, {[]api.Need{need("a@v1.0.0", "a@v1.1.0")}, api.OK},
		// in any order, and twice
		{[]api.Need{need("b@v1.0.0", "a@v1.0.0"), need("a@v1.0.0", "b@v1.0.0"), need("", "b@v1.0.0")}, api.OK},
		{[]api.Need{need("a@v1.10.0", "b@v1.0.0"), need("a@v1.9.0", "b@v1.0.0"), need("a@v1.10.0", "b@v1.0.0")}, api.OK},
		{[]api.Need{need("", "a@v1.0.0"), need("", "a@v1.0.0")}, api.OK},
		{[]api.Need{{To: of(longPath, longVersion)}, {From: of(longPath, longVersion), To: of(longPath, longVersion)}}, api.OK},
		// the root is needed by none
		{[]api.Need{{}}, api.ErrArg}, {[]api.Need{need("a@v1.0.0", "")}, api.ErrArg},
		{[]api.Need{{}, need("", "a@v1.0.0"), need("", "b@v1.0.0")}, api.ErrArg}, {[]api.Need{need("", "a@v1.0.0"), {}, need("", "b@v1.0.0")}, api.ErrArg},
		{[]api.Need{need("", "a@v1.0.0"), need("", "b@v1.0.0"), {}}, api.ErrArg},
		// of half a node
		{[]api.Need{{To: of("a", "")}}, api.ErrArg}, {[]api.Need{{To: of("", "v1.0.0")}}, api.ErrArg},
		{[]api.Need{{From: of("a", ""), To: of("b", "v1.0.0")}}, api.ErrArg}, {[]api.Need{{From: of("", "v1.0.0"), To: of("b", "v1.0.0")}}, api.ErrArg},
		{[]api.Need{need("", "a@v1.0.0"), need("a@", "b@v1.0.0")}, api.ErrArg}, {[]api.Need{need("@v1.0.0", "b@v1.0.0"), need("", "a@v1.0.0")}, api.ErrArg},
		// of a path, or a version, that may not be
		{[]api.Need{need("", "a/@v1.0.0")}, api.ErrArg}, {[]api.Need{need("", "a@v1.0")}, api.ErrArg},
		{[]api.Need{need("a/@v1.0.0", "b@v1.0.0")}, api.ErrArg}, {[]api.Need{need("a@v1.0.0-01", "b@v1.0.0")}, api.ErrArg},
		{[]api.Need{{To: of(longPath+"/", longVersion)}}, api.ErrArg}, {[]api.Need{{From: of(longPath, longVersion+"."), To: one("a@v1.0.0")}}, api.ErrArg},
	} {
		if e := lack.Check(x.l); e != x.e {
			t.Errorf("Check(%s): %d, not %d", short(x.l), e, x.e)
		}
	}
}

func TestMissing(t *testing.T) {
	l := nodes("b@v1.9.0", "b@v1.10.0", "c@v1.0.0", "e@v1.0.0-rc", "e@v1.0.0")
	for _, x := range []struct{ live, keys, want []api.Node }{
		{nil, nil, nil}, {[]api.Node{}, []api.Node{}, nil}, {nil, l, nil}, {[]api.Node{}, l, nil}, {l, nil, l}, {l, []api.Node{}, l}, {l, l, nil},
		// some have one: the first, one between, the last, and more
		{l, l[:1], l[1:]}, {l, l[2:3], nodes("b@v1.9.0", "b@v1.10.0", "e@v1.0.0-rc", "e@v1.0.0")}, {l, l[4:], l[:4]},
		{l, nodes("b@v1.9.0", "c@v1.0.0", "e@v1.0.0"), nodes("b@v1.10.0", "e@v1.0.0-rc")}, {l[:1], l, nil}, {l[1:4], l, nil}, {l[2:], l[:3], l[3:]},
		// none has one, but others that are not reached do: ahead of all, between, behind all, of the same paths, of the same versions
		{l, nodes("a@v1.0.0"), l}, {l, nodes("d@v1.0.0"), l}, {l, nodes("f@v1.0.0"), l}, {l, nodes("b@v1.9.5", "c@v1.0.0-a", "e@v1.0.1"), l},
		{l, nodes("a@v1.9.0", "b/c@v1.10.0", "e-@v1.0.0"), l}, {l, nodes("a@v1.0.0", "b@v1.10.0", "f@v1.0.0"), nodes("b@v1.9.0", "c@v1.0.0", "e@v1.0.0-rc", "e@v1.0.0")},
		{[]api.Node{of("a", longVersion), of(longPath, longVersion)}, []api.Node{of(longPath, longVersion)}, []api.Node{of("a", longVersion)}},
	} {
		if got, e := lack.Missing(x.live, x.keys); !slices.Equal(got, x.want) || e != api.OK {
			t.Errorf("Missing(%s, %s): %s, %d, not %s", short(x.live), short(x.keys), short(got), e, short(x.want))
		}
	}
}

func TestMissingOfEach(t *testing.T) {
	for _, live := range sets() {
		for _, keys := range sets() {
			misses(t, live, keys)
		}
	}
}

func TestMissingOfNoSets(t *testing.T) {
	lists := noSets()
	for i, l := range lists {
		if isSet(l) {
			t.Errorf("a set: %s", short(l))
		}
		for _, x := range [][]api.Node{nil, {}, three(), every(), lists[(i+1)%len(lists)], l} {
			for _, pair := range [][2][]api.Node{{l, x}, {x, l}} {
				if got, e := lack.Missing(pair[0], pair[1]); len(got) != 0 || e != api.ErrArg {
					t.Errorf("Missing(%s, %s): %s, %d", short(pair[0]), short(pair[1]), short(got), e)
				}
			}
		}
	}
}

func TestBy(t *testing.T) {
	l := some()
	for _, x := range []struct {
		l    []api.Need
		n    api.Node
		want []api.Node
		root bool
	}{
		// nobody does
		{nil, one("a@v1.0.0"), nil, false}, {[]api.Need{}, one("a@v1.0.0"), nil, false}, {l, one("c@v1.0.0"), nil, false},
		{l, one("a@v1.0.1"), nil, false}, {l, one("b@v1.9.5"), nil, false}, {l[4:7], one("b@v1.9.0"), nil, false},
		// the root alone, a node alone, a node by itself, and all of these
		{l, one("a@v1.0.0"), nil, true}, {l, one("b@v1.10.0"), nil, true}, {l, one("b@v1.9.0"), nodes("b@v1.10.0"), false},
		{l[2:3], one("e@v1.0.0-rc"), nodes("e@v1.0.0-rc"), false}, {l, one("e@v1.0.0-rc"), nodes("a@v1.0.0", "b@v1.9.0", "e@v1.0.0-rc"), true},
		{l[:7], one("e@v1.0.0-rc"), nodes("a@v1.0.0", "b@v1.9.0", "e@v1.0.0-rc"), false}, {turned(l), one("e@v1.0.0-rc"), nodes("a@v1.0.0", "b@v1.9.0", "e@v1.0.0-rc"), true},
		// in the order of nodes, told in none, and twice
		{[]api.Need{need("b@v1.0.0", "a@v1.0.0"), need("a@v1.10.0", "a@v1.0.0"), need("", "a@v1.0.0"), need("b@v1.0.0", "a@v1.0.0"), need("a@v1.9.0", "a@v1.0.0"), need("", "a@v1.0.0")},
			one("a@v1.0.0"), nodes("a@v1.9.0", "a@v1.10.0", "b@v1.0.0"), true},
		{[]api.Need{need("", "a@v1.0.0"), need("", "a@v1.0.0")}, one("a@v1.0.0"), nil, true},
		{[]api.Need{{From: of(longPath, longVersion), To: of("a", longVersion)}, {To: of(longPath, longVersion)}}, of("a", longVersion), []api.Node{of(longPath, longVersion)}, false},
	} {
		if by, is, e := lack.By(x.l, x.n); !slices.Equal(by, x.want) || is != x.root || e != api.OK {
			t.Errorf("By(%s, %.20q): %s, %v, %d, not %s, %v", short(x.l), x.n, short(by), is, e, short(x.want), x.root)
		}
	}
}

func TestByOfEach(t *testing.T) {
	for _, l := range mayBe() {
		for _, n := range append(every(), nodes("a@v1.0.0", "b@v1.9.0", "b@v1.10.0", "e@v1.0.0-rc", "none@v1.0.0")...) {
			asksBy(t, l, n)
		}
	}
}

func TestByOfWhatMayNotBe(t *testing.T) {
	refused := func(l []api.Need, n api.Node) {
		t.Helper()
		if by, is, e := lack.By(l, n); len(by) != 0 || is || e != api.ErrArg {
			t.Errorf("By(%s, %.20q): %s, %v, %d", short(l), n, short(by), is, e)
		}
	}
	for _, w := range append(wrong(), root) {
		for _, l := range [][]api.Need{nil, some(), {{From: one("a@v1.0.0"), To: w}}, {{To: w}}, {{}}} {
			refused(l, w)
		}
	}
	for _, l := range mayNot() {
		for _, n := range append(three(), one("a@v1.0.0"), one("none@v1.0.0"), root, of("b", "")) {
			refused(l, n)
		}
	}
}

func TestExamples(t *testing.T) {
	live, needs := nodes("a@v1.0.0", "b@v1.0.0"), []api.Need{need("", "b@v1.0.0"), need("b@v1.0.0", "a@v1.0.0")}
	l, e := lack.Missing(live, nodes("b@v1.0.0"))
	if !slices.Equal(l, nodes("a@v1.0.0")) || e != api.OK {
		t.Errorf("a is reached, and has no manifest: %s, %d", short(l), e)
	}
	by, is, e := lack.By(needs, one("a@v1.0.0"))
	if !slices.Equal(by, nodes("b@v1.0.0")) || is || e != api.OK {
		t.Errorf("b needs a: %s, %v, %d", short(by), is, e)
	}
	if all, e := lack.Of(live, nodes("b@v1.0.0"), needs); len(all) != 1 || node.Text(all[0].N) != "a@v1.0.0" || !slices.Equal(all[0].By, by) || e != api.OK {
		t.Errorf("a is missing, and b needs it: %s, %d", short(all), e)
	}
	l, e = lack.Missing(live, live)
	all, no := lack.Of(live, live, needs)
	if len(l) != 0 || len(all) != 0 || e != api.OK || no != api.OK {
		t.Errorf("with a manifest of a: %s, %d, %s, %d", short(l), e, short(all), no)
	}
}
