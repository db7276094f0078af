package why_test

import (
	"fmt"
	"slices"
	"strconv"
	"strings"
	"testing"

	"graftwood/api"
	"graftwood/why"
)

// wrongPaths and wrongVersions are texts that are none, but for the empty one.
var (
	wrongPaths = []string{
		".", "/", ".a", "a.", "a/", "/a", "a//b", "a/.b", "a./b", "@", "a@v1.0.0", " a", "a ", "a b", "a\n", "a+", "é", "a\x00", "~\xff",
	}
	wrongVersions = []string{
		"v", "1.0.0", "v1", "v1.0", "v1.0.0.0", "v01.0.0", "v1.0.0-", "v1.0.0-01", "v1.0.0-a..b", "v1.0.0+a", "V1.0.0", "@v1.0.0",
		" v1.0.0", "v1.0.0 ", "v1.0.0\n", "v1.0.0\x00", "v1.0.0-\xff", "a", "latest",
	}
)

// The greatest texts here.
var (
	longPath    = strings.Repeat("a/", 20000) + "a"
	longVersion = "v" + strings.Repeat("9", 20000) + ".0.0-" + strings.Repeat("a.", 20000) + "a"
)

// root is whom the root's needs come from.
var root api.Node

// of is a node.
func of(path, version string) api.Node { return api.Node{Path: path, Version: version} }

// one is the node of a text: of a path alone it is its v1.0.0, and of nothing the root.
func one(text string) api.Node {
	p, v, is := strings.Cut(text, "@")
	if !is && p != "" {
		v = "v1.0.0"
	}
	return of(p, v)
}

// nodes are the nodes of a text's fields.
func nodes(text string) []api.Node {
	var l []api.Node
	for _, s := range strings.Fields(text) {
		l = append(l, one(s))
	}
	return l
}

// needs are the needs of a text's fields: a>b is that a needs b, and >a that the root needs a.
func needs(text string) []api.Need {
	var l []api.Need
	for _, s := range strings.Fields(text) {
		from, to, _ := strings.Cut(s, ">")
		l = append(l, api.Need{From: one(from), To: one(to)})
	}
	return l
}

// deeps are the depths of a text's fields: a=2 is that a is two needs away.
func deeps(text string) []api.Deep {
	var l []api.Deep
	for _, s := range strings.Fields(text) {
		n, d, _ := strings.Cut(s, "=")
		many, _ := strconv.Atoi(d)
		l = append(l, api.Deep{N: one(n), D: many})
	}
	return l
}

// instead is a list with something in the stead of what stands at a place.
func instead[T any](l []T, place int, x T) []T {
	out := slices.Clone(l)
	out[place] = x
	return out
}

// turned is a list from its end on.
func turned[T any](l []T) []T {
	out := slices.Clone(l)
	slices.Reverse(out)
	return out
}

// eachOrder hands on a list in each order.
func eachOrder[T any](l []T, next func([]T)) {
	if len(l) == 0 {
		next(nil)
	}
	for i, x := range l {
		eachOrder(slices.Delete(slices.Clone(l), i, i+1), func(rest []T) { next(append([]T{x}, rest...)) })
	}
}

// nothing is the list of none: as nil, as an empty one, and with room behind.
func nothing[T any]() [][]T { return [][]T{nil, {}, make([]T, 0, 3)} }

// wrong are nodes that may not be, the root among them: by the path, by the version, or by both.
func wrong() []api.Node {
	l := []api.Node{root, of("a", ""), of("", "v1.0.0"), of("v1.0.0", "a"), of("a@v1.0.0", ""), of("", "a"), of("", "v"), of("/", "")}
	for i, p := range wrongPaths {
		l = append(l, of(p, "v1.0.0"), of(p, wrongVersions[i]))
	}
	for _, v := range wrongVersions {
		l = append(l, of("a", v))
	}
	return l
}

// some are needs in no order, of all kinds: a line, a circle, a node by itself, ties, what is not reached, and some twice.
func some() []api.Need {
	return needs("b>d >c a>x c>b >a b>y x>y y>a >c y>z q>r a>a z>z a>x d>z r>q r>a y>w@v1.10.0 y>w@v1.9.0 d>w@v1.9.0 w@v1.9.0>v w@v1.10.0>v")
}

// mayNot are needs that may not be: one as the first, one in the middle, the last, and alone.
func mayNot() [][]api.Need {
	l := [][]api.Need{needs(">"), needs("a>"), needs(">a > >b"), needs(">a a@>b"), needs("@v1.0.0>b >a"), needs("> >")}
	for _, w := range wrong() {
		bad := []api.Need{{To: w}, {From: one("a"), To: w}, {From: w, To: w}}
		if w != root {
			bad = append(bad, api.Need{From: w, To: one("b")}, api.Need{From: w, To: one("none")})
		}
		for _, d := range bad {
			l = append(l, []api.Need{d})
			for _, place := range []int{0, len(some()) / 2, len(some()) - 1} {
				l = append(l, instead(some(), place, d))
			}
		}
	}
	return l
}

// short is a list as it is shown.
func short[T any](l []T) string {
	s := ""
	for _, x := range l[:min(len(l), 16)] {
		s += fmt.Sprintf(" %.12q", any(x))
	}
	return fmt.Sprintf("(%d:%s)", len(l), s)
}

// deep asks depths, and holds them against what they are to be.
func deep(t *testing.T, l []api.Need, want []api.Deep) {
	t.Helper()
	if d, e := why.Depths(l); !slices.Equal(d, want) || e != api.OK {
		t.Errorf("Depths(%s): %v, %d, not %v", short(l), d, e, want)
	}
}

// is asks whether a list is a chain, and holds it against what is to come, and that against the definition.
func is(t *testing.T, l []api.Need, c []api.Node, want bool, no api.Errno) {
	t.Helper()
	if x, e := why.Is(l, c); x != want || e != no {
		t.Errorf("Is(%s, %s): %v, %d, not %v, %d", short(l), short(c), x, e, want, no)
	}
	if x, e := isChain(l, c); x != want || e != no {
		t.Errorf("by the definition Is(%s, %s) is %v, %d, not %v, %d", short(l), short(c), x, e, want, no)
	}
}

// P19.1

func TestDepths(t *testing.T) {
	for _, x := range []struct{ l, want string }{
		// none, of the root alone, and none of the root's
		{"", ""}, {">a", "a=1"}, {">c >a >b", "a=1 b=1 c=1"},
		{"a>b", ""}, {"a>a", ""}, {"a>b b>c c>a", ""}, {"c>b a>b b>d", ""},
		// of a line, told in other orders, too
		{">a a>b", "a=1 b=2"}, {">a a>b b>c c>d d>e", "a=1 b=2 c=3 d=4 e=5"}, {"d>e c>d b>c a>b >a", "a=1 b=2 c=3 d=4 e=5"},
		{">e e>d d>c c>b b>a", "a=5 b=4 c=3 d=2 e=1"}, {">c a>e c>a e>b", "a=2 b=4 c=1 e=3"}, {"a>b >a c>d", "a=1 b=2"},
		// of a circle that the root leads to, at one, at two and by way of another node, and of one that it does not lead to
		{">a a>b b>c c>a", "a=1 b=2 c=3"}, {">b a>b b>c c>a", "a=3 b=1 c=2"}, {">a >c a>b b>c c>a", "a=1 b=2 c=1"},
		{">z z>b a>b b>c c>a", "a=4 b=2 c=3 z=1"}, {">a c>d d>c", "a=1"}, {">a b>c c>d d>b", "a=1"},
		// one that leads to what is reached is not reached by that
		{">a c>d d>c c>a", "a=1"}, {">a b>a c>b a>d", "a=1 d=2"}, {"x>a >b b>a", "a=2 b=1"},
		// of a node that needs itself
		{">a a>a", "a=1"}, {"a>a >a", "a=1"}, {">a a>b b>b", "a=1 b=2"}, {">a b>b", "a=1"},
		// of one to which a short chain and a long one lead
		{">a a>b b>c c>d a>d", "a=1 b=2 c=3 d=2"}, {">a a>b b>c c>d >d", "a=1 b=2 c=3 d=1"}, {">d >a a>b b>c c>d d>e", "a=1 b=2 c=3 d=1 e=2"},
		{"c>d >a b>c >x a>b y>d x>y d>e", "a=1 b=2 c=3 d=3 e=4 x=1 y=2"}, {">a a>b b>c >b a>c", "a=1 b=1 c=2"},
		// of needs twice
		{">a >a", "a=1"}, {">a a>b >a a>b b>a", "a=1 b=2"}, {"a>b a>b", ""},
		// in the order of nodes, which is not that of their texts
		{">a@v1.10.0 >a@v1.9.0", "a@v1.9.0=1 a@v1.10.0=1"}, {">a@v1.10.0 a@v1.10.0>a@v1.9.0", "a@v1.9.0=2 a@v1.10.0=1"},
		{">ab >a/b >a >a-b >a.b >A", "A=1 a=1 a-b=1 a.b=1 a/b=1 ab=1"}, {">a@v1.0.0 >a@v1.0.0-a >a@v1.0.0-10 >a@v1.0.0-2", "a@v1.0.0-2=1 a@v1.0.0-10=1 a@v1.0.0-a=1 a=1"},
		// versions of one path are nodes of their own
		{">a@v1.0.0 a@v1.1.0>b", "a=1"}, {">a@v1.0.0 a@v1.0.0>a@v1.1.0 a@v1.1.0>b", "a@v1.0.0=1 a@v1.1.0=2 b=3"},
	} {
		deep(t, needs(x.l), deeps(x.want))
		deep(t, turned(needs(x.l)), deeps(x.want))
		deep(t, append(needs(x.l), needs(x.l)...), deeps(x.want))
	}
	for _, l := range nothing[api.Need]() {
		deep(t, l, nil)
	}
	deep(t, []api.Need{{To: of(longPath, longVersion)}, {From: of(longPath, longVersion), To: of("a", longVersion)}},
		[]api.Deep{{N: of("a", longVersion), D: 2}, {N: of(longPath, longVersion), D: 1}})
	deep(t, some(), deeps("a=1 b=2 c=1 d=3 v=5 w@v1.9.0=4 w@v1.10.0=4 x=2 y=3 z=4"))
}

func TestDepthsInEachOrder(t *testing.T) {
	eachOrder(needs(">a a>b b>c >c c>b d>a >a"), func(l []api.Need) { deep(t, l, deeps("a=1 b=2 c=1")) })
	eachOrder(needs(">a a>b b>c c>d d>a a>d"), func(l []api.Need) { deep(t, l, deeps("a=1 b=2 c=3 d=2")) })
	eachOrder(needs("b>a c>b d>c e>d >e e>c"), func(l []api.Need) { deep(t, l, deeps("a=4 b=3 c=2 d=2 e=1")) })
}

func TestIs(t *testing.T) {
	const line = ">a a>b b>c c>d d>e"
	for _, x := range []struct {
		l, c string
		want bool
	}{
		// of one node, of two, and of many
		{">a", "a", true}, {line, "a", true}, {line, "a b", true}, {line, "a b c", true}, {line, "a b c d", true}, {line, "a b c d e", true},
		{"b>c >b a>b >a c>a", "b c a b", true}, {">a >b", "b", true},
		// whose first one the root does not need
		{line, "b", false}, {line, "e", false}, {line, "b c", false}, {line, "b c d e", false},
		{"a>b", "a", false}, {"a>b", "a b", false}, {"a>a", "a", false}, {"", "a", false}, {"", "a b", false},
		{line, "z", false}, {line, "z a b", false}, {line, "e d c b a", false},
		// whose first step is no need, a middle one, the last one
		{line + " >b", "a c d e", false}, {line, "a c", false}, {line, "a b d e", false},
		{line, "a b e d e", false}, {line, "a b c e", false}, {line, "a b c d z", false}, {line, "a z c d e", false},
		{line, "a b c d e a", false}, {line, "a a b c", false}, {line, "a b b c", false}, {line, "a b c d e e", false}, {">a >b", "a b", false}, {">a >b", "a a", false},
		// a step the other way is none
		{line + " >e", "e d", false}, {line, "a b a", false}, {line, "a b c b", false},
		// one that has a node twice is one all the same
		{">a a>a", "a a", true}, {">a a>a a>b", "a a a b", true}, {">a a>b b>a", "a b a", true},
		{">a a>b b>a b>c", "a b a b a b c", true}, {">a a>b b>c c>a", "a b c a b c a", true}, {">a >b b>a", "b a", true},
		{">a a>b b>a", "a b b a", false}, {">a a>b b>c c>a", "a b c a c", false},
		// it needs not be the shortest one
		{">a a>b b>c >c", "a b c", true}, {">a a>b b>c >c", "c", true}, {line + " b>e", "a b c d e", true}, {line + " b>e", "a b e", true},
		// of nodes with other versions
		{">a a>b", "a@v1.0.1", false}, {">a a>b", "a@v1.0.1 b", false}, {">a a>b", "a b@v1.0.0-a", false}, {">a a>b b>c", "a b@v1.1.0 c", false},
		{">a@v1.9.0 a@v1.9.0>a@v1.10.0", "a@v1.9.0 a@v1.10.0", true},
		{">a@v1.9.0 a@v1.9.0>a@v1.10.0", "a@v1.10.0 a@v1.9.0", false}, {">a@v1.9.0 a@v1.9.0>a@v1.10.0", "a@v1.10.0", false},
		{">a@v1.9.0 a@v1.10.0>b", "a@v1.9.0 b", false}, {">a@v1.9.0 a@v1.10.0>b", "a@v1.10.0 b", false},
		// of needs twice
		{">a >a a>b a>b", "a b", true}, {">a >a", "a a", false}, {">a a>b a>b", "a b b", false},
	} {
		for _, l := range [][]api.Need{needs(x.l), turned(needs(x.l)), append(needs(x.l), needs(x.l)...)} {
			is(t, l, nodes(x.c), x.want, api.OK)
		}
	}
	whole := nodes("a b c d e")
	is(t, needs(line), whole, true, api.OK)
	is(t, needs(line), whole[1:], false, api.OK)
	is(t, needs(line), whole[:4], true, api.OK)
	is(t, needs(line+" >b"), whole[1:], true, api.OK)
	long := []api.Node{of(longPath, longVersion), of("a", longVersion)}
	is(t, []api.Need{{From: long[0], To: long[1]}, {To: long[0]}}, long, true, api.OK)
}

func TestIsOfNone(t *testing.T) {
	for _, l := range append(nothing[api.Need](), needs(">a"), some(), needs("a>b"), needs(">")) {
		for _, c := range nothing[api.Node]() {
			is(t, l, c, false, api.ErrArg)
		}
	}
}

func TestIsOfEach(t *testing.T) {
	all := nodes("a b a@v1.1.0")
	for _, text := range []string{"", ">a", ">a >b a>b b>a@v1.1.0", ">a a>a a>b b>a", ">b b>a a>a@v1.1.0 a@v1.1.0>a@v1.1.0", "a>b b>a >a@v1.1.0 a@v1.1.0>b"} {
		lists := [][]api.Node{{}}
		for range 5 {
			for _, c := range lists {
				if len(c) > 0 {
					want, _ := isChain(needs(text), c)
					is(t, needs(text), c, want, api.OK)
				}
			}
			var longer [][]api.Node
			for _, c := range lists {
				for _, n := range all {
					longer = append(longer, append(slices.Clone(c), n))
				}
			}
			lists = longer
		}
	}
}

// What may not be, of P19.1 and P19.2.

// refused asks all three, of which none may answer a thing.
func refused(t *testing.T, l []api.Need, n api.Node, c []api.Node) {
	t.Helper()
	if got, e := why.Chain(l, n); len(got) > 0 || e != api.ErrArg {
		t.Errorf("Chain(%s, %.12q): %s, %d", short(l), n, short(got), e)
	}
	is(t, l, c, false, api.ErrArg)
	if got, e := why.Depths(l); !may(l) && (len(got) > 0 || e != api.ErrArg) {
		t.Errorf("Depths(%s): %v, %d", short(l), got, e)
	}
}

func TestNeedsThatMayNotBe(t *testing.T) {
	for i, l := range mayNot() {
		if may(l) {
			t.Errorf("needs that may be: %s", short(l))
		}
		w := wrong()[i%len(wrong())]
		// of nodes that are reached, that are not, and that may not be either
		refused(t, l, one("a"), nodes("a"))
		refused(t, l, one("v"), nodes("a x y z"))
		refused(t, l, one("q"), nodes("q r"))
		refused(t, l, one("none"), nodes("none"))
		refused(t, l, w, []api.Node{w})
		refused(t, l, root, nil)
	}
}

func TestNodesThatMayNotBe(t *testing.T) {
	lists := append(nothing[api.Need](), some(), needs(">a"), needs("a>b"))
	for _, w := range wrong() {
		for _, l := range lists {
			refused(t, l, w, []api.Node{w})
			// as the first one, in the middle, and the last one; of a list that is a chain but for it, and of one that is none
			for _, c := range [][]api.Node{nodes("a x y z"), nodes("c b y w@v1.9.0 v"), nodes("x b a q"), nodes("none a b")} {
				for _, place := range []int{0, len(c) / 2, len(c) - 1} {
					refused(t, l, w, instead(c, place, w))
				}
				refused(t, l, w, append([]api.Node{w}, c...))
				refused(t, l, w, append(slices.Clone(c), w))
				refused(t, l, w, []api.Node{w, c[0], w})
			}
		}
		for _, l := range mayNot()[:12] {
			refused(t, l, w, []api.Node{one("a"), w})
		}
	}
}
