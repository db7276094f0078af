package room_test

import (
	"fmt"
	"math"
	"math/rand"
	"slices"
	"strings"
	"sync"
	"testing"

	"graftwood/api"
	"graftwood/node"
	"graftwood/room"
)

// of is a node.
func of(path, version string) api.Node { return api.Node{Path: path, Version: version} }

// rising are nodes in order: of one path by many versions, of one version by many paths, and not in the order of their octets.
var rising = []api.Node{
	of("A", "v1.0.0"), of("a", "v0.9.0"), of("a", "v1.0.0-2"), of("a", "v1.0.0-10"), of("a", "v1.0.0-a"), of("a", "v1.0.0"),
	of("a", "v1.9.0"), of("a", "v1.10.0"), of("a-b", "v1.0.0"), of("a.b", "v1.0.0"), of("a/b", "v1.0.0"), of("a/b", "v1.10.0"),
	of("ab", "v0.0.0"), of("b", "v1.0.0"), of("b", "v10000000000000000000000.0.0"), of("golang.org/x/mod", "v0.21.0"),
}

// Some of them, in order.
var (
	a  = rising[5]
	a9 = rising[6]
	a0 = rising[7]
	b  = rising[13]
	c  = of("c", "v1.0.0")
	d  = of("d", "v1.0.0")
)

// wrong are nodes that may not be.
var wrong = []api.Node{
	{}, of("a", ""), of("", "v1.0.0"), of("a", "1.0.0"), of("a", "v1.0"), of("a", "v01.0.0"), of("a", "v1.0.0-"), of("a", "v1.0.0-01"), of("a", "v1.0.0+b"),
	of("a", "v1.0.0 "), of("a", "V1.0.0"), of("a/", "v1.0.0"), of("/a", "v1.0.0"), of("a//b", "v1.0.0"), of("a.", "v1.0.0"),
	of(".a", "v1.0.0"), of("a b", "v1.0.0"), of("a@", "v1.0.0"), of("a@v1.0.0", ""), of("v1.0.0", "a"),
	of("\x00", "v1.0.0"), of("~\xff", "v1.0.0"), of("é", "v1.0.0"), of("a", "v1.0.0\n"),
}

// counts are ones that may be, of manifests and of edges; far are ones that may not.
var (
	counts = []int{0, 1, 2, 7, math.MaxInt32, 1 << 32, top - 1, top}
	far    = []int{-1, -2, math.MinInt32, -top, -top - 1, math.MinInt + 1, math.MinInt, top + 1, top + 2, 1 << 41, math.MaxInt - 1, math.MaxInt}
)

// list are nodes.
func list(l ...api.Node) []api.Node { return l }

// in tells how often a node is spoken of.
func in(n api.Node, by int) api.Edit { return api.Edit{N: n, By: by} }

// use is what there is.
func use(manifests, edges int, said ...api.Edit) api.Use {
	return api.Use{Manifests: manifests, Edges: edges, Said: said}
}

// each are nodes that are spoken of so often.
func each(by int, l ...api.Node) []api.Edit {
	var out []api.Edit
	for _, n := range l {
		out = append(out, in(n, by))
	}
	return out
}

// mixed are nodes that are spoken of, each another number of times.
func mixed(l ...api.Node) []api.Edit {
	all := []int{1, 2, 3, 40, top - 1, top, 7}
	var out []api.Edit
	for i, n := range l {
		out = append(out, in(n, all[i%len(all)]))
	}
	return out
}

// with is a list with something in it at a place.
func with[T any](l []T, at int, v T) []T { return slices.Insert(slices.Clone(l), at, v) }

// nothing are uses where there is nothing, as a nil list, as an empty one, and with room behind.
func nothing() []api.Use {
	return []api.Use{{}, {Said: []api.Edit{}}, {Said: make([]api.Edit, 0, 3)}}
}

// mayBe are uses that may be.
func mayBe() []api.Use {
	l := nothing()
	for _, manifests := range counts {
		for _, edges := range counts {
			l = append(l, use(manifests, edges), use(manifests, edges, in(a, 1)), use(manifests, edges, mixed(rising...)...))
		}
	}
	for _, by := range []int{1, 2, 7, math.MaxInt32, top - 1, top} {
		// of one path, by one version and by several, and of several paths
		for _, nodes := range [][]api.Node{{a}, {b}, {a, b}, {a9, a0}, rising[1:8], {a, b, c}, rising} {
			l = append(l, use(3, 9, each(by, nodes...)...))
		}
	}
	return append(l, use(2, 5, mixed(rising[4:]...)...), use(2, 5, mixed(rising[1:8]...)...), use(2, 5, mixed(a0, b, d)...))
}

// saidNot are lists of what is spoken of that may not be.
func saidNot() [][]api.Edit {
	var l [][]api.Edit
	for _, nodes := range [][]api.Node{
		// out of order by path, and by version, as octets would have it, first, in the midst and last
		{b, a}, {a0, a9}, {rising[3], rising[2]}, {rising[5], rising[4]}, {rising[8], rising[7]}, {a, rising[0]}, {rising[10], rising[9]},
		{b, a, c}, {a, c, b}, {c, b, a}, {a, b, d, c}, {a, c, b, d}, {b, a, c, d}, {b, c, d, a}, with(rising, len(rising), rising[14]),
		// a node twice, side by side and not
		{a, a}, {a, a, b}, {a, b, b}, {a, b, a}, {a, b, b, c}, {a, b, c, a}, {c, c, c}, with(rising, len(rising), rising[15]), with(rising, len(rising), rising[0]),
	} {
		l = append(l, each(1, nodes...), each(top, nodes...), mixed(nodes...))
	}
	three := each(2, a, b, c)
	for _, n := range wrong {
		l = append(l, each(1, n), each(top, n, n), each(0, n))
		for at := range 4 {
			l = append(l, with(three, at, in(n, 1)))
		}
	}
	for _, by := range append([]int{0}, far...) {
		l = append(l, each(by, a), each(by, a, b), each(by, rising...))
		for i := range three {
			x := slices.Clone(three)
			x[i].By = by
			l = append(l, x)
		}
	}
	return append(l, []api.Edit{{}}, []api.Edit{in(a, 1), in(a, -1)})
}

// mayNot are uses that may not be.
func mayNot() []api.Use {
	var l []api.Use
	for _, many := range far {
		for _, said := range [][]api.Edit{nil, each(1, a), each(2, a, b, c)} {
			l = append(l, use(many, 0, said...), use(0, many, said...), use(many, 9, said...), use(9, many, said...), use(many, many, said...))
		}
	}
	for _, said := range saidNot() {
		l = append(l, use(3, 9, said...))
	}
	return append(l, use(-1, top+1, in(b, 0), in(a, -1)), use(0, 0, in(a, 0)), use(top, top, in(wrong[3], 1)), use(top+1, top, in(a, top+1)))
}

// manifest is a node, and what its manifest requires.
type manifest struct {
	key  api.Node
	list []api.Node
}

// String is a manifest as it is shown.
func (m manifest) String() string {
	return fmt.Sprintf("%.30q with %s", node.Text(m.key), nodes(m.list))
}

// needs is a manifest.
func needs(key api.Node, l ...api.Node) manifest { return manifest{key, l} }

// manifests are some: of no requirement, one, two and more; of one twice, of its own node, of nodes that others speak of, too.
func manifests() []manifest {
	return []manifest{
		needs(a), needs(b), needs(a, b), needs(b, a), needs(a, a), needs(a, a, a), needs(a, b, b), needs(a, b, a), needs(a, b, c), needs(a, c, b), needs(c, b, a, b),
		needs(a0, a9), needs(a9, a0), needs(a9, a9, a0, a), needs(d, d, c, d, b, d, a), needs(rising[0], rising...), needs(b, slices.Concat(rising, rising)...),
		needs(rising[14], rising[8], rising[9], rising[10], rising[8]), {b, []api.Node{}}, {b, make([]api.Node, 0, 3)},
	}
}

// split are manifests as two lists.
func split(l []manifest) ([]api.Node, [][]api.Node) {
	var keys []api.Node
	var lists [][]api.Node
	for _, m := range l {
		keys, lists = append(keys, m.key), append(lists, m.list)
	}
	return keys, lists
}

// nodes are a list as it is shown.
func nodes(l []api.Node) string {
	var out []string
	for _, n := range l[:min(len(l), 20)] {
		out = append(out, fmt.Sprintf("%.30q", node.Text(n)))
	}
	return fmt.Sprintf("%d nodes [%s]", len(l), strings.Join(out, " "))
}

// short is use as it is shown.
func short(u api.Use) string {
	var out []string
	for _, e := range u.Said[:min(len(u.Said), 20)] {
		out = append(out, fmt.Sprintf("%.30q %d", node.Text(e.N), e.By))
	}
	return fmt.Sprintf("%d manifests, %d edges, %d said [%s]", u.Manifests, u.Edges, len(u.Said), strings.Join(out, ", "))
}

// holds holds what a call answers against what it is to: without an error use that may be.
func holds(t *testing.T, what string, got, want api.Use, e, no api.Errno) {
	t.Helper()
	if !alike(got, want) || e != no || e == api.OK && room.Check(got) != api.OK {
		t.Errorf("%s: %s, %d, not %s, %d", what, short(got), e, short(want), no)
	}
}

// ofs asks the use of manifests, and holds it against the definition.
func ofs(t *testing.T, l []manifest, root []api.Node) api.Use {
	t.Helper()
	keys, lists := split(l)
	u, e := room.Of(keys, lists, root)
	want, no := allOf(keys, lists, root)
	holds(t, fmt.Sprintf("Of %.300v and %s", l, nodes(root)), u, want, e, no)
	return u
}

// takes takes a manifest, and holds what comes against the definition.
func takes(t *testing.T, u api.Use, m manifest) (api.Use, api.Errno) {
	t.Helper()
	x, e := room.Take(u, m.key, m.list)
	want, no := taken(u, m.key, m.list)
	holds(t, "Take of "+m.String()+" from "+short(u), x, want, e, no)
	return x, e
}

// gives gives a manifest back, and holds what comes against the definition.
func gives(t *testing.T, u api.Use, m manifest) (api.Use, api.Errno) {
	t.Helper()
	x, e := room.Give(u, m.key, m.list)
	want, no := given(u, m.key, m.list)
	holds(t, "Give of "+m.String()+" from "+short(u), x, want, e, no)
	return x, e
}

// roots takes a root requirement, or gives it back, and holds what comes against the definition.
func roots(t *testing.T, u api.Use, n api.Node, on bool) (api.Use, api.Errno) {
	t.Helper()
	x, e := room.Root(u, n, on)
	want, no := rooted(u, n, on)
	holds(t, fmt.Sprintf("Root of %.30q %v from %s", node.Text(n), on, short(u)), x, want, e, no)
	return x, e
}

// orders tries each order of what stands from a place on.
func orders[T any](l []T, from int, try func()) {
	if from == len(l) {
		try()
		return
	}
	for i := from; i < len(l); i++ {
		l[from], l[i] = l[i], l[from]
		orders(l, from+1, try)
		l[from], l[i] = l[i], l[from]
	}
}

// P14.1

func TestCheck(t *testing.T) {
	for _, u := range mayBe() {
		if e := room.Check(u); e != api.OK || !may(u) {
			t.Errorf("Check of what may be, %s: %d", short(u), e)
		}
	}
	for _, u := range mayNot() {
		if e := room.Check(u); e != api.ErrArg || may(u) {
			t.Errorf("Check of what may not be, %s: %d", short(u), e)
		}
	}
}

func TestCheckOfEachShortList(t *testing.T) {
	few := []api.Edit{in(a, 1), in(a9, top), in(a0, 3), in(b, 2), in(a, -1), in(b, 0), in(a0, top+1), in(c, -top), in(of("a", "v1.0"), 1), in(of("", "v1.0.0"), 1)}
	var grow func(l []api.Edit)
	grow = func(l []api.Edit) {
		for _, many := range [][2]int{{0, 0}, {1, 7}, {top, top}, {top + 1, 0}, {0, -1}} {
			u := use(many[0], many[1], l...)
			want := api.OK
			if !may(u) {
				want = api.ErrArg
			}
			if e := room.Check(u); e != want {
				t.Errorf("Check of %s: %d, not %d", short(u), e, want)
			}
		}
		for _, e := range few {
			if len(l) < 3 {
				grow(append(slices.Clone(l), e))
			}
		}
	}
	grow(nil)
}

func TestOf(t *testing.T) {
	for _, x := range []struct {
		l    []manifest
		root []api.Node
		want api.Use
	}{
		// of none
		{nil, nil, use(0, 0)}, {[]manifest{}, list(), use(0, 0)},
		// of one manifest: with no requirement, one, two and more, one twice, its own node
		{[]manifest{needs(a)}, nil, use(1, 0, in(a, 1))}, {[]manifest{needs(a, b)}, nil, use(1, 1, in(a, 1), in(b, 1))},
		{[]manifest{needs(b, a)}, nil, use(1, 1, in(a, 1), in(b, 1))}, {[]manifest{needs(b, c, a)}, nil, use(1, 2, in(a, 1), in(b, 1), in(c, 1))},
		{[]manifest{needs(a, b, b)}, nil, use(1, 2, in(a, 1), in(b, 2))}, {[]manifest{needs(a, a)}, nil, use(1, 1, in(a, 2))},
		{[]manifest{needs(a, a, b, a, b)}, nil, use(1, 4, in(a, 3), in(b, 2))}, {[]manifest{needs(a0, a9, a)}, nil, use(1, 2, in(a, 1), in(a9, 1), in(a0, 1))},
		{[]manifest{needs(c, slices.Concat(rising[9:], rising[:9])...)}, nil, use(1, 16, append(each(1, rising[:15]...), in(c, 1), in(rising[15], 1))...)},
		// of two: with no node in common, with some, of one another, in either order
		{[]manifest{needs(a), needs(b)}, nil, use(2, 0, in(a, 1), in(b, 1))}, {[]manifest{needs(b), needs(a)}, nil, use(2, 0, in(a, 1), in(b, 1))},
		{[]manifest{needs(b, d), needs(a, c)}, nil, use(2, 2, in(a, 1), in(b, 1), in(c, 1), in(d, 1))},
		{[]manifest{needs(a, c), needs(b, c)}, nil, use(2, 2, in(a, 1), in(b, 1), in(c, 2))}, {[]manifest{needs(a, b), needs(b, a)}, nil, use(2, 2, in(a, 2), in(b, 2))},
		{[]manifest{needs(a, b, c, b), needs(b, b)}, nil, use(2, 4, in(a, 1), in(b, 4), in(c, 1))}, {[]manifest{needs(a0), needs(a9)}, nil, use(2, 0, in(a9, 1), in(a0, 1))},
		// of more
		{[]manifest{needs(c), needs(a), needs(b, c)}, nil, use(3, 1, in(a, 1), in(b, 1), in(c, 2))},
		{[]manifest{needs(a, d), needs(b, d, d), needs(c, d, a), needs(d)}, nil, use(4, 5, in(a, 2), in(b, 1), in(c, 1), in(d, 5))},
		// of root requirements: one, the same one twice, several, of a node that has a manifest, and of one that others require
		{nil, list(a), use(0, 1, in(a, 1))}, {nil, list(a, a), use(0, 2, in(a, 2))}, {nil, list(c, a, b), use(0, 3, in(a, 1), in(b, 1), in(c, 1))},
		{[]manifest{needs(a)}, list(a), use(1, 1, in(a, 2))}, {[]manifest{needs(a)}, list(b), use(1, 1, in(a, 1), in(b, 1))}, {[]manifest{needs(a, b)}, list(b), use(1, 2, in(a, 1), in(b, 2))},
		{[]manifest{needs(a, b), needs(b, c)}, list(a, c, a, d), use(2, 6, in(a, 3), in(b, 2), in(c, 2), in(d, 1))}, {nil, slices.Concat(rising, rising), use(0, 32, each(2, rising...)...)},
	} {
		keys, lists := split(x.l)
		u, e := room.Of(keys, lists, x.root)
		holds(t, fmt.Sprintf("Of %v and %s", x.l, nodes(x.root)), u, x.want, e, api.OK)
	}
}

func TestOfEach(t *testing.T) {
	roots := [][]api.Node{nil, {}, {a}, {a, a}, {d, b, a}, rising}
	for _, m := range manifests() {
		for _, root := range roots {
			ofs(t, []manifest{m}, root)
			for _, o := range manifests() {
				ofs(t, []manifest{m, o}, root)
			}
		}
	}
	for _, root := range roots {
		ofs(t, manifests(), root)
	}
}

func TestOfInEachOrder(t *testing.T) {
	l, root := []manifest{needs(a, b, c, b), needs(b, a9), needs(a9), needs(a0, a0, a)}, list(b, a0, b)
	want := use(4, 9, in(a, 2), in(a9, 2), in(a0, 3), in(b, 5), in(c, 1))
	orders(l, 0, func() {
		if u := ofs(t, l, root); !alike(u, want) {
			t.Errorf("Of %v: %s", l, short(u))
		}
	})
	orders(l[0].list, 0, func() {
		orders(root, 0, func() {
			if u := ofs(t, l, root); !alike(u, want) {
				t.Errorf("Of %v and %s: %s", l, nodes(root), short(u))
			}
		})
	})
}

func TestOfAsManyLists(t *testing.T) {
	for keys := range 5 {
		for lists := range 5 {
			for _, root := range [][]api.Node{nil, {a}, {wrong[0]}} {
				k, l := slices.Repeat(list(a), keys), slices.Repeat([][]api.Node{{b}}, lists)
				u, e := room.Of(k, l, root)
				want, no := allOf(k, l, root)
				if keys != lists && no != api.ErrArg {
					t.Errorf("the definition of %d keys, %d lists: %d", keys, lists, no)
				}
				holds(t, fmt.Sprint("Of ", keys, " keys, ", lists, " lists and ", nodes(root)), u, want, e, no)
			}
		}
	}
	for _, x := range []struct {
		keys  []api.Node
		lists [][]api.Node
	}{
		{list(a), nil}, {nil, [][]api.Node{nil}}, {nil, [][]api.Node{{}}}, {list(a, b), [][]api.Node{nil}}, {list(a), [][]api.Node{nil, nil}}, {rising, [][]api.Node{rising}},
		{list(), [][]api.Node{{}, {}, {}}}, {list(wrong[1]), nil}, {nil, [][]api.Node{{wrong[1]}}},
	} {
		u, e := room.Of(x.keys, x.lists, list(b))
		holds(t, fmt.Sprint("Of ", nodes(x.keys), " and ", len(x.lists), " lists"), u, api.Use{}, e, api.ErrArg)
	}
}

func TestOfWrongNodes(t *testing.T) {
	keys, lists, root := list(c, a, b), [][]api.Node{{a, b, d}, {c, c, c}, {b, a, d}}, list(d, a, b)
	refused := func(what string, keys []api.Node, lists [][]api.Node, root []api.Node) {
		t.Helper()
		u, e := room.Of(keys, lists, root)
		holds(t, "Of a wrong one among "+what, u, api.Use{}, e, api.ErrArg)
	}
	for _, n := range wrong {
		refused("one key", list(n), [][]api.Node{nil}, nil)
		refused("one requirement", list(a), [][]api.Node{{n}}, nil)
		refused("one root requirement", nil, nil, list(n))
		for i := range 3 {
			bad := slices.Clone(keys)
			bad[i] = n
			refused("keys", bad, lists, root)
			for at := range 4 {
				more := slices.Clone(lists)
				more[i] = with(lists[i], at, n)
				refused("requirements", keys, more, root)
				refused("root requirements", keys, lists, with(root, at, n))
				refused("all of them", bad, more, with(root, at, n))
			}
		}
	}
}

// sames asks whether two are the same, either way.
func sames(t *testing.T, x, y api.Use, want bool) {
	t.Helper()
	if room.Same(x, y) != want || room.Same(y, x) != want || alike(x, y) != want {
		t.Errorf("Same of %s and %s, and the other way: %v, %v, not %v", short(x), short(y), room.Same(x, y), room.Same(y, x), want)
	}
}

func TestSame(t *testing.T) {
	for _, u := range append(mayBe(), mayNot()...) {
		again := u
		again.Said = slices.Clone(u.Said)
		sames(t, u, u, true)
		sames(t, u, again, true)
	}
	for _, x := range nothing() {
		for _, y := range nothing() {
			sames(t, x, y, true)
			sames(t, x, use(0, 0, in(a, 1)), false)
			sames(t, x, use(0, 0, api.Edit{}), false)
		}
	}
	all := mayBe()
	for i, x := range all {
		for j, y := range all {
			if i%5 == j%5 {
				sames(t, x, y, alike(x, y))
			}
		}
	}
}

func TestSameOfOnePart(t *testing.T) {
	u := use(2, 5, in(a, 1), in(b, 2), in(c, 3))
	for _, many := range []int{0, 1, 3, -2, 4, math.MaxInt, math.MinInt} {
		sames(t, u, use(many, 5, u.Said...), false)
	}
	for _, many := range []int{0, 2, 4, 6, -5, math.MaxInt, math.MinInt} {
		sames(t, u, use(2, many, u.Said...), false)
	}
	// Both counts the other way about, and both others.
	sames(t, u, use(5, 2, u.Said...), false)
	sames(t, u, use(3, 4, u.Said...), false)
	for i := range u.Said {
		said := slices.Clone(u.Said)
		for _, e := range []api.Edit{
			in(said[i].N, said[i].By+1), in(said[i].N, -said[i].By), in(said[i].N, 0), in(said[i].N, top), in(d, said[i].By),
			in(of(said[i].N.Path, "v1.0.1"), said[i].By), in(of(said[i].N.Path+"a", said[i].N.Version), said[i].By), in(api.Node{}, said[i].By),
		} {
			said[i] = e
			sames(t, u, use(2, 5, said...), false)
		}
		sames(t, u, use(2, 5, slices.Delete(slices.Clone(u.Said), i, i+1)...), false)
		sames(t, u, use(2, 5, u.Said[:i]...), false)
		sames(t, u, use(2, 5, u.Said[i+1:]...), false)
	}
	for at := range 4 {
		sames(t, u, use(2, 5, with(u.Said, at, in(a9, 1))...), false)
	}
	// In another order.
	sames(t, u, use(2, 5, in(b, 2), in(a, 1), in(c, 3)), false)
	sames(t, u, use(2, 5, in(a, 1), in(c, 3), in(b, 2)), false)
}

// P14.2

func TestTake(t *testing.T) {
	two := use(2, 3, in(a, 2), in(b, 1), in(c, 2))
	for _, x := range []struct {
		u    api.Use
		m    manifest
		want api.Use
	}{
		// from nothing: with no requirement, one, two and more, one twice, its own node
		{api.Use{}, needs(a), use(1, 0, in(a, 1))}, {use(0, 0, []api.Edit{}...), needs(a), use(1, 0, in(a, 1))}, {api.Use{}, needs(b, a), use(1, 1, in(a, 1), in(b, 1))},
		{api.Use{}, needs(b, c, a), use(1, 2, in(a, 1), in(b, 1), in(c, 1))}, {api.Use{}, needs(a, b, b), use(1, 2, in(a, 1), in(b, 2))},
		{api.Use{}, needs(a, a), use(1, 1, in(a, 2))}, {api.Use{}, needs(a, b, a, b, a), use(1, 4, in(a, 3), in(b, 2))}, {api.Use{}, needs(a0, a9), use(1, 1, in(a9, 1), in(a0, 1))},
		{api.Use{}, needs(rising[3], rising...), use(1, 16, append(append(each(1, rising[:3]...), in(rising[3], 2)), each(1, rising[4:]...)...)...)},
		// of nodes that are spoken of, and that are not: ahead, between, behind
		{two, needs(a), use(3, 3, in(a, 3), in(b, 1), in(c, 2))}, {two, needs(c), use(3, 3, in(a, 2), in(b, 1), in(c, 3))},
		{two, needs(rising[0]), use(3, 3, in(rising[0], 1), in(a, 2), in(b, 1), in(c, 2))}, {two, needs(a0), use(3, 3, in(a, 2), in(a0, 1), in(b, 1), in(c, 2))},
		{two, needs(d), use(3, 3, in(a, 2), in(b, 1), in(c, 2), in(d, 1))}, {two, needs(d, a, d, a9), use(3, 6, in(a, 3), in(a9, 1), in(b, 1), in(c, 2), in(d, 2))},
		{two, needs(b, a, c), use(3, 5, in(a, 3), in(b, 2), in(c, 3))}, {two, needs(c, c, c), use(3, 5, in(a, 2), in(b, 1), in(c, 5))},
		// where counts say more than what is spoken of
		{use(7, 40), needs(a, b), use(8, 41, in(a, 1), in(b, 1))}, {use(0, 0, in(a, 9)), needs(a), use(1, 0, in(a, 10))},
	} {
		u, e := room.Take(x.u, x.m.key, x.m.list)
		holds(t, fmt.Sprint("Take of ", x.m, " from ", short(x.u)), u, x.want, e, api.OK)
	}
}

func TestGive(t *testing.T) {
	two := use(2, 3, in(a, 2), in(b, 1), in(c, 2))
	for _, x := range []struct {
		u    api.Use
		m    manifest
		want api.Use
		e    api.Errno
	}{
		// of what is there just as often: it is gone
		{use(1, 0, in(a, 1)), needs(a), use(0, 0), api.OK}, {use(1, 1, in(a, 1), in(b, 1)), needs(b, a), use(0, 0), api.OK}, {use(1, 2, in(a, 3)), needs(a, a, a), use(0, 0), api.OK},
		{use(1, 2, in(a, 1), in(b, 2)), needs(a, b, b), use(0, 0), api.OK}, {use(1, 16, each(1, rising...)...), needs(rising[0], rising[1:]...), use(0, 1), api.OK},
		{two, needs(b), use(1, 3, in(a, 2), in(c, 2)), api.OK}, {two, needs(a, a), use(1, 2, in(b, 1), in(c, 2)), api.OK}, {two, needs(c, c), use(1, 2, in(a, 2), in(b, 1)), api.OK},
		{two, needs(b, a, c, a), use(1, 0, in(c, 1)), api.OK},
		// of what is there more often
		{two, needs(a), use(1, 3, in(a, 1), in(b, 1), in(c, 2)), api.OK}, {two, needs(c, a), use(1, 2, in(a, 1), in(b, 1), in(c, 1)), api.OK},
		{use(2, 9, in(a, 9)), needs(a, a, a), use(1, 7, in(a, 6)), api.OK}, {use(top, top, in(a, top)), needs(a, a), use(top-1, top-1, in(a, top-2)), api.OK},
		// of none: nothing at all, no manifest, fewer edges, a node that is not spoken of, or less often
		{api.Use{}, needs(a), api.Use{}, api.ErrNone}, {api.Use{}, needs(a, b), api.Use{}, api.ErrNone}, {use(0, 1, in(a, 1)), needs(a), use(0, 1, in(a, 1)), api.ErrNone},
		{use(0, 9, in(a, 9), in(b, 9)), needs(a, b), use(0, 9, in(a, 9), in(b, 9)), api.ErrNone}, {use(1, 0, in(a, 2)), needs(a, a), use(1, 0, in(a, 2)), api.ErrNone},
		{use(1, 1, in(a, 9), in(b, 9)), needs(a, b, b), use(1, 1, in(a, 9), in(b, 9)), api.ErrNone}, {use(1, 0), needs(a), use(1, 0), api.ErrNone}, {use(9, 9, in(b, 9)), needs(a), use(9, 9, in(b, 9)), api.ErrNone},
		{two, needs(d), two, api.ErrNone}, {two, needs(rising[0]), two, api.ErrNone}, {two, needs(a9), two, api.ErrNone}, {two, needs(a, d), two, api.ErrNone}, {two, needs(a, c, a9, c), two, api.ErrNone},
		{two, needs(b, b), two, api.ErrNone}, {two, needs(a, a, a), two, api.ErrNone}, {two, needs(c, b, b), two, api.ErrNone}, {two, needs(a, a, b, c, c), two, api.ErrNone}, {two, needs(b, c, c, c), two, api.ErrNone},
		{use(top, top, in(a, 1)), needs(a, a), use(top, top, in(a, 1)), api.ErrNone}, {use(top, top), needs(a), use(top, top), api.ErrNone},
	} {
		u, e := room.Give(x.u, x.m.key, x.m.list)
		holds(t, fmt.Sprint("Give of ", x.m, " from ", short(x.u)), u, x.want, e, x.e)
	}
}

func TestRoot(t *testing.T) {
	two := use(2, 3, in(a, 2), in(b, 1), in(c, 2))
	for _, x := range []struct {
		u    api.Use
		n    api.Node
		on   bool
		want api.Use
		e    api.Errno
	}{
		// one more: of none, of nodes that are spoken of, and that are not
		{api.Use{}, a, true, use(0, 1, in(a, 1)), api.OK}, {use(0, 0, []api.Edit{}...), b, true, use(0, 1, in(b, 1)), api.OK}, {use(0, 1, in(a, 1)), a, true, use(0, 2, in(a, 2)), api.OK},
		{two, a, true, use(2, 4, in(a, 3), in(b, 1), in(c, 2)), api.OK}, {two, b, true, use(2, 4, in(a, 2), in(b, 2), in(c, 2)), api.OK}, {two, c, true, use(2, 4, in(a, 2), in(b, 1), in(c, 3)), api.OK},
		{two, rising[0], true, use(2, 4, in(rising[0], 1), in(a, 2), in(b, 1), in(c, 2)), api.OK}, {two, a0, true, use(2, 4, in(a, 2), in(a0, 1), in(b, 1), in(c, 2)), api.OK},
		{two, d, true, use(2, 4, in(a, 2), in(b, 1), in(c, 2), in(d, 1)), api.OK}, {use(top, 0), a, true, use(top, 1, in(a, 1)), api.OK},
		// one less: of what is there once, and more often
		{use(0, 1, in(a, 1)), a, false, use(0, 0), api.OK}, {use(0, 2, in(a, 2)), a, false, use(0, 1, in(a, 1)), api.OK}, {two, a, false, use(2, 2, in(a, 1), in(b, 1), in(c, 2)), api.OK},
		{two, b, false, use(2, 2, in(a, 2), in(c, 2)), api.OK}, {two, c, false, use(2, 2, in(a, 2), in(b, 1), in(c, 1)), api.OK}, {use(0, top, in(a, top)), a, false, use(0, top-1, in(a, top-1)), api.OK},
		// of none: nothing at all, no edge, a node that is not spoken of
		{api.Use{}, a, false, api.Use{}, api.ErrNone}, {use(1, 0, in(a, 1)), a, false, use(1, 0, in(a, 1)), api.ErrNone}, {use(0, 1), a, false, use(0, 1), api.ErrNone},
		{two, d, false, two, api.ErrNone}, {two, rising[0], false, two, api.ErrNone}, {two, a9, false, two, api.ErrNone}, {use(top, top), a, false, use(top, top), api.ErrNone},
	} {
		u, e := room.Root(x.u, x.n, x.on)
		holds(t, fmt.Sprint("Root of ", node.Text(x.n), " ", x.on, " from ", short(x.u)), u, x.want, e, x.e)
	}
}

func TestEach(t *testing.T) {
	for _, u := range mayBe() {
		for _, m := range manifests() {
			takes(t, u, m)
			gives(t, u, m)
		}
		for _, n := range append(slices.Clone(rising), c, d) {
			roots(t, u, n, true)
			roots(t, u, n, false)
		}
	}
}

func TestCountsAtTheEnds(t *testing.T) {
	for _, x := range []struct {
		manifests, edges int
		l                []api.Node
		take, root       api.Errno
	}{
		{0, 0, nil, api.OK, api.OK}, {0, 0, list(b), api.OK, api.OK}, {1, 1, list(b, b), api.OK, api.OK},
		// manifests
		{top - 1, 0, nil, api.OK, api.OK}, {top, 0, nil, api.ErrLarge, api.OK}, {top, 1, list(b), api.ErrLarge, api.OK},
		// edges
		{0, top - 1, nil, api.OK, api.OK}, {0, top, nil, api.OK, api.ErrLarge}, {0, top - 1, list(b), api.OK, api.OK}, {0, top, list(b), api.ErrLarge, api.ErrLarge},
		{1, top - 1, list(b, c), api.ErrLarge, api.OK}, {1, top - 2, list(b, c), api.OK, api.OK}, {1, top - 2, list(b, b, b), api.ErrLarge, api.OK},
		// both
		{top - 1, top - 1, list(b), api.OK, api.OK}, {top, top, nil, api.ErrLarge, api.ErrLarge}, {top, top - 1, list(b), api.ErrLarge, api.OK}, {top - 1, top, list(b), api.ErrLarge, api.ErrLarge},
	} {
		for _, said := range [][]api.Edit{nil, each(1, a), each(5, a, b, c), each(2, rising...)} {
			u := use(x.manifests, x.edges, said...)
			if y, e := takes(t, u, needs(a, x.l...)); e != x.take || e != api.OK && !alike(y, u) {
				t.Errorf("Take of %s from %s: %s, %d, not %d", nodes(x.l), short(u), short(y), e, x.take)
			}
			if y, e := roots(t, u, b, true); e != x.root || e != api.OK && !alike(y, u) {
				t.Errorf("Root from %s: %s, %d, not %d", short(u), short(y), e, x.root)
			}
		}
	}
}

func TestOftenAtTheEnds(t *testing.T) {
	three := each(4, a, b, c)
	for i, s := range three {
		for _, x := range []struct {
			by   int
			more int // how often the node is required by a manifest of it
			e    api.Errno
		}{
			{1, 1, api.OK}, {top - 3, 2, api.OK}, {top - 2, 1, api.OK}, {top - 1, 0, api.OK}, {top - 1, 1, api.ErrLarge}, {top, 0, api.ErrLarge}, {top - 2, 2, api.ErrLarge}, {top, 7, api.ErrLarge},
		} {
			said := slices.Clone(three)
			said[i].By = x.by
			u := use(3, 9, said...)
			if y, e := takes(t, u, needs(s.N, slices.Repeat(list(s.N), x.more)...)); e != x.e || e != api.OK && !alike(y, u) {
				t.Errorf("Take of %d from %s: %s, %d, not %d", x.more, short(u), short(y), e, x.e)
			}
			// By the requirements alone.
			if y, e := takes(t, u, needs(d, slices.Repeat(list(s.N), x.more+1)...)); e != x.e || e != api.OK && !alike(y, u) {
				t.Errorf("Take of %d others from %s: %s, %d, not %d", x.more, short(u), short(y), e, x.e)
			}
		}
		for _, by := range []int{top - 2, top - 1, top} {
			said := slices.Clone(three)
			said[i].By = by
			u := use(3, 9, said...)
			want := api.OK
			if by == top {
				want = api.ErrLarge
			}
			if y, e := roots(t, u, s.N, true); e != want || e != api.OK && !alike(y, u) {
				t.Errorf("Root from %s: %s, %d, not %d", short(u), short(y), e, want)
			}
			if y, e := roots(t, u, d, true); e != api.OK {
				t.Errorf("Root of another one from %s: %s, %d", short(u), short(y), e)
			}
		}
	}
}

func TestUseRefused(t *testing.T) {
	all := []manifest{needs(a), needs(a, b), needs(b, a, a), needs(d, c, a), needs(wrong[0]), needs(a, wrong[4])}
	for _, u := range mayNot() {
		for _, m := range all {
			x, e := room.Take(u, m.key, m.list)
			holds(t, fmt.Sprint("Take of ", m, " from ", short(u)), x, u, e, api.ErrArg)
			x, e = room.Give(u, m.key, m.list)
			holds(t, fmt.Sprint("Give of ", m, " from ", short(u)), x, u, e, api.ErrArg)
			for _, on := range []bool{true, false} {
				x, e = room.Root(u, m.key, on)
				holds(t, fmt.Sprint("Root of ", nodes(list(m.key)), " ", on, " from ", short(u)), x, u, e, api.ErrArg)
			}
		}
		for _, l := range limits() {
			if e := room.Fits(l, u); e != api.ErrArg {
				t.Errorf("Fits of %v and %s: %d", l, short(u), e)
			}
		}
	}
}

func TestNodesRefused(t *testing.T) {
	three := list(c, a, b)
	for _, n := range wrong {
		for _, u := range []api.Use{{}, use(2, 3, in(a, 2), in(b, 1), in(c, 2)), use(top, top, each(top, rising...)...), use(9, 9, in(n, 9)), use(9, 9, in(a, 3), in(n, 9))} {
			bad := []manifest{needs(n), needs(n, a), needs(n, three...), needs(n, n), needs(a, n)}
			for at := range 4 {
				bad = append(bad, needs(a, with(three, at, n)...))
			}
			for _, m := range bad {
				x, e := room.Take(u, m.key, m.list)
				holds(t, fmt.Sprint("Take of ", m, " from ", short(u)), x, u, e, api.ErrArg)
				x, e = room.Give(u, m.key, m.list)
				holds(t, fmt.Sprint("Give of ", m, " from ", short(u)), x, u, e, api.ErrArg)
			}
			for _, on := range []bool{true, false} {
				x, e := room.Root(u, n, on)
				holds(t, fmt.Sprint("Root of ", nodes(list(n)), " ", on, " from ", short(u)), x, u, e, api.ErrArg)
			}
		}
	}
}

func TestWhichError(t *testing.T) {
	full := use(top, top, each(top, a, b)...)
	for _, x := range []struct {
		u    api.Use
		m    manifest
		take api.Errno
		give api.Errno
	}{
		// use, or a node, that may not be, beside what is too many, or not there
		{use(top+1, top, in(a, top)), needs(a, b), api.ErrArg, api.ErrArg}, {use(top, top, in(a, top), in(b, 0)), needs(a), api.ErrArg, api.ErrArg}, {use(-1, 0), needs(a, b), api.ErrArg, api.ErrArg},
		{full, needs(wrong[0]), api.ErrArg, api.ErrArg}, {full, needs(a, a, b, wrong[3]), api.ErrArg, api.ErrArg}, {full, needs(wrong[3], a), api.ErrArg, api.ErrArg}, {full, needs(d, d, wrong[7]), api.ErrArg, api.ErrArg},
		{use(top, top, in(b, top), in(a, top)), needs(b), api.ErrArg, api.ErrArg}, {use(math.MaxInt, math.MaxInt), needs(a, b), api.ErrArg, api.ErrArg}, {use(math.MinInt, math.MinInt), needs(a, b), api.ErrArg, api.ErrArg},
		{api.Use{}, needs(a, wrong[5]), api.ErrArg, api.ErrArg}, {api.Use{}, needs(wrong[5]), api.ErrArg, api.ErrArg},
		// several that are too many; and just some of it not there
		{full, needs(a, b, a), api.ErrLarge, api.OK}, {full, needs(a, d), api.ErrLarge, api.ErrNone}, {use(0, top, in(a, 1)), needs(a, b), api.ErrLarge, api.ErrNone}, {use(top, 0, in(a, 1)), needs(a, a), api.ErrLarge, api.ErrNone},
	} {
		if y, e := takes(t, x.u, x.m); e != x.take {
			t.Errorf("Take of %v from %s: %s, %d, not %d", x.m, short(x.u), short(y), e, x.take)
		}
		if y, e := gives(t, x.u, x.m); e != x.give {
			t.Errorf("Give of %v from %s: %s, %d, not %d", x.m, short(x.u), short(y), e, x.give)
		}
	}
	for _, on := range []bool{true, false} {
		for _, n := range wrong {
			if y, e := roots(t, full, n, on); e != api.ErrArg {
				t.Errorf("Root of %q from %s: %s, %d", node.Text(n), short(full), short(y), e)
			}
		}
		if y, e := roots(t, use(0, top+1, in(a, top)), a, on); e != api.ErrArg {
			t.Errorf("Root of use that may not be: %s, %d", short(y), e)
		}
	}
}

// P14.3

// limits are some: of 0, below 0, few, and as many as can be.
func limits() []api.Limits {
	var l []api.Limits
	few := []int{0, -1, 1, 3, top, math.MaxInt, math.MinInt}
	for _, manifests := range few {
		for _, nodes := range few {
			for _, edges := range few {
				l = append(l, api.Limits{Text: edges, Manifests: manifests, Nodes: nodes, Edges: edges})
			}
		}
	}
	return l
}

func TestFits(t *testing.T) {
	u := use(2, 9, in(a, 3), in(b, 4), in(c, 4), in(d, 9))
	for _, x := range []struct {
		l api.Limits
		e api.Errno
	}{
		// at each limit, above and below it
		{api.Limits{Manifests: 2, Nodes: 4, Edges: 9}, api.OK}, {api.Limits{Manifests: 3, Nodes: 5, Edges: 10}, api.OK}, {api.Limits{Manifests: math.MaxInt, Nodes: math.MaxInt, Edges: math.MaxInt}, api.OK},
		{api.Limits{Manifests: 1, Nodes: 4, Edges: 9}, api.ErrManifests}, {api.Limits{Manifests: 2, Nodes: 3, Edges: 9}, api.ErrNodes}, {api.Limits{Manifests: 2, Nodes: 4, Edges: 8}, api.ErrEdges},
		{api.Limits{Manifests: 3, Nodes: 4, Edges: 9}, api.OK}, {api.Limits{Manifests: 2, Nodes: 5, Edges: 9}, api.OK}, {api.Limits{Manifests: 2, Nodes: 4, Edges: 10}, api.OK},
		// each at 0, and below 0
		{api.Limits{Nodes: 4, Edges: 9}, api.ErrManifests}, {api.Limits{Manifests: 2, Edges: 9}, api.ErrNodes}, {api.Limits{Manifests: 2, Nodes: 4}, api.ErrEdges},
		{api.Limits{Manifests: -1, Nodes: 4, Edges: 9}, api.ErrManifests}, {api.Limits{Manifests: 2, Nodes: -1, Edges: 9}, api.ErrNodes}, {api.Limits{Manifests: 2, Nodes: 4, Edges: -1}, api.ErrEdges},
		{api.Limits{Manifests: math.MinInt, Nodes: 4, Edges: 9}, api.ErrManifests}, {api.Limits{Manifests: 2, Nodes: math.MinInt, Edges: 9}, api.ErrNodes}, {api.Limits{Manifests: 2, Nodes: 4, Edges: math.MinInt}, api.ErrEdges},
		// more than one of them beyond
		{api.Limits{}, api.ErrManifests}, {api.Limits{Manifests: 1, Nodes: 3, Edges: 9}, api.ErrManifests}, {api.Limits{Manifests: 1, Nodes: 4, Edges: 8}, api.ErrManifests},
		{api.Limits{Manifests: 1, Nodes: 3, Edges: 8}, api.ErrManifests}, {api.Limits{Manifests: 2, Nodes: 3, Edges: 8}, api.ErrNodes}, {api.Limits{Manifests: 2, Nodes: -1, Edges: -1}, api.ErrNodes},
		{api.Limits{Manifests: -1, Nodes: -1, Edges: -1}, api.ErrManifests},
	} {
		// How long a text may be plays no part.
		for _, long := range []int{0, 1, -1, math.MaxInt, math.MinInt} {
			x.l.Text = long
			if e := room.Fits(x.l, u); e != x.e {
				t.Errorf("Fits of %v and %s: %d, not %d", x.l, short(u), e, x.e)
			}
		}
	}
}

func TestFitsOfNothing(t *testing.T) {
	for _, u := range nothing() {
		for _, x := range []struct {
			l api.Limits
			e api.Errno
		}{
			{api.Limits{}, api.OK}, {api.Limits{Text: -1}, api.OK}, {api.Limits{Manifests: 1, Nodes: 1, Edges: 1}, api.OK},
			{api.Limits{Manifests: -1}, api.ErrManifests}, {api.Limits{Nodes: -1}, api.ErrNodes}, {api.Limits{Edges: -1}, api.ErrEdges},
			{api.Limits{Nodes: -1, Edges: -1}, api.ErrNodes}, {api.Limits{Manifests: -1, Edges: -1}, api.ErrManifests}, {api.Limits{Manifests: math.MinInt, Nodes: math.MinInt, Edges: math.MinInt}, api.ErrManifests},
		} {
			if e := room.Fits(x.l, u); e != x.e {
				t.Errorf("Fits of %v and nothing: %d, not %d", x.l, e, x.e)
			}
		}
	}
}

func TestFitsEach(t *testing.T) {
	all := limits()
	for i, u := range mayBe() {
		near := func(many int) []int { return []int{many - 1, many, many + 1, 0, -1} }
		for _, manifests := range near(u.Manifests) {
			for _, nodes := range near(len(u.Said)) {
				for _, edges := range near(u.Edges) {
					all = append(all, api.Limits{Manifests: manifests, Nodes: nodes, Edges: edges})
				}
			}
		}
		for _, l := range all {
			if e, want := room.Fits(l, u), fitting(l, u); e != want {
				t.Errorf("Fits %d of %v and %s: %d, not %d", i, l, short(u), e, want)
			}
		}
		all = all[:len(limits())]
	}
}

func TestHowOftenPlaysNoPart(t *testing.T) {
	// Nodes are counted once each, however often they are spoken of.
	for _, by := range []int{1, 2, 9, top} {
		u := use(1, 1, each(by, a, b, c)...)
		if e := room.Fits(api.Limits{Manifests: 1, Nodes: 3, Edges: 1}, u); e != api.OK {
			t.Errorf("Fits of %s: %d", short(u), e)
		}
		if e := room.Fits(api.Limits{Manifests: 1, Nodes: 2, Edges: 1}, u); e != api.ErrNodes {
			t.Errorf("Fits of %s: %d", short(u), e)
		}
	}
}

// P14.4

func TestTakenAndGivenBack(t *testing.T) {
	for _, u := range mayBe() {
		for _, m := range manifests() {
			if x, e := takes(t, u, m); e == api.OK {
				if y, e := gives(t, x, m); !room.Same(y, u) || e != api.OK {
					t.Errorf("%v taken and given back: %s, %d, not %s", m, short(y), e, short(u))
				}
			}
			if x, e := gives(t, u, m); e == api.OK {
				if y, e := takes(t, x, m); !room.Same(y, u) || e != api.OK {
					t.Errorf("%v given back and taken: %s, %d, not %s", m, short(y), e, short(u))
				}
			}
		}
		for _, n := range rising {
			for _, on := range []bool{true, false} {
				if x, e := roots(t, u, n, on); e == api.OK {
					if y, e := roots(t, x, n, !on); !room.Same(y, u) || e != api.OK {
						t.Errorf("root requirement %v there and back: %s, %d, not %s", n, short(y), e, short(u))
					}
				}
			}
		}
	}
}

func TestTakenInEachOrder(t *testing.T) {
	l, root := []manifest{needs(a, b, c, b), needs(b, a9), needs(a9), needs(a0, a0, a)}, list(b, a0)
	want := ofs(t, l, root)
	orders(l, 0, func() {
		u := api.Use{}
		for _, m := range l {
			u, _ = takes(t, u, m)
			// Root requirements come among them.
			if m.key == b {
				u, _ = roots(t, u, root[0], true)
				u, _ = roots(t, u, root[1], true)
			}
		}
		if !room.Same(u, want) {
			t.Errorf("taken as %v: %s, not %s", l, short(u), short(want))
		}
	})
}

func TestGivenBackInEachOrder(t *testing.T) {
	l := []manifest{needs(a, b, c, b), needs(b, a9), needs(a9), needs(a0, a0, a), needs(a, b, c, b)}
	all := ofs(t, l, list(a, a))
	orders(l, 0, func() {
		u := all
		for i, m := range l {
			var e api.Errno
			u, e = gives(t, u, m)
			if want := ofs(t, l[i+1:], list(a, a)); !room.Same(u, want) || e != api.OK {
				t.Errorf("given back as %v: %s, %d, not %s", l[:i+1], short(u), e, short(want))
			}
		}
		u, _ = roots(t, u, a, false)
		u, _ = roots(t, u, a, false)
		if !room.Same(u, api.Use{}) {
			t.Errorf("all given back: %s", short(u))
		}
	})
}

func TestRequirementsInEachOrder(t *testing.T) {
	l := list(a, b, a, c, a0, b)
	u := use(1, 9, in(a, 4), in(a0, 1), in(b, 2), in(d, 3))
	want := use(2, 15, in(a, 6), in(a0, 2), in(b, 5), in(c, 1), in(d, 3))
	orders(l, 0, func() {
		x, e := takes(t, u, needs(b, l...))
		if !room.Same(x, want) || e != api.OK {
			t.Errorf("Take of %s: %s, %d", nodes(l), short(x), e)
		}
		// What was taken in one order is given back in another one.
		if x, e = gives(t, want, needs(b, l...)); !room.Same(x, u) || e != api.OK {
			t.Errorf("Give of %s: %s, %d", nodes(l), short(x), e)
		}
	})
}

func TestRoomComesBack(t *testing.T) {
	// What is given back makes room, at each of the limits.
	l := api.Limits{Manifests: 2, Nodes: 4, Edges: 5}
	u := ofs(t, []manifest{needs(a, b, c), needs(b, d, d)}, list(a))
	if e := room.Fits(l, u); e != api.OK {
		t.Fatalf("Fits of %s: %d", short(u), e)
	}
	for _, x := range []struct {
		m manifest
		e api.Errno
	}{{needs(c), api.ErrManifests}, {needs(c, a), api.ErrManifests}, {needs(a9), api.ErrManifests}} {
		y, _ := takes(t, u, x.m)
		if e := room.Fits(l, y); e != x.e {
			t.Errorf("Fits of %s: %d, not %d", short(y), e, x.e)
		}
		y, _ = gives(t, y, needs(b, d, d))
		if e := room.Fits(l, y); e != api.OK {
			t.Errorf("Fits of %s: %d", short(y), e)
		}
	}
	one, _ := roots(t, u, c, true)
	other, _ := roots(t, one, a, false)
	if e, f := room.Fits(l, one), room.Fits(l, other); e != api.ErrEdges || f != api.OK {
		t.Errorf("Fits of %s, and of %s: %d, %d", short(one), short(other), e, f)
	}
}

// What holds of all

func TestChance(t *testing.T) {
	r := rand.New(rand.NewSource(114))
	pick := func() api.Node { return rising[r.Intn(len(rising))] }
	for range 60 {
		u, there, root := api.Use{}, []manifest{}, []api.Node{}
		for range 40 {
			m := needs(pick())
			for range r.Intn(4) {
				m.list = append(m.list, pick())
			}
			if r.Intn(8) == 0 {
				// What may not be is refused, and plays no part.
				m.list = with(m.list, r.Intn(len(m.list)+1), wrong[r.Intn(len(wrong))])
			}
			var e api.Errno
			switch r.Intn(6) {
			case 0, 1:
				if u, e = takes(t, u, m); e == api.OK {
					there = append(there, m)
				}
			case 2:
				u = anyBack(t, u, m, there, root)
			case 3:
				if len(there) > 0 {
					at := r.Intn(len(there))
					u, _ = gives(t, u, there[at])
					there = slices.Delete(there, at, at+1)
				}
			case 4:
				if u, e = roots(t, u, m.key, true); e == api.OK {
					root = append(root, m.key)
				}
			case 5:
				if len(root) > 0 {
					at := r.Intn(len(root))
					u, _ = roots(t, u, root[at], false)
					root = slices.Delete(root, at, at+1)
				}
			}
			if x := ofs(t, there, root); !room.Same(u, x) {
				t.Fatalf("what came, and went: %s, and from the beginning: %s", short(u), short(x))
			}
		}
	}
}

// anyBack gives back a manifest that may never have come; where something of it was not there, use is as it was.
func anyBack(t *testing.T, u api.Use, m manifest, there []manifest, root []api.Node) api.Use {
	t.Helper()
	x, e := gives(t, u, m)
	if e != api.OK {
		return x
	}
	x, e = takes(t, x, m)
	if e != api.OK {
		t.Fatalf("%v given back, and taken: %d, of %v and %s", m, e, there, nodes(root))
	}
	return x
}

// roomy is a list in memory of its own, with room behind it that is its owner's, too.
func roomy[T any](l []T, v T) []T {
	x := slices.Grow(slices.Clone(l), 4)
	spoil(x[len(x):], v)
	return x
}

// spoil writes over all of a list, and over the room behind it.
func spoil[T any](l []T, v T) {
	l = l[:cap(l)]
	for i := range l {
		l[i] = v
	}
}

// whole is what there is of a list, and of the room behind it, in memory of its own.
func whole[T any](l []T) []T { return slices.Clone(l[:cap(l)]) }

// bad is what lists are spoilt by.
var bad = in(of("spoilt", "v9.9.9"), -9)

func TestUseUnchanged(t *testing.T) {
	for _, was := range append(mayBe(), mayNot()...) {
		for _, m := range []manifest{needs(a), needs(b, a, b), needs(d, rising...), needs(wrong[0], a), needs(a, wrong[3])} {
			u, l := was, roomy(m.list, bad.N)
			u.Said = roomy(was.Said, bad)
			wasSaid, wasList := whole(u.Said), whole(l)
			ask := func() []api.Use {
				v, _ := room.Take(u, m.key, l)
				w, _ := room.Give(u, m.key, l)
				x, _ := room.Root(u, m.key, true)
				y, _ := room.Root(u, m.key, false)
				room.Check(u)
				room.Fits(api.Limits{}, u)
				room.Same(u, u)
				return []api.Use{v, w, x, y}
			}
			first, again := ask(), ask()
			var want []api.Use
			for _, x := range again {
				x.Said = slices.Clone(x.Said)
				want = append(want, x)
			}
			for _, x := range first {
				spoil(x.Said, bad)
			}
			if !slices.Equal(whole(u.Said), wasSaid) || !slices.Equal(whole(l), wasList) {
				t.Fatalf("%s and %s are %s and %s", short(was), nodes(m.list), short(u), nodes(l))
			}
			spoil(u.Said, bad)
			spoil(l, bad.N)
			for i, x := range again {
				if !alike(x, want[i]) {
					t.Fatalf("answer %d of %s and %v shares with something", i, short(was), m)
				}
			}
		}
	}
}

func TestListsUnchanged(t *testing.T) {
	sets := [][]manifest{{needs(a)}, {needs(a, b, b)}, {needs(b, a), needs(a, c, a)}, manifests(), {needs(a), needs(wrong[0])}, {needs(a, wrong[0]), needs(b)}}
	for _, l := range sets {
		for _, r := range [][]api.Node{nil, {}, {a, a}, {d, b}, {wrong[2]}} {
			k, m := split(l)
			keys, root, lists := roomy(k, bad.N), roomy(r, bad.N), roomy(m, nil)
			var wasLists [][]api.Node
			for i := range lists {
				lists[i] = roomy(lists[i], bad.N)
				wasLists = append(wasLists, whole(lists[i]))
			}
			wasKeys, wasRoot := whole(keys), whole(root)
			x, _ := room.Of(keys, lists, root)
			y, _ := room.Of(keys, lists, root)
			want := y
			want.Said = slices.Clone(y.Said)
			spoil(x.Said, bad)
			if !slices.Equal(whole(keys), wasKeys) || !slices.Equal(whole(root), wasRoot) || !alike(y, want) {
				t.Fatalf("Of %v and %s changes them", l, nodes(r))
			}
			for i, n := range lists[:cap(lists)] {
				if i >= len(wasLists) && n != nil || i < len(wasLists) && !slices.Equal(whole(n), wasLists[i]) {
					t.Fatalf("Of %v and %s changes its lists", l, nodes(r))
				}
			}
			for _, n := range lists {
				spoil(n, bad.N)
			}
			spoil(keys, bad.N)
			spoil(root, bad.N)
			if !alike(y, want) {
				t.Fatalf("Of %v and %s shares with them", l, nodes(r))
			}
		}
	}
}

func TestOneListTwice(t *testing.T) {
	// One list as all arguments.
	l := list(a, b, a)
	u, e := room.Of(l, [][]api.Node{l, l, l}, l)
	holds(t, "Of one list", u, use(3, 12, in(a, 10), in(b, 5)), e, api.OK)
	u, e = room.Take(u, l[0], l)
	holds(t, "Take of one list", u, use(4, 15, in(a, 13), in(b, 6)), e, api.OK)
}

func TestSameAgain(t *testing.T) {
	l := manifests()
	u := ofs(t, l, rising)
	var g sync.WaitGroup
	for range 8 {
		g.Go(func() {
			for _, m := range l {
				x, _ := takes(t, u, m)
				gives(t, x, m)
				roots(t, u, m.key, true)
				roots(t, u, m.key, false)
				ofs(t, l, rising)
			}
		})
	}
	g.Wait()
}

func TestMany(t *testing.T) {
	const many = 5000
	var keys []api.Node
	var lists [][]api.Node
	var want []api.Edit
	for i := range many {
		n := of(fmt.Sprintf("m%06d", i/2), fmt.Sprint("v1.", 9+i%2, ".0"))
		keys, lists = append(keys, n), append(lists, slices.Repeat(list(n), i%3))
		want = append(want, in(n, 1+i%3))
	}
	slices.Reverse(keys)
	slices.Reverse(lists)
	edges := 0
	for _, l := range lists {
		edges += len(l)
	}
	u, e := room.Of(keys, lists, nil)
	holds(t, "Of many", u, use(many, edges, want...), e, api.OK)
	x, e := room.Take(u, a, keys)
	if e != api.OK || x.Manifests != many+1 || x.Edges != edges+many || len(x.Said) != many+1 || x.Said[0] != in(a, 1) || x.Said[many].By != want[many-1].By+1 {
		t.Errorf("Take of many: %s, %d", short(x), e)
	}
	x, e = room.Give(x, a, keys)
	holds(t, "Give of many", x, u, e, api.OK)
	keys[many-1] = wrong[0]
	x, e = room.Of(keys, lists, nil)
	holds(t, "Of many, and of one that may not be", x, api.Use{}, e, api.ErrArg)
}

func TestOften(t *testing.T) {
	const often = 1 << 20
	l := slices.Repeat(list(b, a9), often)
	u, e := room.Take(api.Use{}, a9, l)
	holds(t, "Take of what is often there", u, use(1, 2*often, in(a9, often+1), in(b, often)), e, api.OK)
	x, e := room.Give(u, b, l)
	holds(t, "Give of it once too often", x, u, e, api.ErrNone)
	x, e = room.Give(u, a9, l)
	holds(t, "Give of what is often there", x, api.Use{}, e, api.OK)
	most := use(0, top-2*often, in(a9, top-often-1), in(b, top-often))
	x, e = room.Take(most, a9, l)
	holds(t, "Take up to the end", x, use(1, top, in(a9, top), in(b, top)), e, api.OK)
	x, e = room.Take(most, b, l)
	holds(t, "Take beyond the end", x, most, e, api.ErrLarge)
}

func TestLong(t *testing.T) {
	path := strings.Repeat("a/", 20000) + "a"
	long, longer := of(path, "v"+strings.Repeat("9", 20000)+".0.0"), of(path, "v1"+strings.Repeat("0", 20000)+".0.0")
	u, e := takes(t, use(0, 1, in(a, 1)), needs(longer, long, a, long))
	if want := use(1, 4, in(a, 2), in(long, 2), in(longer, 1)); !alike(u, want) || e != api.OK {
		t.Errorf("Take of long ones: %s, %d", short(u), e)
	}
	if u, e = gives(t, u, needs(longer, long, long)); !alike(u, use(0, 2, in(a, 2))) || e != api.OK {
		t.Errorf("Give of long ones: %s, %d", short(u), e)
	}
	takes(t, u, needs(of(path, strings.Repeat("v", 20000))))
}
