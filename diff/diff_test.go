package diff_test

import (
	"fmt"
	"math"
	"math/rand"
	"slices"
	"strings"
	"sync"
	"testing"

	"graftwood/api"
	"graftwood/diff"
	"graftwood/node"
)

// of is a node.
func of(path, version string) api.Node { return api.Node{Path: path, Version: version} }

// rising are nodes in order: of one path by many versions, of one version by many paths, and not in the order of their octets.
var rising = []api.Node{
	of("A", "v1.0.0"), of("a", "v0.9.0"), of("a", "v1.0.0-2"), of("a", "v1.0.0-10"), of("a", "v1.0.0-a"), of("a", "v1.0.0"),
	of("a", "v1.9.0"), of("a", "v1.10.0"), of("a-b", "v1.0.0"), of("a.b", "v1.0.0"), of("a/b", "v1.0.0"), of("a/b", "v1.10.0"),
	of("ab", "v0.0.0"), of("b", "v1.0.0"), of("b", "v10000000000000000000000.0.0"), of("golang.org/x/mod", "v0.21.0"),
}

// Some of them, in order.
var (
	a  = rising[5]
	a9 = rising[6]
	a0 = rising[7]
	ab = rising[10]
	b  = rising[13]
	c  = of("c", "v1.0.0")
	d  = of("d", "v1.0.0")
)

// wrong are nodes that may not be.
var wrong = []api.Node{
	{}, of("a", ""), of("", "v1.0.0"), of("a", "1.0.0"), of("a", "v1.0"), of("a", "v01.0.0"), of("a", "v1.0.0-"), of("a", "v1.0.0-01"), of("a", "v1.0.0+b"),
	of("a", "v1.0.0 "), of("a", "V1.0.0"), of("a/", "v1.0.0"), of("/a", "v1.0.0"), of("a//b", "v1.0.0"), of("a.", "v1.0.0"),
	of(".a", "v1.0.0"), of("a b", "v1.0.0"), of("a@", "v1.0.0"), of("a@v1.0.0", ""), of("v1.0.0", "a"),
	of("\x00", "v1.0.0"), of("~\xff", "v1.0.0"), of("é", "v1.0.0"), of("a", "v1.0.0\n"),
}

// far are By's that may not be: 0, and those beyond 2^40 and -2^40, as far as a number goes.
var far = []int{0, top + 1, -top - 1, top + 2, -top - 2, 1 << 41, -1 << 41, math.MaxInt - 1, math.MaxInt, math.MinInt + 1, math.MinInt}

// list are nodes.
func list(l ...api.Node) []api.Node { return l }

// these are edits.
func these(l ...api.Edit) []api.Edit { return l }

// in is an edit of a node.
func in(n api.Node, by int) api.Edit { return api.Edit{N: n, By: by} }

// alike are edits of nodes, each of this By.
func alike(by int, l ...api.Node) []api.Edit {
	var out []api.Edit
	for _, n := range l {
		out = append(out, in(n, by))
	}
	return out
}

// mixed are edits of nodes, of different By's, above and below 0.
func mixed(l ...api.Node) []api.Edit {
	all := []int{1, -1, 2, -3, top, -top, 7, -40, top - 1, -top + 1}
	var out []api.Edit
	for i, n := range l {
		out = append(out, in(n, all[i%len(all)]))
	}
	return out
}

// with is a list with something in it at a place.
func with[T any](l []T, at int, v T) []T { return slices.Insert(slices.Clone(l), at, v) }

// lists are lists of nodes that may be.
func lists() [][]api.Node {
	l := [][]api.Node{
		nil, {}, make([]api.Node, 0, 3),
		// of one
		{a}, {b}, {a, a}, {a, a, a}, {b, b, b, b},
		// of two, in order and out of it
		{a, b}, {b, a}, {a, a, b}, {a, b, a}, {b, a, a}, {b, a, b, a}, {a, b, b}, {b, b, a}, {a, a, b, b, b}, {a9, a0}, {a0, a9}, {a0, a9, a0},
		// of more
		{a, b, c}, {c, b, a}, {b, c, a}, {b, c, c, d}, {c, a, b, a}, {a, a9, a0}, {a0, a9, a, a9}, {d, c, d, b, d, a}, {ab, a, rising[8], rising[9]},
		rising, rising[3:9], slices.Concat(rising, rising), slices.Concat(rising[8:], rising[:8]),
	}
	back := slices.Clone(rising)
	slices.Reverse(back)
	return append(l, back, slices.Concat(back, rising, back[:4]))
}

// mayBe are edits that may be.
func mayBe() [][]api.Edit {
	l := [][]api.Edit{nil, {}, make([]api.Edit, 0, 3)}
	for _, by := range []int{1, -1, 2, -2, 7, -40, math.MaxInt32, math.MinInt32, top - 1, -top + 1, top, -top} {
		// of one path, by one version and by several, and of several paths
		l = append(l, alike(by, a), alike(by, b), alike(by, a, b), alike(by, a9, a0), alike(by, rising[1:8]...), alike(by, a, b, c), alike(by, rising...))
	}
	l = append(l, mixed(rising...), mixed(rising[4:]...), mixed(rising[1:8]...), mixed(rising[7], rising[8], rising[13]))
	l = append(l, these(in(a, 1), in(b, -1)), these(in(a, -1), in(b, 1)), these(in(a, -2), in(c, 1), in(d, 1)))
	l = append(l, these(in(a, top), in(b, -top)), these(in(a, -top), in(b, 1), in(c, top)))
	return l
}

// mayNot are edits that may not be.
func mayNot() [][]api.Edit {
	var l [][]api.Edit
	for _, nodes := range [][]api.Node{
		// out of order by path, and by version, as octets would have it, first, in the midst and last
		{b, a}, {a0, a9}, {rising[3], rising[2]}, {rising[5], rising[4]}, {rising[8], rising[7]}, {a, rising[0]}, {rising[10], rising[9]}, {rising[14], rising[13]},
		{b, a, c}, {a, c, b}, {c, b, a}, {a, b, d, c}, {a, c, b, d}, {b, a, c, d}, {b, c, d, a}, append(slices.Clone(rising), rising[14]),
		// a node twice, side by side and not
		{a, a}, {a, a, b}, {a, b, b}, {a, b, a}, {a, b, b, c}, {a, b, c, a}, {c, c, c}, append(slices.Clone(rising), rising[15]), append(slices.Clone(rising), rising[0]),
	} {
		l = append(l, alike(1, nodes...), alike(-1, nodes...), alike(top, nodes...), mixed(nodes...))
	}
	// a node twice, that comes to 0
	l = append(l, these(in(a, 1), in(a, -1)), these(in(a, top), in(a, -top), in(b, 1)))
	three := these(in(a, 1), in(b, -1), in(c, 2))
	for at := range 4 {
		for _, n := range wrong {
			l = append(l, with(three, at, in(n, 1)))
		}
	}
	for _, n := range wrong {
		l = append(l, these(in(n, 1)), these(in(n, -top)), these(in(n, 0)), alike(1, n, n))
	}
	for _, by := range far {
		l = append(l, these(in(a, by)), alike(by, a, b), alike(by, rising...))
		for i := range three {
			x := slices.Clone(three)
			x[i].By = by
			l = append(l, x)
		}
	}
	return append(l, these(api.Edit{}), these(in(b, 0), in(a, top+1), in(wrong[3], math.MinInt)))
}

// nodes are a list as it is shown.
func nodes(l []api.Node) string {
	var out []string
	for _, n := range l[:min(len(l), 20)] {
		out = append(out, fmt.Sprintf("%.30q", node.Text(n)))
	}
	return fmt.Sprintf("%d nodes: %s", len(l), strings.Join(out, " "))
}

// edits are edits as they are shown.
func edits(l []api.Edit) string {
	var out []string
	for _, e := range l[:min(len(l), 20)] {
		out = append(out, fmt.Sprintf("%.30q %d", node.Text(e.N), e.By))
	}
	return fmt.Sprintf("%d edits: %s", len(l), strings.Join(out, ", "))
}

// holds holds what a call answers against what it is to: edits that may be, or, beside an error, nothing.
func holds(t *testing.T, what string, got, want []api.Edit, e, no api.Errno) {
	t.Helper()
	if !equal(got, want) || e != no || diff.Check(got) != api.OK || e != api.OK && len(got) > 0 {
		t.Errorf("%s: %s, %d, not %s, %d", what, edits(got), e, edits(want), no)
	}
}

// counts asks how often nodes are there, and holds it against the definition.
func counts(t *testing.T, l []api.Node) []api.Edit {
	t.Helper()
	x, e := diff.Count(l)
	want, no := counted(l)
	holds(t, "Count of "+nodes(l), x, want, e, no)
	return x
}

// diffs holds two lists against one another, and that against the definition.
func diffs(t *testing.T, old, now []api.Node) []api.Edit {
	t.Helper()
	x, e := diff.Diff(old, now)
	want, no := between(old, now)
	holds(t, "Diff of "+nodes(old)+" and "+nodes(now), x, want, e, no)
	return x
}

// boths asks edits together, and holds them against the definition.
func boths(t *testing.T, l, m []api.Edit) []api.Edit {
	t.Helper()
	x, e := diff.Both(l, m)
	want, no := joined(l, m)
	holds(t, "Both of "+edits(l)+" and "+edits(m), x, want, e, no)
	return x
}

// turns turns edits about, and holds them against the definition.
func turns(t *testing.T, l []api.Edit) []api.Edit {
	t.Helper()
	x, e := diff.Turn(l)
	want, no := turned(l)
	holds(t, "Turn of "+edits(l), x, want, e, no)
	return x
}

// P13.1

func TestCheck(t *testing.T) {
	for _, l := range mayBe() {
		if e := diff.Check(l); e != api.OK || !fits(l) {
			t.Errorf("Check of what may be, %s: %d", edits(l), e)
		}
	}
	for _, l := range mayNot() {
		if e := diff.Check(l); e != api.ErrArg || fits(l) {
			t.Errorf("Check of what may not be, %s: %d", edits(l), e)
		}
	}
}

func TestCheckOfEachShortList(t *testing.T) {
	few := these(in(a, 1), in(a, -1), in(a9, top), in(a0, -top), in(b, 3), in(b, 0), in(a0, top+1), in(c, -top-1), in(of("a", "v1.0"), 1), in(of("", "v1.0.0"), -1))
	var grow func(l []api.Edit)
	grow = func(l []api.Edit) {
		want := api.OK
		if !fits(l) {
			want = api.ErrArg
		}
		if e := diff.Check(l); e != want {
			t.Errorf("Check of %s: %d, not %d", edits(l), e, want)
		}
		for _, e := range few {
			if len(l) < 4 {
				grow(append(slices.Clone(l), e))
			}
		}
	}
	grow(nil)
}

func TestCount(t *testing.T) {
	for _, x := range []struct {
		l    []api.Node
		want []api.Edit
	}{
		// of none
		{nil, nil}, {list(), nil},
		// of one, once, twice, and more
		{list(a), these(in(a, 1))}, {list(a, a), these(in(a, 2))}, {list(a, a, a), these(in(a, 3))},
		// of two, in order and out of it
		{list(a, b), these(in(a, 1), in(b, 1))}, {list(b, a), these(in(a, 1), in(b, 1))}, {list(b, a, b), these(in(a, 1), in(b, 2))},
		{list(a, b, b, a, b), these(in(a, 2), in(b, 3))}, {list(c, a, c), these(in(a, 1), in(c, 2))},
		// by several versions of one path, in the order of the versions, not of their octets
		{list(a0, a9), these(in(a9, 1), in(a0, 1))}, {list(a9, a0, a, a0), these(in(a, 1), in(a9, 1), in(a0, 2))},
		{list(rising[3], rising[2], rising[5], rising[4]), alike(1, rising[2:6]...)},
		// by several paths, in the order of their octets
		{list(b, rising[12], ab, rising[9], rising[8], a, rising[0]), alike(1, rising[0], a, rising[8], rising[9], ab, rising[12], b)},
		{slices.Concat(rising[5:], rising[:5]), alike(1, rising...)}, {slices.Concat(rising, rising), alike(2, rising...)},
	} {
		got, e := diff.Count(x.l)
		holds(t, "Count of "+nodes(x.l), got, x.want, e, api.OK)
	}
}

func TestCountEach(t *testing.T) {
	for _, l := range lists() {
		counts(t, l)
		for _, n := range wrong {
			counts(t, append(slices.Clone(l), n))
			counts(t, with(l, 0, n))
		}
	}
}

func TestCountInEachOrder(t *testing.T) {
	l := list(a, a9, a0, b, a9, b, a9)
	want := these(in(a, 1), in(a9, 3), in(a0, 1), in(b, 2))
	orders(l, 0, func() {
		got, e := diff.Count(l)
		holds(t, "Count of "+nodes(l), got, want, e, api.OK)
	})
}

// orders tries each order of what stands from a place on.
func orders[T any](l []T, from int, try func()) {
	if from == len(l) {
		try()
		return
	}
	for i := from; i < len(l); i++ {
		l[from], l[i] = l[i], l[from]
		orders(l, from+1, try)
		l[from], l[i] = l[i], l[from]
	}
}

func TestDiff(t *testing.T) {
	for _, x := range []struct {
		old, now []api.Node
		want     []api.Edit
	}{
		// of nothing, and of all that there is
		{nil, nil, nil}, {list(), nil, nil}, {nil, list(), nil}, {nil, list(a), these(in(a, 1))}, {list(a), nil, these(in(a, -1))},
		{list(), list(b, a, b), these(in(a, 1), in(b, 2))}, {list(b, a, b), list(), these(in(a, -1), in(b, -2))},
		// that have none of their nodes in common
		{list(a, a), list(b, c), these(in(a, -2), in(b, 1), in(c, 1))}, {list(b, c), list(a, a), these(in(a, 2), in(b, -1), in(c, -1))},
		{list(a, c), list(b, d, b), these(in(a, -1), in(b, 2), in(c, -1), in(d, 1))}, {list(a0), list(a9), these(in(a9, 1), in(a0, -1))},
		// that have some of them
		{list(a, a, b), list(b, c), these(in(a, -2), in(c, 1))}, {list(c, a, b, a), list(b, c, c, d), these(in(a, -2), in(c, 1), in(d, 1))},
		{list(a, b, c), list(b, b, d), these(in(a, -1), in(b, 1), in(c, -1), in(d, 1))}, {list(b), list(a, b, c), these(in(a, 1), in(c, 1))},
		// that have all of them, as often, more often and less often
		{list(a), list(a), nil}, {list(a, b), list(b, a), nil}, {list(a, b, a), list(a, a, b), nil}, {rising, slices.Concat(rising[9:], rising[:9]), nil},
		{list(a), list(a, a), these(in(a, 1))}, {list(a, a, a), list(a), these(in(a, -2))}, {list(a, b, b), list(b, a, a), these(in(a, 1), in(b, -1))},
		{list(a, b), list(b, b, a), these(in(b, 1))}, {slices.Concat(rising, rising), rising, alike(-1, rising...)},
	} {
		got, e := diff.Diff(x.old, x.now)
		holds(t, "Diff of "+nodes(x.old)+" and "+nodes(x.now), got, x.want, e, api.OK)
	}
}

func TestDiffOfOneNode(t *testing.T) {
	// So often in old, and so often in now, among others that are first, and last, or not there.
	for _, n := range list(rising[0], a, a9, b, d) {
		for _, others := range [][]api.Node{nil, {c}, {rising[1], rising[14]}, {rising[14], c, rising[1], c}} {
			for old := range 5 {
				for now := range 5 {
					want := these(in(n, now-old))
					if old == now {
						want = nil
					}
					l := slices.Concat(slices.Repeat(list(n), old), others)
					m := slices.Concat(others, slices.Repeat(list(n), now))
					got, e := diff.Diff(l, m)
					holds(t, "Diff of "+nodes(l)+" and "+nodes(m), got, want, e, api.OK)
				}
			}
		}
	}
}

func TestDiffEach(t *testing.T) {
	for _, old := range lists() {
		for _, now := range lists() {
			diffs(t, old, now)
		}
	}
}

func TestNodesRefused(t *testing.T) {
	three := list(c, a, b)
	for _, n := range wrong {
		bad := [][]api.Node{{n}, {n, n}, with(three, 0, n), with(three, 1, n), with(three, 2, n), with(three, 3, n), with(rising, 9, n)}
		for _, l := range bad {
			x, e := diff.Count(l)
			holds(t, "Count of "+nodes(l), x, nil, e, api.ErrArg)
			// As often in both it comes to 0, and yet it may not be.
			for _, m := range append(bad, nil, three, list(a), rising, list(wrong[1])) {
				x, e = diff.Diff(l, m)
				holds(t, "Diff of "+nodes(l)+" and "+nodes(m), x, nil, e, api.ErrArg)
				x, e = diff.Diff(m, l)
				holds(t, "Diff of "+nodes(m)+" and "+nodes(l), x, nil, e, api.ErrArg)
			}
		}
	}
}

// P13.2

func TestBoth(t *testing.T) {
	abc := these(in(a, 1), in(b, -2), in(c, 3))
	for _, x := range []struct{ a, b, want []api.Edit }{
		// of nothing
		{nil, nil, nil}, {these(), nil, nil}, {abc, nil, abc}, {nil, abc, abc}, {abc, these(), abc}, {these(), abc, abc},
		// of nodes that are in one alone: ahead, between, behind
		{abc, these(in(rising[0], 5)), these(in(rising[0], 5), in(a, 1), in(b, -2), in(c, 3))}, {abc, these(in(a0, 5)), these(in(a, 1), in(a0, 5), in(b, -2), in(c, 3))},
		{abc, these(in(rising[14], 5)), these(in(a, 1), in(b, -2), in(rising[14], 5), in(c, 3))}, {abc, these(in(d, 5)), these(in(a, 1), in(b, -2), in(c, 3), in(d, 5))},
		{these(in(a, 1), in(c, 1)), these(in(b, 1), in(d, -1)), these(in(a, 1), in(b, 1), in(c, 1), in(d, -1))},
		{these(in(a9, 1)), these(in(a0, 1)), these(in(a9, 1), in(a0, 1))}, {these(in(a0, 1)), these(in(a9, 1)), these(in(a9, 1), in(a0, 1))},
		{alike(1, rising[8:]...), alike(1, rising[:8]...), alike(1, rising...)},
		// of nodes that are in both
		{abc, abc, these(in(a, 2), in(b, -4), in(c, 6))}, {abc, these(in(b, 3)), these(in(a, 1), in(b, 1), in(c, 3))},
		{abc, these(in(a, 4), in(c, -9)), these(in(a, 5), in(b, -2), in(c, -6))}, {alike(3, rising...), alike(-1, rising...), alike(2, rising...)},
		{abc, these(in(a, 1), in(ab, 1), in(c, 1), in(d, 1)), these(in(a, 2), in(ab, 1), in(b, -2), in(c, 4), in(d, 1))},
		// of those that come to 0: first, in the midst, last, several, all
		{these(in(a, 1)), these(in(a, -1)), nil}, {these(in(a, -top)), these(in(a, top)), nil},
		{abc, these(in(a, -1)), these(in(b, -2), in(c, 3))}, {abc, these(in(b, 2)), these(in(a, 1), in(c, 3))}, {abc, these(in(c, -3)), these(in(a, 1), in(b, -2))},
		{abc, these(in(a, -1), in(c, -3)), these(in(b, -2))}, {abc, these(in(a, -1), in(b, 2)), these(in(c, 3))}, {abc, these(in(a, -1), in(b, 2), in(c, -3)), nil},
		{abc, these(in(a, -1), in(b, 1), in(d, 1)), these(in(b, -1), in(c, 3), in(d, 1))}, {alike(top, rising...), alike(-top, rising...), nil},
		{alike(2, rising...), alike(-2, rising[3:12]...), slices.Concat(alike(2, rising[:3]...), alike(2, rising[12:]...))},
		// of those that may just be
		{these(in(a, top)), nil, these(in(a, top))}, {these(in(a, -top)), these(in(b, top)), these(in(a, -top), in(b, top))},
		{these(in(a, top)), these(in(a, -1)), these(in(a, top-1))}, {these(in(a, 1)), these(in(a, -top)), these(in(a, -top+1))},
	} {
		got, e := diff.Both(x.a, x.b)
		holds(t, "Both of "+edits(x.a)+" and "+edits(x.b), got, x.want, e, api.OK)
	}
}

func TestBothEach(t *testing.T) {
	for _, l := range mayBe() {
		for _, m := range mayBe() {
			boths(t, l, m)
		}
	}
}

func TestBothAtTheEnds(t *testing.T) {
	three := these(in(a, 1), in(b, -2), in(c, 3))
	for i := range three {
		for _, x := range []struct {
			one, two int
			e        api.Errno
		}{
			// that come to 2^40, and to -2^40
			{top - 1, 1, api.OK}, {1, top - 1, api.OK}, {top / 2, top / 2, api.OK}, {top - 7, 7, api.OK},
			{-top + 1, -1, api.OK}, {-1, -top + 1, api.OK}, {-top / 2, -top / 2, api.OK}, {-9, -top + 9, api.OK},
			// to one beyond either, and as far beyond as they may
			{top, 1, api.ErrLarge}, {1, top, api.ErrLarge}, {top - 1, 2, api.ErrLarge}, {top/2 + 1, top / 2, api.ErrLarge},
			{-top, -1, api.ErrLarge}, {-1, -top, api.ErrLarge}, {-top + 1, -2, api.ErrLarge}, {-top / 2, -top/2 - 1, api.ErrLarge},
			{top, top, api.ErrLarge}, {-top, -top, api.ErrLarge}, {top, 2, api.ErrLarge}, {-2, -top, api.ErrLarge},
		} {
			l := slices.Clone(three)
			l[i].By = x.one
			m := these(in(l[i].N, x.two))
			want := slices.Clone(three)
			want[i].By = x.one + x.two
			if x.e != api.OK {
				want = nil
			}
			got, e := diff.Both(l, m)
			holds(t, "Both of "+edits(l)+" and "+edits(m), got, want, e, x.e)
			got, e = diff.Both(m, l)
			holds(t, "Both of "+edits(m)+" and "+edits(l), got, want, e, x.e)
			// All of them come to it, and it alone, while another one comes to 0.
			boths(t, alike(x.one, a, b, c), alike(x.two, a, b, c))
			j := (i + 1) % len(three)
			m = alike(-three[j].By, a, b, c)
			m[i].By = x.two
			boths(t, l, m)
		}
	}
}

func TestEditsRefused(t *testing.T) {
	more := append(mayBe(), mayNot()...)
	for i, l := range mayNot() {
		x, e := diff.Turn(l)
		holds(t, "Turn of "+edits(l), x, nil, e, api.ErrArg)
		for j, m := range more {
			// Most of them held against a few is enough.
			if j%7 != i%7 && len(m) > 1 {
				continue
			}
			x, e = diff.Both(l, m)
			holds(t, "Both of "+edits(l)+" and "+edits(m), x, nil, e, api.ErrArg)
			x, e = diff.Both(m, l)
			holds(t, "Both of "+edits(m)+" and "+edits(l), x, nil, e, api.ErrArg)
		}
	}
}

func TestWhichError(t *testing.T) {
	// Edits that may not be stand beside ones that come beyond: ahead of them, and behind.
	for _, x := range [][2][]api.Edit{
		{these(in(a, top), in(b, 0)), these(in(a, 1))}, {these(in(a, 0), in(b, top)), these(in(b, 1))}, {these(in(a, top)), these(in(a, 1), in(b, 0))},
		{these(in(a, -top), in(wrong[2], 1)), these(in(a, -1))}, {these(in(a, top)), these(in(wrong[0], 1), in(a, 1))},
		{these(in(b, top), in(a, 1)), these(in(b, 1))}, {these(in(b, top)), these(in(b, 1), in(a, 1))}, {these(in(a, top), in(a, 1)), nil},
		{these(in(a, -top), in(b, top+1)), these(in(a, -1))}, {these(in(a, top+1)), these(in(a, -1))}, {these(in(a, math.MaxInt)), these(in(a, math.MinInt))},
		{these(in(a, -top-1)), these(in(a, 1))}, {these(in(a, math.MaxInt)), these(in(a, 1))}, {these(in(a, math.MinInt)), these(in(a, math.MinInt))},
	} {
		for i := range x {
			l, m := x[i], x[1-i]
			got, e := diff.Both(l, m)
			holds(t, "Both of "+edits(l)+" and "+edits(m), got, nil, e, api.ErrArg)
		}
	}
}

func TestTurn(t *testing.T) {
	for _, x := range []struct{ l, want []api.Edit }{
		{nil, nil}, {these(), nil}, {these(in(a, 1)), these(in(a, -1))}, {these(in(a, -1)), these(in(a, 1))},
		{these(in(a, top)), these(in(a, -top))}, {these(in(a, -top)), these(in(a, top))},
		{these(in(a9, 2), in(a0, -3), in(b, 4)), these(in(a9, -2), in(a0, 3), in(b, -4))}, {alike(5, rising...), alike(-5, rising...)},
	} {
		got, e := diff.Turn(x.l)
		holds(t, "Turn of "+edits(x.l), got, x.want, e, api.OK)
	}
	for _, l := range append(mayBe(), mayNot()...) {
		turns(t, l)
	}
}

// P13.3

func TestCountsMeet(t *testing.T) {
	for _, old := range lists() {
		for _, now := range lists() {
			meets(t, old, now)
		}
	}
}

// meets holds that the count of old, and the diff, are the count of now, and that a diff turned about is that of now and old.
func meets(t *testing.T, old, now []api.Node) {
	t.Helper()
	there, back := diffs(t, old, now), diffs(t, now, old)
	if x := boths(t, counts(t, old), there); !equal(x, counts(t, now)) {
		t.Errorf("count of %s, and diff to %s: %s", nodes(old), nodes(now), edits(x))
	}
	if x := boths(t, there, counts(t, old)); !equal(x, counts(t, now)) {
		t.Errorf("diff to %s, and count of %s: %s", nodes(now), nodes(old), edits(x))
	}
	if x := turns(t, there); !equal(x, back) {
		t.Errorf("diff of %s and %s, turned about: %s, not %s", nodes(old), nodes(now), edits(x), edits(back))
	}
	if x := boths(t, there, back); len(x) > 0 {
		t.Errorf("diff of %s and %s, and back: %s", nodes(old), nodes(now), edits(x))
	}
}

func TestDiffsMeet(t *testing.T) {
	// From one list to another one by way of a third one is from the one to the other.
	for _, x := range lists() {
		for _, y := range lists()[:24] {
			for _, z := range lists()[12:] {
				one, _ := diff.Diff(x, y)
				two, _ := diff.Diff(y, z)
				want, _ := diff.Diff(x, z)
				if got, e := diff.Both(one, two); !equal(got, want) || e != api.OK {
					t.Errorf("diff of %s and %s by way of %s: %s, %d, not %s", nodes(x), nodes(z), nodes(y), edits(got), e, edits(want))
				}
			}
		}
	}
}

func TestEitherOrder(t *testing.T) {
	all := append(mayBe(), mayNot()...)
	for i, l := range all {
		for j, m := range all {
			if (i+j)%3 > 0 && len(l)+len(m) > 4 {
				continue
			}
			x, e := diff.Both(l, m)
			y, f := diff.Both(m, l)
			if !equal(x, y) || e != f {
				t.Errorf("Both of %s and %s: %s, %d, and the other way %s, %d", edits(l), edits(m), edits(x), e, edits(y), f)
			}
		}
	}
}

func TestThreeTogether(t *testing.T) {
	// In whatever order three are taken together, and whichever two of them first.
	l := [][]api.Edit{these(in(a, 1), in(b, -2)), these(in(a, -1), in(a9, 5), in(c, 1)), these(in(a9, -4), in(b, 2), in(d, 7))}
	want := these(in(a9, 1), in(c, 1), in(d, 7))
	orders(l, 0, func() {
		left := boths(t, boths(t, l[0], l[1]), l[2])
		right := boths(t, l[0], boths(t, l[1], l[2]))
		if !equal(left, want) || !equal(right, want) {
			t.Errorf("three together: %s, and %s", edits(left), edits(right))
		}
	})
}

func TestTurnedTwice(t *testing.T) {
	for _, l := range mayBe() {
		x := turns(t, l)
		if y := turns(t, x); !equal(y, l) {
			t.Errorf("%s turned twice: %s", edits(l), edits(y))
		}
		for _, y := range [][]api.Edit{boths(t, l, x), boths(t, x, l)} {
			if len(y) > 0 {
				t.Errorf("%s, and turned about: %s", edits(l), edits(y))
			}
		}
	}
}

func TestTurnedTogether(t *testing.T) {
	// Turned ahead of being taken together, or behind it, is the same, errors, too.
	for _, l := range mayBe() {
		for _, m := range mayBe() {
			x, e := diff.Both(turns(t, l), turns(t, m))
			y, f := diff.Both(l, m)
			y, _ = diff.Turn(y)
			if !equal(x, y) || e != f {
				t.Errorf("%s and %s: %s, %d, and %s, %d", edits(l), edits(m), edits(x), e, edits(y), f)
			}
		}
	}
}

// What holds of all

func TestChance(t *testing.T) {
	r := rand.New(rand.NewSource(113))
	some := func(most int) []api.Node {
		var l []api.Node
		for range r.Intn(most) {
			l = append(l, rising[r.Intn(len(rising))])
		}
		if r.Intn(12) == 0 {
			l = with(l, r.Intn(len(l)+1), wrong[r.Intn(len(wrong))])
		}
		return l
	}
	ways := []int{1, -1, 2, -2, top, -top, top - 1, -top + 1, 1, -1, 3, -3, 0, top + 1, math.MinInt}
	moves := func() []api.Edit {
		var l []api.Edit
		for _, n := range rising {
			if r.Intn(4) == 0 {
				l = append(l, in(n, ways[r.Intn(len(ways)-r.Intn(4))]))
			}
		}
		if len(l) > 1 && r.Intn(12) == 0 {
			i, j := r.Intn(len(l)), r.Intn(len(l))
			l[i], l[j] = l[j], l[i]
		}
		return l
	}
	for range 4000 {
		old, now := some(12), some(12)
		if allMay(old) && allMay(now) {
			meets(t, old, now)
		}
		counts(t, old)
		diffs(t, old, now)
		l, m := moves(), moves()
		if e := diff.Check(l); (e == api.OK) != fits(l) || e != api.OK && e != api.ErrArg {
			t.Errorf("Check of %s: %d", edits(l), e)
		}
		boths(t, l, m)
		turns(t, l)
	}
}

// roomy is a list in memory of its own, with room behind it that is its owner's, too.
func roomy[T any](l []T, v T) []T {
	x := slices.Grow(slices.Clone(l), 4)
	spoil(x[len(x):], v)
	return x
}

// spoil writes over all of a list, and over the room behind it.
func spoil[T any](l []T, v T) {
	l = l[:cap(l)]
	for i := range l {
		l[i] = v
	}
}

// whole is what there is of a list, and of the room behind it, in memory of its own.
func whole[T any](l []T) []T { return slices.Clone(l[:cap(l)]) }

// bad is what lists of edits are spoilt by.
var bad = in(of("spoilt", "v9.9.9"), -9)

func TestNodesUnchanged(t *testing.T) {
	for _, l := range append(lists(), list(wrong...), with(rising, 3, wrong[0])) {
		for _, m := range append(lists(), list(wrong...)) {
			old, now := roomy(l, bad.N), roomy(m, bad.N)
			wasOld, wasNow := whole(old), whole(now)
			x, _ := diff.Count(old)
			y, _ := diff.Diff(old, now)
			z, _ := diff.Diff(old, now)
			same := slices.Clone(z)
			spoil(x, bad)
			spoil(y, bad)
			if !slices.Equal(whole(old), wasOld) || !slices.Equal(whole(now), wasNow) || !equal(z, same) {
				t.Fatalf("%s and %s are %s and %s", nodes(wasOld), nodes(wasNow), nodes(whole(old)), nodes(whole(now)))
			}
			spoil(old, bad.N)
			spoil(now, bad.N)
			if !equal(z, same) {
				t.Fatalf("Diff of %s and %s shares with them", nodes(l), nodes(m))
			}
		}
	}
}

func TestEditsUnchanged(t *testing.T) {
	all := append(mayBe(), mayNot()...)
	for i, l := range all {
		for j, m := range all {
			if (i+j)%11 > 0 && len(l)+len(m) > 2 {
				continue
			}
			one, two := roomy(l, bad), roomy(m, bad)
			wasOne, wasTwo := whole(one), whole(two)
			diff.Check(one)
			answers := func() [][]api.Edit {
				x, _ := diff.Both(one, two)
				y, _ := diff.Turn(one)
				z, _ := diff.Turn(two)
				return [][]api.Edit{x, y, z}
			}
			first, again := answers(), answers()
			for k, x := range first {
				same := slices.Clone(again[k])
				spoil(x, bad)
				if !equal(whole(one), wasOne) || !equal(whole(two), wasTwo) || !equal(again[k], same) {
					t.Fatalf("%s and %s are %s and %s", edits(wasOne), edits(wasTwo), edits(whole(one)), edits(whole(two)))
				}
			}
			last := answers()
			spoil(one, bad)
			spoil(two, bad)
			for k, x := range last {
				if !equal(x, again[k]) {
					t.Fatalf("what is answered of %s and %s shares with them", edits(l), edits(m))
				}
			}
		}
	}
}

func TestOfItself(t *testing.T) {
	// One list as both arguments.
	for _, l := range lists() {
		if x := diffs(t, l, l); len(x) > 0 {
			t.Errorf("Diff of %s and itself: %s", nodes(l), edits(x))
		}
	}
	for _, l := range append(mayBe(), mayNot()...) {
		boths(t, l, l)
	}
}

func TestOfNothing(t *testing.T) {
	for _, l := range [][]api.Edit{nil, {}, make([]api.Edit, 0, 9)} {
		if e := diff.Check(l); e != api.OK {
			t.Errorf("Check(%#v): %d", l, e)
		}
		if x, e := diff.Turn(l); len(x) > 0 || e != api.OK {
			t.Errorf("Turn(%#v): %s, %d", l, edits(x), e)
		}
	}
	for _, l := range [][]api.Node{nil, {}, make([]api.Node, 0, 9)} {
		if x, e := diff.Count(l); len(x) > 0 || e != api.OK {
			t.Errorf("Count(%#v): %s, %d", l, edits(x), e)
		}
	}
}

func TestSameAgain(t *testing.T) {
	l, m := slices.Concat(rising, rising[4:9]), slices.Concat(rising[8:], rising[:12])
	var g sync.WaitGroup
	for range 8 {
		g.Go(func() {
			for range 20 {
				meets(t, l, m)
				turns(t, mixed(rising...))
			}
		})
	}
	g.Wait()
}

func TestMany(t *testing.T) {
	const many = 5000
	var old, now []api.Node
	var want []api.Edit
	for i := range many {
		n := of(fmt.Sprintf("m%06d", i/2), fmt.Sprint("v1.", 9+i%2, ".0"))
		old = append(old, slices.Repeat(list(n), i%3)...)
		now = append(now, slices.Repeat(list(n), 2)...)
		if i%3 < 2 {
			want = append(want, in(n, 2-i%3))
		}
	}
	slices.Reverse(now)
	x, e := diff.Diff(old, now)
	holds(t, "Diff of many", x, want, e, api.OK)
	count, _ := diff.Count(old)
	sum, e := diff.Both(count, x)
	want, _ = diff.Count(now)
	holds(t, "Both of many", sum, want, e, api.OK)
	if len(want) != many || want[0].By != 2 || want[many-1].By != 2 {
		t.Errorf("Count of many: %s", edits(want))
	}
	old[0] = wrong[0]
	if x, e := diff.Diff(old, now); len(x) > 0 || e != api.ErrArg {
		t.Errorf("Diff of many, and of one that may not be: %d edits, %d", len(x), e)
	}
}

func TestOften(t *testing.T) {
	const often = 1 << 20
	l := slices.Repeat(list(b, a9, a0), often)
	x, e := diff.Count(l)
	holds(t, "Count of what is often there", x, alike(often, a9, a0, b), e, api.OK)
	x, e = diff.Diff(l, l[:3*often-1])
	holds(t, "Diff of what is often there", x, these(in(a0, -1)), e, api.OK)
}

func TestLong(t *testing.T) {
	path := strings.Repeat("a/", 20000) + "a"
	long, longer := of(path, "v"+strings.Repeat("9", 20000)+".0.0"), of(path, "v1"+strings.Repeat("0", 20000)+".0.0")
	x := diffs(t, list(longer, a, longer), list(long, longer, b))
	if want := these(in(a, -1), in(long, 1), in(longer, -1), in(b, 1)); !equal(x, want) {
		t.Errorf("Diff of long ones: %s", edits(x))
	}
	if y := boths(t, x, these(in(longer, 1))); len(y) != 3 {
		t.Errorf("Both of long ones: %s", edits(y))
	}
	counts(t, list(longer, long, of(path, strings.Repeat("v", 20000))))
}
