package reach_test

import (
	"fmt"
	"math"
	"math/rand"
	"slices"
	"sync"
	"testing"

	"graftwood/api"
	"graftwood/reach"
)

// far is the greatest number.
const far = math.MaxInt

// in is a pair that is there so often.
func in(from, to, n int) api.Edge { return api.Edge{From: from, To: to, N: n} }

// lead are edges, each pair as often as it is told.
func lead(pairs ...pair) []api.Edge {
	m := map[pair]int{}
	for _, p := range pairs {
		m[p]++
	}
	return listed(m)
}

// shape is pairs, and what is reached by them.
type shape struct {
	name  string
	pairs []pair
	live  []int
}

// graph is a shape's.
func (s shape) graph() api.Graph { return api.Graph{Edges: lead(s.pairs...), Live: s.live} }

// shapes are ordinary graphs.
func shapes() []shape {
	return slices.Concat(lines(), circles(), []shape{
		{"nothing, nil", nil, nil},
		{"nothing, empty", []pair{}, []int{}},
		{"to itself, reached", []pair{{-1, 4}, {4, 4}}, []int{4}},
		{"to itself, not reached", []pair{{4, 4}}, nil},
		{"to itself, beside one that is reached", []pair{{-1, 3}, {4, 4}}, []int{3}},
		{"among what is not reached", []pair{{1, 2}, {2, 3}, {0, 3}}, nil},
		{"among what is not reached, beside one that is", []pair{{-1, 5}, {1, 2}, {2, 3}, {7, 3}}, []int{5}},
		{"from what is not reached to what is", []pair{{-1, 0}, {0, 2}, {1, 0}, {3, 2}, {3, 3}}, []int{0, 2}},
		{"twice there", []pair{{-1, 0}, {-1, 0}}, []int{0}},
		{"twice there, behind Root", []pair{{-1, 0}, {0, 1}, {0, 1}}, []int{0, 1}},
		{"twice there, not reached", []pair{{0, 1}, {0, 1}}, nil},
		{"thrice there, in a circle", []pair{{-1, 0}, {0, 1}, {0, 1}, {0, 1}, {1, 0}, {1, 0}, {1, 0}}, []int{0, 1}},
	})
}

// lines are shapes without circles.
func lines() []shape {
	return []shape{
		{"one from Root", []pair{{-1, 0}}, []int{0}},
		{"one from Root to a number above 0", []pair{{-1, 7}}, []int{7}},
		{"one from Root to the greatest number", []pair{{-1, far}}, []int{far}},
		{"three from Root", []pair{{-1, 0}, {-1, 4}, {-1, 9}}, []int{0, 4, 9}},
		{"one that Root does not lead to", []pair{{0, 1}}, nil},
		{"a chain", []pair{{-1, 0}, {0, 1}, {1, 2}, {2, 3}}, []int{0, 1, 2, 3}},
		{"a chain that falls", []pair{{-1, 3}, {3, 2}, {2, 1}, {1, 0}}, []int{0, 1, 2, 3}},
		{"a chain up and down", []pair{{-1, 2}, {2, 0}, {0, 3}, {3, 1}, {1, 10}}, []int{0, 1, 2, 3, 10}},
		{"a chain of great numbers", []pair{{-1, far}, {far, 0}, {0, far - 1}}, []int{0, far - 1, far}},
		{"a chain without Root", []pair{{0, 1}, {1, 2}, {2, 3}}, nil},
		{"a chain fed in the midst", []pair{{-1, 1}, {0, 1}, {1, 2}, {2, 3}}, []int{1, 2, 3}},
		{"a chain fed at its end", []pair{{-1, 3}, {0, 1}, {1, 2}, {2, 3}}, []int{3}},
		{"two ways", []pair{{-1, 0}, {0, 1}, {0, 2}, {1, 3}, {2, 3}}, []int{0, 1, 2, 3}},
		{"two ways from Root", []pair{{-1, 0}, {-1, 1}, {0, 2}, {1, 2}}, []int{0, 1, 2}},
		{"a long way, and a short one", []pair{{-1, 0}, {-1, 3}, {0, 1}, {1, 2}, {2, 3}, {3, 4}}, []int{0, 1, 2, 3, 4}},
		{"two ways, one not reached", []pair{{-1, 0}, {0, 3}, {1, 2}, {2, 3}}, []int{0, 3}},
	}
}

// circles are shapes with circles of two and more.
func circles() []shape {
	three := []pair{{0, 1}, {1, 2}, {2, 0}}
	eight := []pair{{0, 1}, {1, 0}, {0, 2}, {2, 0}}
	return []shape{
		{"two, fed at none", []pair{{0, 1}, {1, 0}}, nil},
		{"two, fed at one", []pair{{-1, 0}, {0, 1}, {1, 0}}, []int{0, 1}},
		{"two, fed at the other one", []pair{{-1, 1}, {0, 1}, {1, 0}}, []int{0, 1}},
		{"two, fed at two", []pair{{-1, 0}, {-1, 1}, {0, 1}, {1, 0}}, []int{0, 1}},
		{"two, fed from what is not reached", []pair{{0, 1}, {1, 0}, {5, 0}}, nil},
		{"three, fed at none", three, nil},
		{"three, fed at one", append([]pair{{-1, 0}}, three...), []int{0, 1, 2}},
		{"three, fed at the last one", append([]pair{{-1, 2}}, three...), []int{0, 1, 2}},
		{"three, fed at two", append([]pair{{-1, 0}, {-1, 1}}, three...), []int{0, 1, 2}},
		{"three, fed at none, beside one that is reached", append([]pair{{-1, 4}}, three...), []int{4}},
		{"three, fed from behind a chain, and one that hangs on it", append([]pair{{-1, 5}, {5, 6}, {6, 1}, {2, 4}}, three...), []int{0, 1, 2, 4, 5, 6}},
		{"five, the other way about", []pair{{-1, 2}, {0, 4}, {4, 3}, {3, 2}, {2, 1}, {1, 0}}, []int{0, 1, 2, 3, 4}},
		{"two that share a number, fed there", append([]pair{{-1, 0}}, eight...), []int{0, 1, 2}},
		{"two that share a number, fed elsewhere", append([]pair{{-1, 2}}, eight...), []int{0, 1, 2}},
		{"two that share a number, fed at none", eight, nil},
		{"one that leads to another one", []pair{{-1, 0}, {0, 1}, {1, 0}, {1, 2}, {2, 3}, {3, 2}}, []int{0, 1, 2, 3}},
		{"one that another one leads to", []pair{{-1, 2}, {0, 1}, {1, 0}, {1, 2}, {2, 3}, {3, 2}}, []int{2, 3}},
		{"one to itself in one of two", []pair{{-1, 0}, {0, 0}, {0, 1}, {1, 1}, {1, 0}}, []int{0, 1}},
	}
}

// graphs are some that may be.
func graphs() []api.Graph {
	l := []api.Graph{{}, {Edges: []api.Edge{}, Live: []int{}}, {Edges: make([]api.Edge, 0, 3), Live: make([]int, 0, 3)}}
	for _, s := range shapes() {
		l = append(l, s.graph())
	}
	return append(l,
		api.Graph{Edges: []api.Edge{in(-1, 0, top)}, Live: []int{0}}, api.Graph{Edges: []api.Edge{in(0, 1, top)}},
		api.Graph{Edges: []api.Edge{in(-1, 1, top-1), in(1, 1, top), in(1, 2, 2), in(3, 0, top)}, Live: []int{1, 2}},
	)
}

// wrongEdges are edges that may not be.
func wrongEdges() [][]api.Edge {
	l := [][]api.Edge{
		// out of order by From, and by To, first, in the midst and last
		{in(0, 1, 1), in(-1, 0, 1)}, {in(-1, 1, 1), in(-1, 0, 1)}, {in(0, 0, 1), in(-1, 0, 1), in(1, 0, 1)},
		{in(-1, 0, 1), in(1, 2, 1), in(0, 1, 1), in(2, 3, 1)}, {in(-1, 0, 1), in(0, 2, 1), in(0, 1, 1), in(1, 0, 1)},
		{in(-1, 0, 1), in(0, 1, 1), in(2, 3, 1), in(1, 2, 1)}, {in(-1, 0, 1), in(0, 1, 1), in(0, 3, 1), in(0, 2, 1)},
		// a pair twice, as often and not, side by side and not
		{in(-1, 0, 1), in(-1, 0, 1)}, {in(-1, 0, 1), in(-1, 0, 2)}, {in(-1, 0, 1), in(-1, 0, 1), in(0, 1, 1)}, {in(3, 3, 1), in(3, 3, 1)},
		{in(-1, 0, 1), in(0, 1, 1), in(0, 1, 1), in(1, 2, 1)}, {in(-1, 0, 1), in(0, 1, 1), in(1, 2, 1), in(1, 2, 1)},
		{in(-1, 0, 1), in(0, 1, 1), in(-1, 0, 1)},
	}
	three := []api.Edge{in(-1, 0, 1), in(0, 1, 1), in(1, 2, 1)}
	for _, n := range []int{0, -1, -top, math.MinInt, top + 1, 1 << 41, far} {
		l = append(l, []api.Edge{in(-1, 0, n)}, []api.Edge{in(5, 5, n)})
		for i := range three {
			x := slices.Clone(three)
			x[i].N = n
			l = append(l, x)
		}
	}
	for _, p := range []pair{{-2, 0}, {-3, 3}, {math.MinInt, 0}, {-1, -1}, {0, -1}, {9, -1}, {9, math.MinInt}, {-2, -2}} {
		e := in(p[0], p[1], 1)
		l = append(l, []api.Edge{e})
		for i := range 4 {
			l = append(l, slices.Insert(slices.Clone(three), i, e))
		}
	}
	return append(l, []api.Edge{{}})
}

// wrongLive are lists other than what is reached.
func wrongLive(l []int) [][]int {
	var out [][]int
	for i := range l {
		// one too few, one twice, and one that stands where another one is to
		out = append(out, slices.Delete(slices.Clone(l), i, i+1), slices.Insert(slices.Clone(l), i, l[i]), append(slices.Clone(l), l[i]))
		for j := range i {
			x := slices.Clone(l)
			x[i], x[j] = x[j], x[i]
			y := slices.Clone(l)
			y[i] = y[j]
			out = append(out, x, y)
		}
	}
	for _, n := range []int{math.MinInt, -2, -1, 0, 1, 2, 3, 4, 5, 8, far - 1, far} {
		// one too many, where it would stand, and elsewhere
		if at, there := slices.BinarySearch(l, n); !there {
			out = append(out, slices.Insert(slices.Clone(l), at, n), append([]int{n}, l...), append(slices.Clone(l), n))
		}
	}
	return out
}

// wrongGraphs are some that may not be.
func wrongGraphs() []api.Graph {
	var l []api.Graph
	for _, s := range shapes() {
		for _, live := range wrongLive(s.live) {
			l = append(l, api.Graph{Edges: lead(s.pairs...), Live: slices.Clip(live)})
		}
	}
	for _, edges := range wrongEdges() {
		// what would be reached, if they might be, and other lists
		for _, live := range [][]int{live(edges), nil, {}, {0}, {0, 1}, {0, 1, 2}} {
			l = append(l, api.Graph{Edges: edges, Live: live})
		}
	}
	return slices.DeleteFunc(l, may)
}

// around are pairs of a graph's, and some beside them, some of which may not be.
func around(l []api.Edge) []pair {
	out := []pair{
		{-1, 0}, {-1, 1}, {0, 0}, {0, 1}, {1, 0}, {2, 1}, {9, 9}, {-1, far}, {far, 0}, {far, far},
		{-2, 0}, {0, -1}, {-1, -1}, {math.MinInt, 0}, {0, math.MinInt},
	}
	for _, e := range l {
		out = append(out, pair{e.From, e.To}, pair{e.To, e.From}, pair{-1, e.To}, pair{e.To, e.To})
	}
	return out
}

// holds holds what a call answers against what it is to: without an error it is a graph that may be.
func holds(t *testing.T, what string, got, want api.Graph, l, wantL []int, e, no api.Errno) {
	t.Helper()
	if !alike(got, want) || !equal(l, wantL) || e != no || e == api.OK && reach.Check(got) != api.OK {
		t.Errorf("%s: %v, %d, %d, not %v, %d, %d", what, got, l, e, want, wantL, no)
	}
}

// links adds a pair, and holds what comes against the definition.
func links(t *testing.T, g api.Graph, p pair) (api.Graph, api.Errno) {
	t.Helper()
	x, came, e := reach.Link(g, p[0], p[1])
	want, wantCame, no := linked(g, p)
	holds(t, fmt.Sprintf("Link of %d to %v", p, g), x, want, came, wantCame, e, no)
	return x, e
}

// unlinks drops a pair, and holds what goes against the definition.
func unlinks(t *testing.T, g api.Graph, p pair) (api.Graph, api.Errno) {
	t.Helper()
	x, gone, e := reach.Unlink(g, p[0], p[1])
	want, wantGone, no := unlinked(g, p)
	holds(t, fmt.Sprintf("Unlink of %d from %v", p, g), x, want, gone, wantGone, e, no)
	return x, e
}

// P15.1

func TestOf(t *testing.T) {
	for _, s := range shapes() {
		l := lead(s.pairs...)
		g, e := reach.Of(l)
		holds(t, "Of "+s.name, g, api.Graph{Edges: l, Live: s.live}, nil, nil, e, api.OK)
		// How often a pair is there plays no part in what is reached.
		for i := range l {
			l[i].N = top - i
		}
		g, e = reach.Of(l)
		holds(t, "Of "+s.name+", often", g, api.Graph{Edges: l, Live: s.live}, nil, nil, e, api.OK)
	}
}

func TestOfWrongEdges(t *testing.T) {
	for _, l := range wrongEdges() {
		if g, e := reach.Of(l); !alike(g, api.Graph{}) || e != api.ErrArg || fits(l) {
			t.Errorf("Of edges that may not be, %v: %v, %d", l, g, e)
		}
	}
}

func TestCheck(t *testing.T) {
	for _, g := range graphs() {
		if e := reach.Check(g); e != api.OK || !may(g) {
			t.Errorf("Check of what may be, %v: %d", g, e)
		}
	}
	for _, g := range wrongGraphs() {
		if e := reach.Check(g); e != api.ErrArg {
			t.Errorf("Check of what may not be, %v: %d", g, e)
		}
	}
}

func TestCheckOfLive(t *testing.T) {
	fed := lead(pair{-1, 1}, pair{1, 3}, pair{3, 1}, pair{5, 7})
	if e := reach.Check(api.Graph{Edges: fed, Live: []int{1, 3}}); e != api.OK {
		t.Errorf("Check of what may be: %d", e)
	}
	for _, live := range [][]int{
		// too few, out of order, one twice, Root, and too many
		nil, {}, {1}, {3}, {3, 1}, {1, 1}, {3, 3}, {1, 1, 3}, {1, 3, 3}, {1, 3, 1}, {-1, 1, 3}, {1, 3, -1}, {math.MinInt, 1, 3},
		{0, 1, 3}, {1, 2, 3}, {1, 3, 5}, {1, 3, 7}, {1, 3, 5, 7}, {1, 3, far}, {5, 7}, {1, 4}, {1, far},
	} {
		if e := reach.Check(api.Graph{Edges: fed, Live: live}); e != api.ErrArg {
			t.Errorf("Check of %v, Live %d: %d", fed, live, e)
		}
	}
}

func TestSame(t *testing.T) {
	all := append(graphs(), wrongGraphs()...)
	for i, a := range all {
		for _, b := range all[max(0, i-40):min(i+40, len(all))] {
			if reach.Same(a, b) != alike(a, b) {
				t.Errorf("Same(%v, %v): %v", a, b, reach.Same(a, b))
			}
		}
		if !reach.Same(a, api.Graph{Edges: slices.Clone(a.Edges), Live: slices.Clone(a.Live)}) {
			t.Errorf("Same of %v and itself", a)
		}
	}
}

func TestSameOfOnePart(t *testing.T) {
	g := api.Graph{Edges: []api.Edge{in(-1, 0, 1), in(0, 2, 3), in(2, 4, 5)}, Live: []int{0, 2, 4}}
	var others []api.Graph
	for i := range g.Edges {
		for _, by := range []func(e *api.Edge){func(e *api.Edge) { e.From++ }, func(e *api.Edge) { e.To++ }, func(e *api.Edge) { e.N++ }} {
			l := slices.Clone(g.Edges)
			by(&l[i])
			others = append(others, api.Graph{Edges: l, Live: g.Live})
		}
		others = append(others, api.Graph{Edges: g.Edges[:i], Live: g.Live}, api.Graph{Edges: g.Edges[i+1:], Live: g.Live})
	}
	for _, live := range [][]int{nil, {}, {0}, {0, 2}, {2, 4}, {0, 2, 5}, {1, 2, 4}, {0, 3, 4}, {0, 4, 2}, {0, 2, 4, 4}, {0, 2, 4, 5}} {
		others = append(others, api.Graph{Edges: g.Edges, Live: live})
	}
	for _, x := range append(others, api.Graph{Edges: append(slices.Clone(g.Edges), in(9, 9, 1)), Live: g.Live}) {
		if reach.Same(g, x) || reach.Same(x, g) || !reach.Same(x, x) {
			t.Errorf("Same of %v and %v", g, x)
		}
	}
	for _, x := range []api.Graph{{}, {Edges: g.Edges}, {Live: g.Live}} {
		// A nil list, and one of nothing, are the same.
		if y := (api.Graph{Edges: append([]api.Edge{}, x.Edges...), Live: append([]int{}, x.Live...)}); !reach.Same(x, y) || !reach.Same(y, x) {
			t.Errorf("Same of nil lists, and of lists of nothing: %v", x)
		}
	}
}

// P15.2

func TestExamples(t *testing.T) {
	l := []api.Edge{in(-1, 0, 1), in(0, 1, 1), in(1, 0, 1)}
	g, e := reach.Of(l)
	holds(t, "from Root to 0, 0 to 1, 1 to 0", g, api.Graph{Edges: l, Live: []int{0, 1}}, nil, nil, e, api.OK)
	x, gone, e := reach.Unlink(g, api.Root, 0)
	holds(t, "without the first one", x, api.Graph{Edges: l[1:]}, gone, []int{0, 1}, e, api.OK)
	g, _ = reach.Of([]api.Edge{in(-1, 0, 2), in(0, 1, 1)})
	x, gone, e = reach.Unlink(g, api.Root, 0)
	holds(t, "one that is there twice, once less", x, api.Graph{Edges: []api.Edge{in(-1, 0, 1), in(0, 1, 1)}, Live: []int{0, 1}}, gone, nil, e, api.OK)
}

func TestLink(t *testing.T) {
	far3 := []pair{{1, 2}, {2, 3}, {3, 5}, {4, 0}}
	for _, x := range []struct {
		name       string
		pairs      []pair
		p          pair
		came, live []int
	}{
		{"to nothing, from Root", nil, pair{-1, 0}, []int{0}, []int{0}},
		{"to nothing, from a number", nil, pair{0, 1}, nil, nil},
		{"to nothing, to itself", nil, pair{0, 0}, nil, nil},
		{"that is new, from what is reached", []pair{{-1, 0}}, pair{0, 1}, []int{1}, []int{0, 1}},
		{"that is there, from what is reached", []pair{{-1, 0}, {0, 1}}, pair{0, 1}, nil, []int{0, 1}},
		{"that is there, from Root", []pair{{-1, 0}}, pair{-1, 0}, nil, []int{0}},
		{"that is new, from what is not reached", []pair{{-1, 0}}, pair{1, 2}, nil, []int{0}},
		{"that is there, from what is not reached", []pair{{-1, 0}, {1, 2}}, pair{1, 2}, nil, []int{0}},
		{"from what is not reached to what is", []pair{{-1, 0}}, pair{1, 0}, nil, []int{0}},
		{"from what is not reached, from which more is", append(far3, pair{-1, 9}), pair{7, 1}, nil, []int{9}},
		{"to what is reached already", []pair{{-1, 0}, {-1, 1}}, pair{0, 1}, nil, []int{0, 1}},
		{"from Root to what is reached already", []pair{{-1, 0}, {0, 1}}, pair{-1, 1}, nil, []int{0, 1}},
		{"from which more is reached", far3, pair{-1, 1}, []int{1, 2, 3, 5}, []int{1, 2, 3, 5}},
		{"from which more is reached, in the midst", far3, pair{-1, 2}, []int{2, 3, 5}, []int{2, 3, 5}},
		{"from which more is reached, beside what is", append(far3, pair{-1, 4}), pair{0, 1}, []int{1, 2, 3, 5}, []int{0, 1, 2, 3, 4, 5}},
		{"from which more is reached, some of it already", append(far3, pair{-1, 3}), pair{3, 1}, []int{1, 2}, []int{1, 2, 3, 5}},
		{"from which more is reached, falling", []pair{{-1, 9}, {8, 6}, {6, 7}, {7, 1}}, pair{9, 8}, []int{1, 6, 7, 8}, []int{1, 6, 7, 8, 9}},
		{"to itself, reached", []pair{{-1, 0}, {0, 1}}, pair{1, 1}, nil, []int{0, 1}},
		{"to itself, not reached", []pair{{-1, 0}, {2, 1}}, pair{2, 2}, nil, []int{0}},
		{"that closes a circle, reached", []pair{{-1, 0}, {0, 1}, {1, 2}}, pair{2, 0}, nil, []int{0, 1, 2}},
		{"that closes a circle, not reached", []pair{{-1, 5}, {0, 1}, {1, 2}}, pair{2, 0}, nil, []int{5}},
		{"that feeds a circle", []pair{{0, 1}, {1, 2}, {2, 0}}, pair{-1, 1}, []int{0, 1, 2}, []int{0, 1, 2}},
		{"that feeds a circle at another place, too", []pair{{-1, 0}, {0, 1}, {1, 2}, {2, 0}}, pair{-1, 1}, nil, []int{0, 1, 2}},
		{"that feeds circles that share a number", []pair{{-1, 4}, {0, 1}, {1, 0}, {0, 2}, {2, 0}}, pair{4, 2}, []int{0, 1, 2}, []int{0, 1, 2, 4}},
		{"of the greatest number", []pair{{-1, 3}, {far, 0}}, pair{3, far}, []int{0, far}, []int{0, 3, far}},
	} {
		was, e := reach.Of(lead(x.pairs...))
		g, came, no := reach.Link(was, x.p[0], x.p[1])
		want := api.Graph{Edges: lead(append(slices.Clone(x.pairs), x.p)...), Live: x.live}
		holds(t, "Link "+x.name, g, want, came, x.came, no, e)
		links(t, was, x.p)
	}
}

func TestUnlink(t *testing.T) {
	hang := []pair{{-1, 9}, {9, 1}, {1, 2}, {2, 3}, {3, 5}, {4, 0}}
	circle := []pair{{-1, 0}, {0, 1}, {1, 2}, {2, 0}, {2, 4}}
	two := append([]pair{{-1, 1}}, circle...)
	eight := []pair{{-1, 4}, {4, 2}, {0, 1}, {1, 0}, {0, 2}, {2, 0}}
	for _, x := range []struct {
		name       string
		pairs      []pair
		p          pair
		gone, live []int
	}{
		{"that is there twice", append([]pair{{9, 1}}, hang...), pair{9, 1}, nil, []int{1, 2, 3, 5, 9}},
		{"from Root, that is there twice", append([]pair{{-1, 9}}, hang...), pair{-1, 9}, nil, []int{1, 2, 3, 5, 9}},
		{"that is there thrice, and feeds a circle", append([]pair{{-1, 0}, {-1, 0}}, circle...), pair{-1, 0}, nil, []int{0, 1, 2, 4}},
		{"that is there twice in a circle", append([]pair{{0, 1}}, circle...), pair{0, 1}, nil, []int{0, 1, 2, 4}},
		{"that is there once, from Root", hang, pair{-1, 9}, []int{1, 2, 3, 5, 9}, nil},
		{"that is there once", hang, pair{9, 1}, []int{1, 2, 3, 5}, []int{9}},
		{"that is there once, the last one", hang, pair{3, 5}, []int{5}, []int{1, 2, 3, 9}},
		{"alone", []pair{{-1, 0}}, pair{-1, 0}, []int{0}, nil},
		{"of one of two ways", []pair{{-1, 0}, {-1, 1}, {0, 2}, {1, 2}}, pair{0, 2}, nil, []int{0, 1, 2}},
		{"ahead of one of two ways", []pair{{-1, 0}, {-1, 1}, {0, 2}, {1, 2}, {2, 3}}, pair{-1, 0}, []int{0}, []int{1, 2, 3}},
		{"that falls", []pair{{-1, 9}, {9, 8}, {8, 6}, {6, 7}, {7, 1}}, pair{9, 8}, []int{1, 6, 7, 8}, []int{9}},
		{"that alone feeds a circle of two", []pair{{-1, 0}, {0, 1}, {1, 0}}, pair{-1, 0}, []int{0, 1}, nil},
		{"that alone feeds a circle", circle, pair{-1, 0}, []int{0, 1, 2, 4}, nil},
		{"that alone feeds circles that share a number", eight, pair{4, 2}, []int{0, 1, 2}, []int{4}},
		{"that alone feeds one to itself", []pair{{-1, 7}, {7, 7}}, pair{-1, 7}, []int{7}, nil},
		{"that feeds a circle, too", two, pair{-1, 0}, nil, []int{0, 1, 2, 4}},
		{"that feeds a circle at the other place", two, pair{-1, 1}, nil, []int{0, 1, 2, 4}},
		{"within a circle", circle, pair{1, 2}, []int{2, 4}, []int{0, 1}},
		{"that closes a circle", circle, pair{2, 0}, nil, []int{0, 1, 2, 4}},
		{"that begins a circle", circle, pair{0, 1}, []int{1, 2, 4}, []int{0}},
		{"within a circle that is fed at two places", two, pair{0, 1}, nil, []int{0, 1, 2, 4}},
		{"within a circle, behind where it is fed", two, pair{1, 2}, []int{2, 4}, []int{0, 1}},
		{"within a circle that shares a number", eight, pair{0, 1}, []int{1}, []int{0, 2, 4}},
		{"to where circles share a number", eight, pair{2, 0}, []int{0, 1}, []int{2, 4}},
		{"from what is not reached", hang, pair{4, 0}, nil, []int{1, 2, 3, 5, 9}},
		{"from what is not reached to what is", append([]pair{{4, 1}}, hang...), pair{4, 1}, nil, []int{1, 2, 3, 5, 9}},
		{"within a circle that is not reached", []pair{{-1, 3}, {0, 1}, {1, 0}}, pair{0, 1}, nil, []int{3}},
		{"to itself, not reached", []pair{{2, 2}}, pair{2, 2}, nil, nil},
		{"to itself", []pair{{-1, 7}, {7, 7}}, pair{7, 7}, nil, []int{7}},
		{"of the greatest number", []pair{{-1, 3}, {3, far}, {far, 0}}, pair{3, far}, []int{0, far}, []int{3}},
	} {
		was, e := reach.Of(lead(x.pairs...))
		g, gone, no := reach.Unlink(was, x.p[0], x.p[1])
		at := slices.Index(x.pairs, x.p)
		want := api.Graph{Edges: lead(slices.Delete(slices.Clone(x.pairs), at, at+1)...), Live: x.live}
		holds(t, "Unlink "+x.name, g, want, gone, x.gone, no, e)
		unlinks(t, was, x.p)
	}
}

func TestEach(t *testing.T) {
	for _, g := range append(graphs(), wrongGraphs()...) {
		for _, p := range around(g.Edges) {
			links(t, g, p)
			unlinks(t, g, p)
		}
	}
}

// refused holds a call's error against one, and what stands beside it against the graph as it was, and nothing.
func refused(t *testing.T, what string, call func(g api.Graph, from, to int) (api.Graph, []int, api.Errno), g api.Graph, p pair, want api.Errno) {
	t.Helper()
	if x, l, e := call(g, p[0], p[1]); !alike(x, g) || len(l) > 0 || e != want {
		t.Errorf("%s of %d, %v: %v, %d, %d, not %d", what, p, g, x, l, e, want)
	}
}

func TestWrongEnds(t *testing.T) {
	for _, g := range graphs() {
		for _, p := range []pair{
			{-2, 0}, {-2, 1}, {-3, 0}, {math.MinInt, 0}, {-top, far}, {-1, -1}, {0, -1}, {1, -1}, {0, -2}, {far, -1},
			{0, math.MinInt}, {-1, math.MinInt}, {-2, -1}, {math.MinInt, math.MinInt},
		} {
			refused(t, "Link", reach.Link, g, p, api.ErrArg)
			refused(t, "Unlink", reach.Unlink, g, p, api.ErrArg)
		}
	}
}

func TestNoneThere(t *testing.T) {
	for _, g := range graphs() {
		for _, p := range around(g.Edges) {
			if able(p) && counts(g.Edges)[p] == 0 {
				refused(t, "Unlink", reach.Unlink, g, p, api.ErrNone)
			}
		}
	}
	g := api.Graph{Edges: lead(pair{-1, 0}, pair{0, 1}, pair{1, 0}, pair{3, 1}), Live: []int{0, 1}}
	// with both ends there but not together, the other way about, with one end there alone, and with neither
	for _, p := range []pair{{-1, 1}, {0, 0}, {1, 1}, {1, 3}, {3, 0}, {0, 3}, {2, 1}, {0, 2}, {-1, 2}, {5, 6}, {far, far}} {
		refused(t, "Unlink", reach.Unlink, g, p, api.ErrNone)
	}
}

func TestAsOftenAsMayBe(t *testing.T) {
	full := api.Graph{Edges: []api.Edge{in(-1, 0, top), in(0, 1, top-1), in(1, 1, top), in(5, 6, top)}, Live: []int{0, 1}}
	for _, p := range []pair{{-1, 0}, {1, 1}, {5, 6}} {
		refused(t, "Link", reach.Link, full, p, api.ErrLarge)
		x, e := unlinks(t, full, p)
		if e != api.OK || counts(x.Edges)[p] != top-1 {
			t.Errorf("Unlink of %d, that is there as often as may be: %v, %d", p, x, e)
		}
		if x, e = links(t, x, p); e != api.OK || !reach.Same(x, full) {
			t.Errorf("Link of %d, once less often there than may be: %v, %d", p, x, e)
		}
	}
	x, e := links(t, full, pair{0, 1})
	if e != api.OK || counts(x.Edges)[pair{0, 1}] != top {
		t.Errorf("Link up to as often as may be: %v, %d", x, e)
	}
	refused(t, "Link", reach.Link, x, pair{0, 1}, api.ErrLarge)
	// A pair beside one that is there as often as may be.
	if x, came, e := reach.Link(full, 0, 5); e != api.OK || !equal(came, []int{5, 6}) {
		t.Errorf("Link beside full ones: %v, %d, %d", x, came, e)
	}
}

func TestWrongGraphs(t *testing.T) {
	for _, g := range wrongGraphs() {
		for _, p := range around(g.Edges) {
			refused(t, "Link", reach.Link, g, p, api.ErrArg)
			refused(t, "Unlink", reach.Unlink, g, p, api.ErrArg)
		}
	}
}

func TestWhichError(t *testing.T) {
	// A pair that is there as often as may be, and one that is not there, of a graph that may not be.
	full := in(-1, 0, top)
	for _, g := range []api.Graph{
		{Edges: []api.Edge{full}},
		{Edges: []api.Edge{full}, Live: []int{0, 1}},
		{Edges: []api.Edge{full}, Live: []int{0, 0}},
		{Edges: []api.Edge{full}, Live: []int{1}},
		{Edges: []api.Edge{full, in(0, 1, 1)}, Live: []int{1, 0}},
		{Edges: []api.Edge{full, full}, Live: []int{0}},
		{Edges: []api.Edge{full, in(0, 1, 0)}, Live: []int{0, 1}},
		{Edges: []api.Edge{full, in(0, 1, top+1)}, Live: []int{0, 1}},
		{Edges: []api.Edge{full, in(2, -1, 1)}, Live: []int{0}},
		{Edges: []api.Edge{in(-2, 3, 1), full}, Live: []int{0}},
		{Edges: []api.Edge{in(0, 1, 1), full}, Live: []int{0, 1}},
	} {
		for _, p := range []pair{{-1, 0}, {7, 7}, {-2, 0}, {0, -1}} {
			refused(t, "Link", reach.Link, g, p, api.ErrArg)
			refused(t, "Unlink", reach.Unlink, g, p, api.ErrArg)
		}
	}
	// Ends that may not be are never there.
	refused(t, "Unlink", reach.Unlink, api.Graph{}, pair{-2, 0}, api.ErrArg)
	refused(t, "Unlink", reach.Unlink, api.Graph{}, pair{0, -1}, api.ErrArg)
	refused(t, "Unlink", reach.Unlink, api.Graph{}, pair{-1, 0}, api.ErrNone)
}

// P15.3

// small are all graphs of pairs from Root and so many numbers to these, each there once.
func small(numbers int, see func(g api.Graph)) {
	var all []pair
	for from := -1; from < numbers; from++ {
		for to := range numbers {
			all = append(all, pair{from, to})
		}
	}
	for bits := range 1 << len(all) {
		var pairs []pair
		for i, p := range all {
			if bits>>i&1 > 0 {
				pairs = append(pairs, p)
			}
		}
		g, _ := of(lead(pairs...))
		see(g)
	}
}

func TestEachSmallGraph(t *testing.T) {
	small(3, func(g api.Graph) {
		x, e := reach.Of(g.Edges)
		holds(t, fmt.Sprintf("Of %v", g.Edges), x, g, nil, nil, e, api.OK)
		for bits := range 8 {
			var l []int
			for n := range 3 {
				if bits>>n&1 > 0 {
					l = append(l, n)
				}
			}
			if e := reach.Check(api.Graph{Edges: g.Edges, Live: l}); e == api.OK != equal(l, g.Live) {
				t.Errorf("Check of %v with %d: %d", g, l, e)
			}
		}
		for from := -1; from < 3; from++ {
			for to := range 3 {
				links(t, g, pair{from, to})
				unlinks(t, g, pair{from, to})
			}
		}
	})
}

func TestMoreReachNoLess(t *testing.T) {
	small(2, func(g api.Graph) {
		small(2, func(h api.Graph) {
			m := counts(g.Edges)
			for p, n := range counts(h.Edges) {
				m[p] += n
			}
			x, e := reach.Of(listed(m))
			if lost := beside(append(slices.Clone(g.Live), h.Live...), x.Live); e != api.OK || len(lost) > 0 {
				t.Errorf("%v and %v: %v, %d, without %d", g, h, x, e, lost)
			}
		})
	})
	for _, g := range graphs() {
		for _, p := range around(g.Edges) {
			x, came, _ := reach.Link(g, p[0], p[1])
			if lost := beside(g.Live, x.Live); len(lost) > 0 || len(beside(came, g.Live)) < len(came) {
				t.Errorf("Link of %d to %v: %v, %d, without %d", p, g, x, came, lost)
			}
			x, gone, _ := reach.Unlink(g, p[0], p[1])
			if won := beside(x.Live, g.Live); len(won) > 0 || len(beside(gone, g.Live)) > 0 {
				t.Errorf("Unlink of %d from %v: %v, %d, with %d", p, g, x, gone, won)
			}
		}
	}
}

func TestLinkedAndUnlinked(t *testing.T) {
	for _, g := range graphs() {
		for _, p := range around(g.Edges) {
			if x, came, e := reach.Link(g, p[0], p[1]); e == api.OK {
				y, gone, e := reach.Unlink(x, p[0], p[1])
				holds(t, fmt.Sprintf("Link of %d to %v, and Unlink", p, g), y, g, gone, came, e, api.OK)
			}
			if x, gone, e := reach.Unlink(g, p[0], p[1]); e == api.OK {
				y, came, e := reach.Link(x, p[0], p[1])
				holds(t, fmt.Sprintf("Unlink of %d from %v, and Link", p, g), y, g, came, gone, e, api.OK)
			}
		}
	}
}

// orders tries each order of what stands from a place on.
func orders[T any](l []T, from int, try func()) {
	if from == len(l) {
		try()
		return
	}
	for i := from; i < len(l); i++ {
		l[from], l[i] = l[i], l[from]
		orders(l, from+1, try)
		l[from], l[i] = l[i], l[from]
	}
}

func TestEachOrder(t *testing.T) {
	for _, pairs := range [][]pair{
		{{-1, 0}, {0, 1}, {1, 2}, {2, 0}, {-1, 2}, {0, 1}}, {{-1, 0}, {0, 1}, {1, 0}, {1, 2}, {2, 3}, {3, 2}},
		{{-1, 4}, {4, 2}, {2, 0}, {0, 2}, {0, 0}}, {{1, 2}, {2, 1}, {1, 1}, {-1, 3}}, {{-1, 0}, {-1, 0}, {-1, 1}, {0, 1}, {1, 0}},
	} {
		all, _ := reach.Of(lead(pairs...))
		orders(pairs, 0, func() {
			up, down := api.Graph{}, all
			for i, p := range pairs {
				up, _ = links(t, up, p)
				down, _ = unlinks(t, down, p)
				x, _ := reach.Of(lead(pairs[:i+1]...))
				y, _ := reach.Of(lead(pairs[i+1:]...))
				if !reach.Same(up, x) || !reach.Same(down, y) {
					t.Fatalf("%d of %d: %v and %v, not %v and %v", i+1, pairs, up, down, x, y)
				}
			}
			if !reach.Same(up, all) || !reach.Same(down, api.Graph{}) {
				t.Fatalf("%d: %v and %v", pairs, up, down)
			}
		})
	}
}

func TestComeAndGo(t *testing.T) {
	for seed := range 80 {
		r := rand.New(rand.NewSource(int64(seed)))
		numbers := 2 + seed%8
		g := api.Graph{}
		m := map[pair]int{}
		for range 150 {
			p := pair{r.Intn(numbers+1) - 1, r.Intn(numbers)}
			if r.Intn(12) == 0 {
				// What may not be plays no part.
				p = pair{r.Intn(3) - 3, r.Intn(3) - 3}
			}
			if r.Intn(2) == 0 {
				x, e := links(t, g, p)
				if g = x; e == api.OK {
					m[p]++
				}
			} else {
				x, e := unlinks(t, g, p)
				if g = x; e == api.OK {
					m[p]--
				}
			}
			if x, e := reach.Of(listed(m)); !reach.Same(g, x) || e != api.OK {
				t.Fatalf("what came, and went: %v, and from the beginning: %v, %d", g, x, e)
			}
		}
	}
}

// What holds of all

func TestChance(t *testing.T) {
	r := rand.New(rand.NewSource(115))
	often := []int{1, 1, 2, 3, top - 1, top}
	odd := []int{0, -1, top + 1, math.MinInt, far}
	for range 20000 {
		m := map[pair]int{}
		for range r.Intn(12) {
			m[pair{r.Intn(7) - 1, r.Intn(6)}] = often[r.Intn(len(often))]
		}
		g, _ := of(listed(m))
		if n := len(g.Edges); n > 0 && r.Intn(6) == 0 {
			g.Edges[r.Intn(n)].N = odd[r.Intn(len(odd))]
		}
		if n := len(g.Live); r.Intn(6) == 0 {
			g.Live = slices.Insert(g.Live, r.Intn(n+1), r.Intn(8)-1)
		} else if n > 0 && r.Intn(6) == 0 {
			g.Live = slices.Delete(g.Live, n-1, n)
		}
		if e := reach.Check(g); (e == api.OK) != may(g) || e != api.OK && e != api.ErrArg {
			t.Errorf("Check(%v): %d", g, e)
		}
		x, e := reach.Of(g.Edges)
		want, no := of(g.Edges)
		holds(t, fmt.Sprintf("Of %v", g.Edges), x, want, nil, nil, e, no)
		p := pair{r.Intn(8) - 2, r.Intn(7) - 1}
		links(t, g, p)
		unlinks(t, g, p)
	}
}

// roomy is a list in memory of its own, with room behind it that is its owner's, too.
func roomy[T any](l []T, v T) []T {
	x := slices.Grow(slices.Clone(l), 4)
	spoil(x[len(x):], v)
	return x
}

// spoil writes over all of a list, and over the room behind it.
func spoil[T any](l []T, v T) {
	l = l[:cap(l)]
	for i := range l {
		l[i] = v
	}
}

// whole is what there is of a list, and of the room behind it, in memory of its own.
func whole[T any](l []T) []T { return slices.Clone(l[:cap(l)]) }

// answer is what a call answers.
type answer struct {
	g api.Graph
	l []int
}

// copies are answers in memory of their own.
func copies(l []answer) []answer {
	var out []answer
	for _, x := range l {
		out = append(out, answer{api.Graph{Edges: slices.Clone(x.g.Edges), Live: slices.Clone(x.g.Live)}, slices.Clone(x.l)})
	}
	return out
}

// asked is all that is answered of a graph, and a pair.
func asked(g api.Graph, p pair) []answer {
	reach.Check(g)
	reach.Same(g, g)
	x, _ := reach.Of(g.Edges)
	y, came, _ := reach.Link(g, p[0], p[1])
	z, gone, _ := reach.Unlink(g, p[0], p[1])
	return []answer{{x, nil}, {y, came}, {z, gone}}
}

// others tells whether answers are other ones.
func others(l, were []answer) bool {
	return !slices.EqualFunc(l, were, func(a, b answer) bool { return alike(a.g, b.g) && equal(a.l, b.l) })
}

func TestUnchanged(t *testing.T) {
	bad := in(-9, -9, -9)
	for _, was := range append(graphs(), wrongGraphs()...) {
		for _, p := range around(nil) {
			g := api.Graph{Edges: roomy(was.Edges, bad), Live: roomy(was.Live, -9)}
			wasEdges, wasLive := whole(g.Edges), whole(g.Live)
			first, again := asked(g, p), asked(g, p)
			want := copies(again)
			// Each list of an answer is spoilt alone: no other list, of this answer or another one, has a part of it.
			for i, x := range first {
				for _, by := range []func(){func() { spoil(x.g.Edges, bad) }, func() { spoil(x.g.Live, -9) }, func() { spoil(x.l, -9) }} {
					rest := copies(first)
					by()
					if others(first[:i], rest[:i]) || others(first[i+1:], rest[i+1:]) || others(again, want) {
						t.Fatalf("answers of %v and %d share", was, p)
					}
				}
			}
			if !equal(whole(g.Edges), wasEdges) || !equal(whole(g.Live), wasLive) {
				t.Fatalf("%v is %v of %d", was, g, p)
			}
			spoil(g.Edges, bad)
			spoil(g.Live, -9)
			if others(again, want) {
				t.Fatalf("answers of %v and %d share with it", was, p)
			}
		}
	}
}

func TestListsOfOneAnswer(t *testing.T) {
	for _, g := range append(graphs(), wrongGraphs()...) {
		for _, p := range around(g.Edges) {
			for i, x := range asked(g, p) {
				live := slices.Clone(x.g.Live)
				if spoil(x.l, -9); !equal(x.g.Live, live) {
					t.Fatalf("what comes or goes, and Live, of answer %d of %v and %d, share", i, g, p)
				}
			}
		}
	}
}

func TestBranches(t *testing.T) {
	// Two go on from the same graph: neither is in the other's.
	g, _ := reach.Of(lead(pair{-1, 0}, pair{0, 1}, pair{1, 2}))
	for range 10 {
		x, _ := links(t, g, pair{2, 5})
		y, _ := links(t, g, pair{2, 6})
		z, _ := unlinks(t, g, pair{1, 2})
		w, _ := links(t, z, pair{1, 7})
		three := equal(g.Live, []int{0, 1, 2}) && equal(x.Live, []int{0, 1, 2, 5}) && equal(y.Live, []int{0, 1, 2, 6})
		if !three || !equal(z.Live, []int{0, 1}) || !equal(w.Live, []int{0, 1, 7}) {
			t.Fatalf("%v, %v, %v, %v and %v", g, x, y, z, w)
		}
	}
}

func TestSameAgain(t *testing.T) {
	all := graphs()
	var w sync.WaitGroup
	for range 8 {
		w.Go(func() {
			for _, g := range all {
				for _, p := range around(g.Edges) {
					links(t, g, p)
					unlinks(t, g, p)
				}
			}
		})
	}
	w.Wait()
}

// wholes are all numbers from one up to another one, without that.
func wholes(from, to int) []int {
	var l []int
	for n := from; n < to; n++ {
		l = append(l, n)
	}
	return l
}

func TestLong(t *testing.T) {
	const many = 1 << 16
	rise, fall := []api.Edge{in(-1, 0, 1)}, []api.Edge{in(-1, many-1, 1)}
	for n := range many - 1 {
		rise, fall = append(rise, in(n, n+1, 1)), append(fall, in(n+1, n, 1))
	}
	for _, l := range [][]api.Edge{rise, fall} {
		g, e := reach.Of(l)
		if !equal(g.Edges, l) || !equal(g.Live, wholes(0, many)) || e != api.OK {
			t.Fatalf("Of a long chain: %d reached, %d", len(g.Live), e)
		}
		x, gone, e := reach.Unlink(g, -1, l[0].To)
		if !equal(x.Edges, l[1:]) || len(x.Live) > 0 || !equal(gone, g.Live) || e != api.OK {
			t.Errorf("Unlink of a long chain's first one: %d reached, %d gone, %d", len(x.Live), len(gone), e)
		}
		y, came, e := reach.Link(x, -1, l[0].To)
		if !reach.Same(y, g) || !equal(came, gone) || e != api.OK {
			t.Errorf("Link of a long chain's first one: %d reached, %d came, %d", len(y.Live), len(came), e)
		}
	}
	g, _ := reach.Of(rise)
	// A circle of it, held by its first one alone, and cut in the midst.
	c, came, e := reach.Link(g, many-1, 0)
	if !equal(c.Live, g.Live) || len(came) > 0 || e != api.OK {
		t.Errorf("Link of a long circle's last one: %d reached, %d", len(c.Live), e)
	}
	x, gone, e := reach.Unlink(c, many/2-1, many/2)
	if !equal(x.Live, wholes(0, many/2)) || !equal(gone, wholes(many/2, many)) || e != api.OK {
		t.Errorf("Unlink within a long circle: %d reached, %d gone, %d", len(x.Live), len(gone), e)
	}
	if x, gone, e = reach.Unlink(c, -1, 0); len(x.Live) > 0 || !equal(gone, g.Live) || e != api.OK {
		t.Errorf("Unlink of what feeds a long circle: %d reached, %d gone, %d", len(x.Live), len(gone), e)
	}
}

func TestWide(t *testing.T) {
	const side = 250
	l := []api.Edge{in(-1, side/2, 1)}
	for from := range side {
		for to := range side {
			l = append(l, in(from, to, 1+from%3))
		}
	}
	g, e := reach.Of(l)
	if !equal(g.Live, wholes(0, side)) || e != api.OK {
		t.Fatalf("Of all pairs of %d: %d reached, %d", side, len(g.Live), e)
	}
	if x, gone, e := reach.Unlink(g, 0, 1); !equal(x.Live, g.Live) || len(gone) > 0 || e != api.OK {
		t.Errorf("Unlink of one of them: %d reached, %d gone, %d", len(x.Live), len(gone), e)
	}
	if x, gone, e := reach.Unlink(g, -1, side/2); len(x.Live) > 0 || !equal(gone, g.Live) || e != api.OK {
		t.Errorf("Unlink of what feeds them: %d reached, %d gone, %d", len(x.Live), len(gone), e)
	}
}
