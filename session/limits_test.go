package session_test

import (
	"math"
	"testing"

	"graftwood/api"
	"graftwood/session"
)

// What does not fit, and what does (P20.2, P20.3).

// caps are limits of manifests, nodes and edges.
func caps(manifests, nodes, edges int) api.Limits {
	return api.Limits{Text: 1000, Manifests: manifests, Nodes: nodes, Edges: edges}
}

// fitted are limits, steps that are not refused, and then one that is, or is not.
var fitted = []struct {
	l     api.Limits
	begun string
	then  string
	e     api.Errno
}{
	// manifests, at the limit, and one above it
	{caps(1, 99, 99), "", "a>", api.OK}, {caps(0, 99, 99), "", "a>", api.ErrManifests}, {caps(1, 99, 99), "a>", "b>", api.ErrManifests}, {caps(2, 99, 99), "a>", "b>", api.OK},
	{caps(2, 99, 99), "a> b>", "c>", api.ErrManifests}, {caps(2, 99, 99), "a> b>", "a@v1.1.0>", api.ErrManifests}, {caps(3, 99, 99), "a> b>", "c>a,b", api.OK},
	// where there is one it goes ahead
	{caps(1, 99, 99), "a>", "a>b", api.OK}, {caps(2, 99, 99), "a>b b>", "a>c", api.OK}, {caps(2, 99, 99), "a>b b>", "b>c,d", api.OK},
	// A root requirement is no manifest, and may be one of a node that has none.
	{caps(1, 99, 99), "a>", "+b", api.OK}, {caps(0, 99, 99), "", "+b", api.OK}, {caps(0, 99, 99), "+a", "+b", api.OK},
	// nodes: the manifest's own one, what it requires, once each, and what the root does
	{caps(9, 1, 99), "", "a>", api.OK}, {caps(9, 0, 99), "", "a>", api.ErrNodes}, {caps(9, 2, 99), "", "a>b", api.OK}, {caps(9, 1, 99), "", "a>b", api.ErrNodes},
	{caps(9, 2, 99), "", "a>b,b,b", api.OK}, {caps(9, 2, 99), "", "a>b,b,c", api.ErrNodes}, {caps(9, 1, 99), "", "a>a", api.OK}, {caps(9, 1, 99), "", "a>a,a@v1.1.0", api.ErrNodes},
	{caps(9, 3, 99), "a>b", "b>c", api.OK}, {caps(9, 2, 99), "a>b", "b>c", api.ErrNodes}, {caps(9, 2, 99), "a>b", "b>a", api.OK}, {caps(9, 2, 99), "a>b", "c>", api.ErrNodes},
	{caps(9, 1, 99), "", "+a", api.OK}, {caps(9, 0, 99), "", "+a", api.ErrNodes}, {caps(9, 1, 99), "+a", "+b", api.ErrNodes}, {caps(9, 2, 99), "+a", "+a@v1.1.0", api.OK},
	{caps(9, 1, 99), "+a", "+a@v1.1.0", api.ErrNodes}, {caps(9, 2, 99), "a>b", "+b", api.OK}, {caps(9, 2, 99), "a>b", "+a", api.OK}, {caps(9, 2, 99), "a>b", "+c", api.ErrNodes},
	{caps(9, 2, 99), "+a +b", "a>b", api.OK}, {caps(9, 2, 99), "+a +b", "a>c", api.ErrNodes},
	// those that only the old manifest spoke of go ahead
	{caps(9, 3, 99), "a>b,c", "a>d,e", api.OK}, {caps(9, 3, 99), "a>b,c", "a>b,d", api.OK}, {caps(9, 3, 99), "a>b,c", "a>b,c,d", api.ErrNodes}, {caps(9, 3, 99), "a>b,c", "a>d,e,f", api.ErrNodes},
	{caps(9, 3, 99), "a>b,c +c", "a>d,e", api.ErrNodes}, {caps(9, 3, 99), "a>b,c +c", "a>c,d", api.OK}, {caps(9, 3, 99), "a>b,c +c", "a>d", api.OK},
	{caps(9, 3, 99), "a>b,c b>c", "a>d", api.ErrNodes}, {caps(9, 3, 99), "a>b,c b>c", "a>b", api.OK}, {caps(9, 4, 99), "a>b,c b>c", "a>d", api.OK}, {caps(9, 3, 99), "a>b,c b>c", "b>d", api.ErrNodes},
	{caps(9, 2, 99), "a>b", "a>c", api.OK}, {caps(9, 2, 99), "a>a,b", "a>a,c", api.OK}, {caps(9, 2, 99), "a>b,b", "a>c,c", api.OK}, {caps(9, 2, 99), "a>b,b", "a>b,c", api.ErrNodes},
	// edges: each requirement, as often as it is there, and the root's
	{caps(9, 99, 0), "", "a>", api.OK}, {caps(9, 99, 1), "", "a>b", api.OK}, {caps(9, 99, 0), "", "a>b", api.ErrEdges}, {caps(9, 99, 0), "", "a>a", api.ErrEdges},
	{caps(9, 99, 3), "", "a>b,b,b", api.OK}, {caps(9, 99, 2), "", "a>b,b,b", api.ErrEdges}, {caps(9, 99, 2), "a>b", "b>a", api.OK}, {caps(9, 99, 1), "a>b", "b>a", api.ErrEdges},
	{caps(9, 99, 1), "", "+a", api.OK}, {caps(9, 99, 0), "", "+a", api.ErrEdges}, {caps(9, 99, 1), "+a", "+b", api.ErrEdges}, {caps(9, 99, 1), "+a", "a>", api.OK},
	{caps(9, 99, 1), "+a", "a>b", api.ErrEdges}, {caps(9, 99, 2), "+a", "a>b", api.OK}, {caps(9, 99, 2), "a>b,b", "+b", api.ErrEdges}, {caps(9, 99, 3), "a>b,b", "+b", api.OK},
	// those of the old manifest go ahead
	{caps(9, 99, 2), "a>b,c", "a>d,e", api.OK}, {caps(9, 99, 2), "a>b,c", "a>b,b", api.OK}, {caps(9, 99, 2), "a>b,c", "a>b,c,c", api.ErrEdges}, {caps(9, 99, 2), "a>b,c", "a>d,e,f", api.ErrEdges},
	{caps(9, 99, 2), "a>b +a", "a>b,c", api.ErrEdges}, {caps(9, 99, 2), "a>b +a", "a>c", api.OK}, {caps(9, 99, 2), "a>b b>c", "a>d,e", api.ErrEdges}, {caps(9, 99, 2), "a>b b>c", "a>c", api.OK},
	// what is taken away gives its room back
	{caps(1, 99, 99), "a> -a", "b>", api.OK}, {caps(9, 2, 99), "a>b -a", "c>d", api.OK}, {caps(9, 2, 99), "a>b +b -a", "c>d", api.ErrNodes}, {caps(9, 1, 99), "+a ~a", "+b", api.OK},
	{caps(9, 99, 2), "a>b,b -a", "c>d,e", api.OK}, {caps(9, 99, 2), "a>b,b a>b", "c>d", api.OK}, {caps(9, 99, 1), "+a ~a", "+b", api.OK}, {caps(9, 99, 1), "+a ~a", "b>a", api.OK},
	{caps(9, 1, 99), "a> +a ~a", "+b", api.ErrNodes}, {caps(9, 1, 99), "a> +a -a", "+b", api.ErrNodes}, {caps(9, 1, 99), "a> +a -a ~a", "+b", api.OK}, {caps(9, 2, 99), "a>b +b -a", "+a", api.OK},
	// which of two, and of three, is told
	{caps(0, 0, 0), "", "a>b", api.ErrManifests}, {caps(0, 1, 9), "", "a>b", api.ErrManifests}, {caps(0, 9, 0), "", "a>b", api.ErrManifests}, {caps(1, 1, 0), "", "a>b", api.ErrNodes},
	{caps(1, 2, 0), "", "a>b", api.ErrEdges}, {caps(1, 2, 1), "", "a>b", api.OK}, {caps(9, 0, 0), "", "+a", api.ErrNodes}, {caps(0, 0, 0), "", "+a", api.ErrNodes}, {caps(0, 1, 0), "", "+a", api.ErrEdges},
	{caps(1, 2, 1), "a>b", "c>d", api.ErrManifests}, {caps(2, 2, 1), "a>b", "c>d", api.ErrNodes}, {caps(2, 2, 1), "a>b", "a>c,d", api.ErrNodes}, {caps(2, 4, 1), "a>b", "c>d", api.ErrEdges}, {caps(2, 4, 2), "a>b", "c>d", api.OK},
	// below 0 nothing fits, whatever is put in
	{caps(-1, 9, 9), "", "+a", api.ErrManifests}, {caps(-1, 9, 9), "", "a>", api.ErrManifests}, {caps(9, -1, 9), "", "+a", api.ErrNodes}, {caps(9, -1, 9), "", "a>", api.ErrNodes},
	{caps(9, 9, -1), "", "+a", api.ErrEdges}, {caps(9, 9, -1), "", "a>", api.ErrEdges}, {caps(9, -1, -1), "", "a>", api.ErrNodes}, {caps(-1, -1, -1), "", "+a", api.ErrManifests},
	{caps(math.MinInt, 9, 9), "", "+a", api.ErrManifests}, {caps(9, math.MinInt, 9), "", "+a", api.ErrNodes}, {caps(9, 9, math.MinInt), "", "+a", api.ErrEdges}, {caps(math.MaxInt, math.MaxInt, math.MaxInt), "a>b", "c>d,d,e", api.OK},
	// what there is already, is nothing more
	{caps(1, 2, 1), "a>b", "a>b", api.OK}, {caps(9, 1, 1), "+a", "+a", api.OK}, {caps(0, 1, 1), "+a", "+a", api.OK}, {caps(1, 1, 0), "a>", "a>", api.OK},
}

func TestFits(t *testing.T) {
	for _, x := range fitted {
		s, p := laid(t, x.l, x.begun)
		then := steps(x.then)[0]
		if x.e != api.OK {
			refused(t, s, p, then, 0, x.e)
			continue
		}
		if _, at, e := then.done(s); at != 0 || e != api.OK {
			t.Errorf("%v, %s, then %s: %d, %d", x.l, x.begun, x.then, at, e)
		}
		after(t, s, p, then)
	}
}

func TestJustFits(t *testing.T) {
	// With limits that are just what there is at most, each step fits; with one less of any of them the one that comes to the most does not.
	for _, x := range lists {
		l := steps(x.done)
		most := just(t, x.done)
		after(t, session.New(most, 1), fresh(most), l...)
		for _, less := range []struct {
			l  api.Limits
			no api.Errno
		}{
			{caps(most.Manifests-1, most.Nodes, most.Edges), api.ErrManifests},
			{caps(most.Manifests, most.Nodes-1, most.Edges), api.ErrNodes},
			{caps(most.Manifests, most.Nodes, most.Edges-1), api.ErrEdges},
		} {
			refusals := 0
			s, p := session.New(less.l, 1), fresh(less.l)
			for _, y := range l {
				if _, _, e := y.done(s); e == less.no {
					refusals++
				}
				s, p = after(t, s, p, y)
			}
			if len(l) > 0 && refusals == 0 {
				t.Errorf("%s: nothing is refused by %v", x.done, less.l)
			}
		}
	}
}

// errorsAt are steps of which each is refused for more than one thing, and what is told first.
var errorsAt = []struct {
	x  step
	at int
	e  api.Errno
}{
	// a node that may not be, ahead of all
	{step{'>', of("a/", "v1.0.0"), "module a"}, 0, api.ErrArg}, {step{'>', of("a", "v1"), "mox"}, 0, api.ErrArg}, {step{'>', of("", ""), ""}, 0, api.ErrArg},
	{step{'>', of("a", "v1.0"), "module b // longer than any text here may be"}, 0, api.ErrArg}, {step{'>', of("b/", "v1.0.0"), "module b/"}, 0, api.ErrArg},
	{step{'-', of("a/", "v1.0.0"), ""}, 0, api.ErrArg}, {step{'+', of("a/", "v1.0.0"), ""}, 0, api.ErrArg}, {step{'~', of("a/", "v1.0.0"), ""}, 0, api.ErrArg},
	// one that is too long, ahead of what it is
	{step{'>', one("a"), "mox, and longer than any text here may be"}, 0, api.ErrLarge}, {step{'>', one("a"), "module b // longer than any text here may be"}, 0, api.ErrLarge},
	{step{'>', one("a"), "module a\nrequire (\nb v1.0.0\nc v1.0.0\n"}, 0, api.ErrLarge}, {step{'>', one("none"), "module none // longer than any text may be"}, 0, api.ErrLarge},
	// one that is no manifest, ahead of whose it is, and of what does not fit
	{step{'>', one("a"), "module b\nx"}, 10, api.ErrSyntax}, {step{'>', one("none"), "module b\nx"}, 10, api.ErrSyntax}, {step{'>', one("none"), "module none\nx"}, 13, api.ErrSyntax},
	{step{'>', one("none"), "module b/"}, 9, api.ErrTruncated}, {step{'>', one("none"), "module none/"}, 12, api.ErrTruncated}, {step{'>', one("a"), "module b\nrequire c v1.0."}, 24, api.ErrTruncated},
	// another module's, ahead of what does not fit
	{step{'>', one("none"), "module b"}, 0, api.ErrOther}, {step{'>', one("none"), "module b\nrequire c v1.0.0"}, 0, api.ErrOther}, {step{'>', one("a"), "module b\nrequire none v1.0.0"}, 0, api.ErrOther},
	// what does not fit
	{step{'>', one("none"), "module none\nrequire x v1.0.0"}, 0, api.ErrManifests}, {step{'>', one("a"), "module a\nrequire x v1.0.0"}, 0, api.ErrNodes}, {step{'>', one("a"), "module a\nrequire a v1.0.0"}, 0, api.ErrEdges},
	{step{'+', one("x"), ""}, 0, api.ErrNodes}, {step{'+', one("b"), ""}, 0, api.ErrEdges}, {step{'-', one("x"), ""}, 0, api.ErrNone}, {step{'~', one("x"), ""}, 0, api.ErrNone},
	// nothing at all
	{step{'>', one("a"), "module a\n"}, 0, api.OK}, {step{'+', one("a"), ""}, 0, api.OK},
}

func TestWhichErrorIsFirst(t *testing.T) {
	l := api.Limits{Text: 33, Manifests: 2, Nodes: 2, Edges: 2}
	s, p := laid(t, l, "a> b>b +a")
	for _, x := range errorsAt {
		if x.e != api.OK {
			refused(t, s, p, x.x, x.at, x.e)
			continue
		}
		if _, at, e := x.x.done(s); at != x.at || e != x.e {
			t.Errorf("%v: %d, %d", x.x, at, e)
		}
		after(t, s, p, x.x)
	}
	// one behind the other, from what came
	var all []step
	for _, x := range errorsAt {
		all = append(all, x.x)
	}
	after(t, s, p, all...)
}
