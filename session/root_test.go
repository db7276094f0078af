package session_test

import (
	"fmt"
	"slices"
	"testing"

	"graftwood/api"
	"graftwood/session"
)

// P20.3

func TestNeedAndFreeOfWrongNodes(t *testing.T) {
	begun := []string{"", "+a", "a>b +a +b"}
	for _, done := range begun {
		for _, l := range []api.Limits{wide(), just(t, done), caps(9, 9, 9)} {
			s, p := laid(t, l, done)
			for _, n := range wrong() {
				refused(t, s, p, step{kind: '+', n: n}, 0, api.ErrArg)
				refused(t, s, p, step{kind: '~', n: n}, 0, api.ErrArg)
			}
		}
	}
	l := caps(-1, -1, -1)
	for _, n := range wrong() {
		refused(t, session.New(l, 0), fresh(l), step{kind: '+', n: n}, 0, api.ErrArg)
	}
}

func TestNeed(t *testing.T) {
	s, p := session.New(wide(), 0), fresh(wide())
	for _, x := range []struct{ n, root string }{
		{"c", "c"}, {"a@v1.10.0", "a@v1.10.0 c"}, {"a@v1.9.0", "a@v1.9.0 a@v1.10.0 c"}, {"c", "a@v1.9.0 a@v1.10.0 c"}, {"a@v1.10.0-rc", "a@v1.9.0 a@v1.10.0-rc a@v1.10.0 c"},
		{"a@v1.9.0", "a@v1.9.0 a@v1.10.0-rc a@v1.10.0 c"}, {"a/b", "a@v1.9.0 a@v1.10.0-rc a@v1.10.0 a/b c"}, {"a-b", "a@v1.9.0 a@v1.10.0-rc a@v1.10.0 a-b a/b c"},
		{"a-b", "a@v1.9.0 a@v1.10.0-rc a@v1.10.0 a-b a/b c"}, {"Z", "Z a@v1.9.0 a@v1.10.0-rc a@v1.10.0 a-b a/b c"},
	} {
		s, p = after(t, s, p, step{kind: '+', n: one(x.n)})
		if !slices.Equal(s.Root, nodes(x.root)) || s.Use.Edges != len(s.Root) || s.Use.Manifests != 0 || len(s.Store.Keys) != 0 {
			t.Errorf("Need of %s: %v, %v", x.n, s.Root, s.Use)
		}
	}
	// of those that are spoken of already, reached already, or have manifests
	for _, done := range []string{"a>b,c b>a", "a>b,c b>a +a", "a>b,c b>a +c", "a> b> c>", "a>b,b b>c,c c>a,a +b"} {
		for _, then := range []string{"+a +b +c", "+c +b +a", "+b +b +a +b", "+a ~a +a", "+b ~b -b +b b>"} {
			s, p := laid(t, wide(), done)
			after(t, s, p, steps(then)...)
		}
	}
}

func TestNeedOfWhatIsRequired(t *testing.T) {
	for _, done := range []string{"+a", "+a +b a>b", "a> +a +a@v1.1.0", "a>b b>a +a +b"} {
		s, p := laid(t, just(t, done), done)
		for n := range p.root {
			y, e := session.Need(s, n)
			if e != api.OK {
				t.Errorf("%s: Need of %v again: %d", done, n, e)
			}
			same(t, done, y, p.tells())
			// One Free takes away what two of Need gave.
			z, e := session.Free(y, n)
			if _, f := session.Free(z, n); e != api.OK || f != api.ErrNone {
				t.Errorf("%s: Free of %v behind Need twice: %d, %d", done, n, e, f)
			}
			after(t, y, p, step{kind: '+', n: n}, step{kind: '~', n: n}, step{kind: '~', n: n}, step{kind: '+', n: n}, step{kind: '+', n: n})
		}
	}
	// Though limits are such that what there is is beyond them, what is there already is nothing more.
	s, p := laid(t, wide(), "a>b +a +c")
	for _, l := range []api.Limits{{}, caps(0, 9, 9), caps(9, 0, 9), caps(9, 9, 0), caps(-1, -1, -1)} {
		s.Limits, p.limits = l, l
		for n := range p.root {
			after(t, s, p, step{kind: '+', n: n})
		}
		s.Limits.Text, p.limits.Text = 99, 99
		after(t, s, p, step{kind: '>', n: one("a"), t: p.texts[one("a")]})
	}
}

func TestNeedThatDoesNotFit(t *testing.T) {
	for _, x := range []struct {
		l     api.Limits
		begun string
		e     api.Errno
	}{
		{caps(9, 9, 0), "", api.ErrEdges}, {caps(9, 0, 9), "", api.ErrNodes}, {caps(-1, 9, 9), "", api.ErrManifests}, {caps(9, 0, 0), "", api.ErrNodes}, {caps(-1, 0, 0), "", api.ErrManifests},
		{caps(9, 9, 2), "+a +b", api.ErrEdges}, {caps(9, 2, 9), "+a +b", api.ErrNodes}, {caps(9, 2, 2), "+a +b", api.ErrNodes}, {caps(9, 9, 1), "a>z", api.ErrEdges}, {caps(9, 2, 9), "a>b", api.ErrNodes},
	} {
		s, p := laid(t, x.l, x.begun)
		refused(t, s, p, step{kind: '+', n: one("z")}, 0, x.e)
	}
	// with one of them taken away there is room again, and one above it there is none
	for _, done := range []string{"+a +b ~a +z +a", "+a a>b ~a +b +a", "+b a>b +z -a +z", "a>b b>a +a -b +a +z", "+b ~b +a +b ~b +z +z"} {
		for _, l := range []api.Limits{caps(9, 9, 1), caps(9, 9, 2), caps(9, 1, 9), caps(9, 2, 9), caps(1, 2, 2), caps(0, 1, 1)} {
			after(t, session.New(l, 1), fresh(l), steps(done)...)
		}
	}
}

func TestFree(t *testing.T) {
	for _, done := range []string{"", "a>b", "+b", "+a@v1.1.0", "b>a +b", "a>a", "+a/b"} {
		for _, l := range []api.Limits{wide(), just(t, done)} {
			s, p := laid(t, l, done)
			refused(t, s, p, step{kind: '~', n: one("a")}, 0, api.ErrNone)
			refused(t, s, p, step{kind: '~', n: one("a@v1.0.0-rc")}, 0, api.ErrNone)
			refused(t, s, p, step{kind: '~', n: one("none")}, 0, api.ErrNone)
		}
	}
	for _, x := range []struct{ done, free, build, missing string }{
		{"+a", "a", "", ""}, {"+a +b", "a", "b", "b"}, {"+a@v1.9.0 +a@v1.10.0", "a@v1.10.0", "a@v1.9.0", "a@v1.9.0"}, {"+a@v1.9.0 +a@v1.10.0", "a@v1.9.0", "a@v1.10.0", "a@v1.10.0"},
		// what another one leads to stays
		{"a>b b>c +a +b", "a", "b c", "c"}, {"a>b b>c +a +b", "b", "a b c", "c"}, {"a>b b> +a", "a", "", ""}, {"a>b c>b +a +c", "a", "b c", "b"},
		// a circle goes, whole, but not one that is led to
		{"a>b b>c c>a +a", "a", "", ""}, {"a>b b>c c>a +a +c", "a", "a b c", ""}, {"a>b b>a +a +x x>b", "a", "a b x", ""}, {"a>a +a", "a", "", ""}, {"a>b b>b +a", "a", "", ""},
		{"a>b,b b>c,c c>a,a +a +d", "a", "d", "d"}, {"a>a@v1.1.0 a@v1.1.0>a +a", "a", "", ""},
	} {
		s, p := laid(t, wide(), x.done)
		y, e := session.Free(s, one(x.free))
		if e != api.OK || slices.Contains(y.Root, one(x.free)) || len(y.Root) != len(s.Root)-1 {
			t.Errorf("%s: Free of %s: %d, %v", x.done, x.free, e, y.Root)
		}
		listed(t, fmt.Sprintf("%s, without %s", x.done, x.free), y, x.build, x.missing)
		again := step{kind: '~', n: one(x.free)}
		after(t, s, p, again, again, step{kind: '+', n: one(x.free)}, again)
	}
}
