package session_test

import (
	"slices"
	"testing"

	"graftwood/api"
	"graftwood/session"
	"graftwood/why"
)

// P20.4

// picked holds what Selected, and Why, tell of a path.
func picked(t *testing.T, what string, s api.Session, p, version, chain string, no api.Errno) {
	t.Helper()
	if v, e := session.Selected(s, p); v != version || e != no {
		t.Errorf("%s: Selected of %.60q is %q, %d, not %q, %d", what, p, v, e, version, no)
	}
	if c, e := session.Why(s, p); !slices.Equal(c, nodes(chain)) || e != no {
		t.Errorf("%s: Why of %.60q is %v, %d, not %s, %d", what, p, c, e, chain, no)
	}
}

func TestSelectedAndWhyOfNoPath(t *testing.T) {
	for _, done := range []string{"", "+a", "a>b b>a", "a>b,c b>d@v1.9.0 c>d@v1.10.0 +a"} {
		s, _ := laid(t, wide(), done)
		for _, p := range wrongPaths {
			picked(t, done, s, p, "", "", api.ErrArg)
		}
	}
}

func TestSelectedAndWhyOfWhatIsNotNeeded(t *testing.T) {
	for _, x := range []struct{ done, paths string }{
		{"", "a b a/b v1.0.0"}, {"+a", "b A aa a/a a-"}, {"+a/b", "a b a/b/c"},
		// that only an unreached manifest is of, or names
		{"x>y", "x y"}, {"x>y,a +a", "x y"}, {"x>y y>x +a a>b", "x y"}, {"a@v1.1.0>y +a", "y"}, {"a@v0.9.0>y a> +a", "y"}, {"x>x", "x"}, {"x>y y>z +x ~x", "x y z"},
		// that was reached once
		{"+a a>b b>c -a", "b c"}, {"+a a>b b>c a>", "b c"}, {"+a a>b b>a ~a", "a b"}, {"+a -a ~a", "a"}, {"+a@v1.0.0 ~a@v1.0.0", "a"},
	} {
		s, p := session.New(wide(), 2), fresh(wide())
		for _, y := range steps(x.done) {
			s, p = y.next(t, s, p)
		}
		for _, n := range nodes(x.paths) {
			picked(t, x.done, s, n.Path, "", "", api.ErrNeed)
		}
	}
}

// next does a step, and holds what is told then.
func (x step) next(t *testing.T, s api.Session, p plain) (api.Session, plain) {
	t.Helper()
	return after(t, s, p, x)
}

// chosen are steps, a path, its version, and the chain to it.
var chosen = []struct{ done, path, version, chain string }{
	// one version, near and far
	{"+a", "a", "v1.0.0", "a"}, {"+a@v1.0.0-rc.1", "a", "v1.0.0-rc.1", "a@v1.0.0-rc.1"}, {"+a/b", "a/b", "v1.0.0", "a/b"}, {"+a a>b", "b", "v1.0.0", "a b"}, {"+a a>b b>c c>d", "d", "v1.0.0", "a b c d"},
	{"+a +b a>b", "b", "v1.0.0", "b"}, {"+a +b b>a", "a", "v1.0.0", "a"}, {"+a a>b b>a", "a", "v1.0.0", "a"}, {"+a a>b b>c,a c>b", "b", "v1.0.0", "a b"}, {"+a a>a", "a", "v1.0.0", "a"},
	// the shortest one, and of more the one that layer 19 tells
	{"+a a>b b>c a>b,c", "c", "v1.0.0", "a c"}, {"+c +a a>b c>b", "b", "v1.0.0", "a b"}, {"+d +c c>m d>m m>z", "z", "v1.0.0", "c m z"}, {"+a +b a>d b>c d>z c>z", "z", "v1.0.0", "b c z"},
	{"+z +a z>b a>c c>b", "b", "v1.0.0", "z b"}, {"+a@v1.10.0 +a@v1.9.0 a@v1.9.0>b a@v1.10.0>b", "b", "v1.0.0", "a@v1.9.0 b"}, {"+a +a-b a/b>z +a/b a>c c>z a-b>z", "z", "v1.0.0", "a-b z"},
	{"x>b +c c>b +a", "b", "v1.0.0", "c b"}, {"a>b +c c>b", "b", "v1.0.0", "c b"},
	// more versions: to the last one, though another one is closer
	{"+a@v1.9.0 +a@v1.10.0", "a", "v1.10.0", "a@v1.10.0"}, {"+a +a@v1.0.0-rc", "a", "v1.0.0", "a"}, {"+a@v1.9.0 +b b>c c>a@v1.10.0", "a", "v1.10.0", "b c a@v1.10.0"},
	{"+b +c b>d@v1.9.0 c>d@v1.10.0", "d", "v1.10.0", "c d@v1.10.0"}, {"+a a>a@v1.1.0", "a", "v1.1.0", "a a@v1.1.0"}, {"+a@v1.9.0 a@v1.9.0>a@v1.10.0 a@v1.10.0>a@v1.11.0", "a", "v1.11.0", "a@v1.9.0 a@v1.10.0 a@v1.11.0"},
	{"+b +c b>d@v1.0.0-rc.2 c>d@v1.0.0-rc.10", "d", "v1.0.0-rc.10", "c d@v1.0.0-rc.10"}, {"+a x>a@v9.0.0", "a", "v1.0.0", "a"}, {"+a a@v1.1.0>a@v9.0.0", "a", "v1.0.0", "a"},
	{"+b +c +d b>a@v1.2.0 c>a@v1.10.0 d>a@v1.10.0", "a", "v1.10.0", "c a@v1.10.0"},
	// by way of a version that is not selected
	{"+a@v1.9.0 +a@v1.10.0 a@v1.9.0>b", "b", "v1.0.0", "a@v1.9.0 b"}, {"+a@v1.9.0 +a@v1.10.0 a@v1.9.0>b@v1.5.0 a@v1.10.0>b@v1.4.0", "b", "v1.5.0", "a@v1.9.0 b@v1.5.0"},
	// behind what came, and went
	{"+b +c b>d@v1.9.0 c>d@v1.10.0 c>", "d", "v1.9.0", "b d@v1.9.0"}, {"+b +c b>d c>d ~b", "d", "v1.0.0", "c d"}, {"+a +a@v1.1.0 ~a@v1.1.0", "a", "v1.0.0", "a"}, {"+a a>b b>c +c ~c", "c", "v1.0.0", "a b c"},
	{"+a a>b b>a +c c>b ~a", "a", "v1.0.0", "c b a"}, {"+a a>z a>b b>z", "z", "v1.0.0", "a b z"}, {"+a a>b,c b>z c>z -b", "z", "v1.0.0", "a c z"},
}

func TestSelectedAndWhy(t *testing.T) {
	for i, x := range chosen {
		s, p := session.New(wide(), memos[i%len(memos)]), fresh(wide())
		for _, y := range steps(x.done) {
			s, p = y.next(t, s, p)
		}
		picked(t, x.done, s, x.path, x.version, x.chain, api.OK)
		// It is the version in the build list.
		if !slices.Contains(session.Build(s), of(x.path, x.version)) {
			t.Errorf("%s: %s is not in %v", x.done, x.version, session.Build(s))
		}
	}
}

func TestWhyIsAChain(t *testing.T) {
	for _, x := range lists {
		s, p := laid(t, wide(), x.done)
		for _, n := range nodes(x.build) {
			c, e := session.Why(s, n.Path)
			if e != api.OK || len(c) == 0 || !p.root[c[0]] || c[len(c)-1] != n {
				t.Errorf("%s: Why of %s is %v, %d", x.done, n.Path, c, e)
				continue
			}
			if is, _ := why.Is(p.needs(), c); !is {
				t.Errorf("%s: Why of %s is no chain: %v", x.done, n.Path, c)
			}
			if l, _ := why.Chain(p.needs(), n); !slices.Equal(l, c) {
				t.Errorf("%s: Why of %s is %v, not %v", x.done, n.Path, c, l)
			}
		}
	}
}
