package session_test

import (
	"fmt"
	"math"
	"reflect"
	"slices"
	"strings"
	"testing"

	"graftwood/api"
	"graftwood/session"
	"graftwood/text"
)

// wrongPaths and wrongVersions are texts that are none.
var (
	wrongPaths = []string{
		"", ".", "/", ".a", "a.", "a/", "/a", "a//b", "a/.b", "a./b", "@", "a@v1.0.0", " a", "a ", "a b", "a\n", "a+", "é", "a\x00", "~\xff", "\"a\"",
	}
	wrongVersions = []string{
		"", "v", "1.0.0", "v1", "v1.0", "v1.0.0.0", "v01.0.0", "v1.0.0-", "v1.0.0-01", "v1.0.0-a..b", "v1.0.0+a", "V1.0.0", "@v1.0.0",
		" v1.0.0", "v1.0.0 ", "v1.0.0\n", "v1.0.0\x00", "v1.0.0-\xff", "a", "latest",
	}
)

// memos are how many texts may be remembered.
var memos = []int{2, 0, -1, 1, 100, math.MaxInt, math.MinInt}

// wide are limits that nothing here is beyond.
func wide() api.Limits {
	return api.Limits{Text: 1 << 20, Manifests: 1000, Nodes: 10000, Edges: 100000}
}

// of is a node.
func of(path, version string) api.Node { return api.Node{Path: path, Version: version} }

// one is the node of a text: of a path alone it is its v1.0.0.
func one(s string) api.Node {
	p, v, is := strings.Cut(s, "@")
	if !is {
		v = "v1.0.0"
	}
	return of(p, v)
}

// nodes are the nodes of a text's fields.
func nodes(s string) []api.Node {
	var l []api.Node
	for _, f := range strings.Fields(s) {
		l = append(l, one(f))
	}
	return l
}

// wrong are nodes that may not be: by the path, by the version, or by both.
func wrong() []api.Node {
	var l []api.Node
	for i, p := range wrongPaths {
		l = append(l, of(p, "v1.0.0"), of(p, wrongVersions[i%len(wrongVersions)]))
	}
	for _, v := range wrongVersions {
		l = append(l, of("a", v))
	}
	return l
}

// printed is the text of a manifest of a path that requires these.
func printed(path string, l ...api.Node) string {
	t, e := text.Print(api.Manifest{Module: path, Reqs: l})
	if e != api.OK {
		panic("no manifest: " + path)
	}
	return t
}

// step is something that is done.
type step struct {
	kind byte // > puts, - drops, + lets the root need, ~ frees
	n    api.Node
	t    string
}

// steps are those of a text's fields: a>b,c puts a manifest of a that requires b and c, a> one that requires nothing, -a drops it, +a lets the root require a, ~a frees it.
func steps(s string) []step {
	var l []step
	for _, f := range strings.Fields(s) {
		if n, list, is := strings.Cut(f, ">"); is {
			l = append(l, step{kind: '>', n: one(n), t: printed(one(n).Path, nodes(strings.ReplaceAll(list, ",", " "))...)})
		} else {
			l = append(l, step{kind: f[0], n: one(f[1:])})
		}
	}
	return l
}

// done is a session after a step, and what came of it.
func (x step) done(s api.Session) (api.Session, int, api.Errno) {
	var e api.Errno
	switch x.kind {
	case '>':
		return session.Put(s, x.n, x.t)
	case '-':
		s, e = session.Drop(s, x.n)
	case '+':
		s, e = session.Need(s, x.n)
	default:
		s, e = session.Free(s, x.n)
	}
	return s, 0, e
}

// meant is what done is, by the definition.
func (x step) meant(p plain) (plain, int, api.Errno) {
	var e api.Errno
	switch x.kind {
	case '>':
		return p.put(x.n, x.t)
	case '-':
		p, e = p.drop(x.n)
	case '+':
		p, e = p.need(x.n)
	default:
		p, e = p.free(x.n)
	}
	return p, 0, e
}

// tale is all that is told: a session's parts that are not open, its lists, and, of each path, its version, and its chain.
type tale struct {
	limits         api.Limits
	store          api.Store
	root           []api.Node
	use            api.Use
	build, missing []api.Node
	versions       []string
	chains         [][]api.Node
	errors         []api.Errno
}

// asked are the paths that are asked of: of those that are spoken of, of others, and of none.
var asked = []string{"a", "b", "c", "d", "e", "x", "y", "z", "a/b", "a-b", "none", "", "a/", "a b"}

// bare is a list, where one of none is nil.
func bare[T any](l []T) []T { return append([]T(nil), l...) }

// told is what a session tells.
func told(s api.Session) tale {
	x := tale{limits: s.Limits, root: bare(s.Root), build: bare(session.Build(s)), missing: bare(session.Missing(s))}
	x.store = api.Store{Keys: bare(s.Store.Keys), Texts: bare(s.Store.Texts)}
	x.use = api.Use{Manifests: s.Use.Manifests, Edges: s.Use.Edges, Said: bare(s.Use.Said)}
	for _, p := range asked {
		v, e := session.Selected(s, p)
		c, f := session.Why(s, p)
		x.versions, x.chains, x.errors = append(x.versions, v), append(x.chains, bare(c)), append(x.errors, e, f)
	}
	return x
}

// tells is what is to be told.
func (p plain) tells() tale {
	x := tale{limits: p.limits, root: inOrder(p.root), use: p.use(), build: bare(p.build()), missing: bare(p.missing())}
	for _, n := range inOrder(p.texts) {
		x.store.Keys, x.store.Texts = append(x.store.Keys, n), append(x.store.Texts, p.texts[n])
	}
	for _, q := range asked {
		v, e := p.selected(q)
		c, f := p.why(q)
		x.versions, x.chains, x.errors = append(x.versions, v), append(x.chains, bare(c)), append(x.errors, e, f)
	}
	return x
}

// same holds what a session tells against what is to be told.
func same(t *testing.T, what string, s api.Session, want tale) {
	t.Helper()
	if x := told(s); !reflect.DeepEqual(x, want) {
		t.Fatalf("%s: told is\n%v\nnot\n%v", what, x, want)
	}
}

// after does steps, one by one, and holds what comes of each, and what is told then, against the definition.
func after(t *testing.T, s api.Session, p plain, l ...step) (api.Session, plain) {
	t.Helper()
	for i, x := range l {
		y, at, e := x.done(s)
		q, wantAt, want := x.meant(p)
		what := fmt.Sprintf("step %d of %.300q", i, l)
		if at != wantAt || e != want {
			t.Fatalf("%s: %d, %d, not %d, %d", what, at, e, wantAt, want)
		}
		same(t, what, y, q.tells())
		s, p = y, q
	}
	return s, p
}

// laid is a session of these limits where steps were done, none of which is refused.
func laid(t *testing.T, l api.Limits, done string) (api.Session, plain) {
	t.Helper()
	return laidWith(t, l, 2, done)
}

// laidWith is the same with a memo of so many.
func laidWith(t *testing.T, l api.Limits, many int, done string) (api.Session, plain) {
	t.Helper()
	s, p := session.New(l, many), fresh(l)
	for _, x := range steps(done) {
		var e api.Errno
		if s, _, e = x.done(s); e != api.OK {
			t.Fatalf("%s: %v is %d", done, x, e)
		}
		p, _, _ = x.meant(p)
	}
	same(t, done, s, p.tells())
	return s, p
}

// just are limits that are what there is behind these steps.
func just(t *testing.T, done string) api.Limits {
	t.Helper()
	_, p := laid(t, wide(), done)
	u := p.use()
	return api.Limits{Text: 1000, Manifests: u.Manifests, Nodes: len(u.Said), Edges: u.Edges}
}

// listed holds a session's lists against what they are to be.
func listed(t *testing.T, what string, s api.Session, build, missing string) {
	t.Helper()
	if l := session.Build(s); !slices.Equal(l, nodes(build)) {
		t.Errorf("%s: Build is %v, not %s", what, l, build)
	}
	if l := session.Missing(s); !slices.Equal(l, nodes(missing)) {
		t.Errorf("%s: Missing is %v, not %s", what, l, missing)
	}
}

// eachOrder hands on a list in each order, or, if there are too many, by what it is turned, and moved round, to.
func eachOrder[T any](l []T, next func([]T)) {
	if len(l) > 5 {
		for i := range l {
			x := slices.Concat(l[i:], l[:i])
			next(x)
			slices.Reverse(x)
			next(x)
		}
		return
	}
	if len(l) == 0 {
		next(nil)
	}
	for i, x := range l {
		eachOrder(slices.Delete(slices.Clone(l), i, i+1), func(rest []T) { next(append([]T{x}, rest...)) })
	}
}

// P20.1

func TestNew(t *testing.T) {
	far := []int{0, 1, -1, 7, math.MaxInt, math.MinInt, 1 << 40, -1 << 40}
	for i, n := range far {
		for _, many := range memos {
			l := api.Limits{Text: n, Manifests: far[(i+1)%8], Nodes: far[(i+2)%8], Edges: far[(i+3)%8]}
			s := session.New(l, many)
			if s.Memo.Cap != many || len(s.Memo.L) != 0 {
				t.Errorf("New with %d: a memo %v", many, s.Memo)
			}
			if s.Limits != l || len(s.Root)+len(s.Store.Keys)+len(s.Store.Texts)+len(s.Use.Said) != 0 || s.Use.Manifests != 0 || s.Use.Edges != 0 {
				t.Errorf("New of %v: %v", l, s)
			}
			listed(t, "New", s, "", "")
			same(t, "New", s, fresh(l).tells())
		}
	}
}

// lists are steps, and the build list, and what is missing, behind them, in whatever order they are done.
var lists = []struct{ done, build, missing string }{
	{"", "", ""},
	// root requirements without a manifest
	{"+a", "a", "a"}, {"+b +a +c@v1.9.0", "a b c@v1.9.0", "a b c@v1.9.0"}, {"+a/b +a-b +ab +a +A", "A a a-b a/b ab", "A a a-b a/b ab"},
	// a line, that ends in one without a manifest, and with one
	{"a> +a", "a", ""}, {"a>b +a", "a b", "b"}, {"a>b b>c c>d +a", "a b c d", "d"}, {"a>b b>c c>d d> +a", "a b c d", ""},
	{"d>c c>b b>a +d", "a b c d", "a"}, {"a>b b>c c>d +c", "c d", "d"}, {"a>b c>d +a", "a b", "b"}, {"a>b c>d d> +a", "a b", "b"},
	// a circle that the root leads to, at once, and by another one
	{"a>b b>c c>a +a", "a b c", ""}, {"a>b b>c c>a +b", "a b c", ""}, {"x>b a>b b>c c>a +x", "a b c x", ""}, {"a>b b>a +a +b", "a b", ""},
	{"a>b b>a,c c>b,d +a", "a b c d", "d"}, {"x>a a>b b>a y>b +x +y", "a b x y", ""},
	// a circle that it does not lead to, beside others, and that leads to what is reached
	{"a>b b>a", "", ""}, {"a>b b>a +c", "c", "c"}, {"a>b b>a c> +c", "c", ""}, {"a>b b>a,c c>d +c", "c d", "d"}, {"a>b b>c c>b +d", "d", "d"},
	// versions of one path, and ones ahead of a release
	{"+a@v1.9.0 +a@v1.10.0", "a@v1.10.0", "a@v1.9.0 a@v1.10.0"}, {"+a@v1.0.0 +a@v1.0.0-rc", "a", "a@v1.0.0-rc a"},
	{"+a@v1.0.0-rc.2 +a@v1.0.0-rc.10", "a@v1.0.0-rc.10", "a@v1.0.0-rc.2 a@v1.0.0-rc.10"}, {"+a@v1.0.1-0 +a", "a@v1.0.1-0", "a a@v1.0.1-0"},
	{"+a@v2.0.0 +a@v10.0.0 +a@v9.99.99", "a@v10.0.0", "a@v2.0.0 a@v9.99.99 a@v10.0.0"}, {"+a@v99999999999999999999.0.0 +a@v100000000000000000000.0.0-0", "a@v100000000000000000000.0.0-0", "a@v99999999999999999999.0.0 a@v100000000000000000000.0.0-0"},
	{"b>a@v1.9.0 c>a@v1.10.0 +b +c", "a@v1.10.0 b c", "a@v1.9.0 a@v1.10.0"}, {"b>a@v1.9.0 c>a@v1.10.0 +b", "a@v1.9.0 b", "a@v1.9.0"},
	{"b>a@v1.9.0,a@v1.2.0,a@v1.10.0,a@v1.10.0-rc +b", "a@v1.10.0 b", "a@v1.2.0 a@v1.9.0 a@v1.10.0-rc a@v1.10.0"},
	{"b>a@v1.0.0-rc c>a@v1.0.0 a@v1.0.0> +b +c", "a b c", "a@v1.0.0-rc"}, {"b>a@v1.9.0 a@v1.9.0> a@v1.10.0> +b", "a@v1.9.0 b", ""},
	// a lower one counts for what its manifest requires
	{"a@v1.9.0>z a@v1.10.0> +a@v1.9.0 +a@v1.10.0", "a@v1.10.0 z", "z"}, {"a@v1.9.0>b@v1.5.0 a@v1.10.0>b@v1.4.0 +a@v1.9.0 +a@v1.10.0", "a@v1.10.0 b@v1.5.0", "b@v1.4.0 b@v1.5.0"},
	{"x>a@v1.0.0-rc y>a a@v1.0.0-rc>d +x +y", "a d x y", "a d"}, {"a@v1.9.0>b b>c +a@v1.9.0 +a@v1.10.0", "a@v1.10.0 b c", "a@v1.10.0 c"},
	{"a@v1.9.0>a@v1.10.0 a@v1.10.0>a@v1.11.0 a@v1.11.0>a@v1.9.0 +a@v1.10.0", "a@v1.11.0", ""},
	// manifests that nothing reaches: of another path, of another version, and ones that require what is reached
	{"z>y +a", "a", "a"}, {"a@v1.1.0>b +a", "a", "a"}, {"a@v0.9.0>b a> +a", "a", ""}, {"z>a@v1.1.0 +a", "a", "a"}, {"z>a a>z,b", "", ""}, {"a>b", "", ""}, {"a> b>", "", ""},
	// one that requires a node twice, its own one, and another version of its own path
	{"a>b,b +a", "a b", "b"}, {"a>b,c,b b> +a", "a b c", "c"}, {"a>a +a", "a", ""}, {"a>a", "", ""}, {"a>a,a,b +a", "a b", "b"}, {"a>a +b", "b", "b"},
	{"a>a@v1.1.0 +a", "a@v1.1.0", "a@v1.1.0"}, {"a@v1.1.0>a@v1.0.0 +a@v1.1.0", "a@v1.1.0", "a@v1.0.0"}, {"a@v1.1.0>a@v1.0.0 a>b +a@v1.1.0", "a@v1.1.0 b", "b"}, {"a>a@v1.0.0-rc,a@v1.0.0 +a", "a", "a@v1.0.0-rc"},
	// several ways to one
	{"a>b,c b>d c>d +a", "a b c d", "d"}, {"a>b,c b>d@v1.3.0 c>d@v1.4.0 +a", "a b c d@v1.4.0", "d@v1.3.0 d@v1.4.0"}, {"a>b +a +b", "a b", "b"}, {"a>b c>b +a +c +b", "a b c", "b"},
}

func TestLists(t *testing.T) {
	for _, x := range lists {
		eachOrder(steps(x.done), func(l []step) {
			s := session.New(wide(), 2)
			for _, y := range l {
				var e api.Errno
				if s, _, e = y.done(s); e != api.OK {
					t.Fatalf("%s: %v is %d", x.done, y, e)
				}
			}
			listed(t, fmt.Sprintf("%.200q", l), s, x.build, x.missing)
		})
	}
}

func TestListsStepByStep(t *testing.T) {
	for i, x := range lists {
		for _, l := range [][]step{steps(x.done), slices.Concat(steps(x.done), steps("-a ~a a>b +a -b +b ~b a> -a"))} {
			after(t, session.New(wide(), memos[i%len(memos)]), fresh(wide()), l...)
		}
	}
}

func TestMissingBehindPutAndDrop(t *testing.T) {
	s := session.New(wide(), 1)
	for _, x := range []struct{ done, build, missing string }{
		{"+a", "a", "a"}, {"a>b,c", "a b c", "b c"}, {"b>d", "a b c d", "c d"}, {"c>", "a b c d", "d"}, {"d>a", "a b c d", ""},
		// Of a manifest's Drop the node is missing, and what only it required is not reached.
		{"-b", "a b c", "b"}, {"-d", "a b c", "b"}, {"-c", "a b c", "b c"}, {"b>d", "a b c d", "c d"}, {"-a", "a", "a"}, {"a>d", "a d", "d"}, {"d>b", "a b d", ""}, {"a>", "a", ""},
		// of one that is not reached
		{"-b", "a", ""}, {"e>b", "a", ""}, {"-e", "a", ""}, {"+d", "a b d", "b"}, {"-a", "a b d", "a b"}, {"~a", "b d", "b"}, {"~d", "", ""}, {"-d", "", ""},
	} {
		var e api.Errno
		if s, _, e = steps(x.done)[0].done(s); e != api.OK {
			t.Fatalf("%s: %d", x.done, e)
		}
		listed(t, x.done, s, x.build, x.missing)
	}
}
