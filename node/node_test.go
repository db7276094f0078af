package node_test

import (
	"cmp"
	"math/rand"
	"slices"
	"strings"
	"testing"

	"graftwood/api"
	"graftwood/node"
	"graftwood/path"
	"graftwood/version"
)

// many is how many octets, or nodes, there are where there are very many of them here.
const many = 20000

// nines is a number of very many digits.
var nines = strings.Repeat("9", many)

// paths are paths in order; the octets of many of them come ahead of an @, so texts of nodes would stand otherwise.
var paths = []string{"-", "0", "A", "Z/z", "a", "a-", "a-b", "a.b", "a.b/c", "a/B", "a/b", "a/b-c", "a/b.c", "a/b/c", "a10", "a9", "aB", "a_", "ab", "a~", "b", "b/a", "~"}

// versions are versions in order, many of them not in that of their octets.
var versions = []string{"v0.0.0-0", "v0.0.0", "v0.0.1", "v1.0.0-2", "v1.0.0-10", "v1.0.0-A", "v1.0.0-a", "v1.0.0-a.2", "v1.0.0-a.10", "v1.0.0-a.b", "v1.0.0", "v1.2.0", "v1.9.0", "v1.10.0", "v2.0.0", "v10.0.0"}

// wrongPaths and wrongVersions are texts that are none; what joins one with its @ is among them.
var (
	wrongPaths = []string{
		"", ".", "/", ".a", "a.", "a/", "/a", "a//b", "a/./b", "a/.b", "a./b", "@", "a@", "@a", "a@b", "a@v1.0.0", " a", "a ",
		"a b", "a\n", "\"a\"", "a+", "é", "a\x00", "\xff", "a\xff", strings.Repeat("a/", many),
	}
	wrongVersions = []string{
		"", "v", "1.0.0", "v1", "v1.0", "v1.0.0.0", "v01.0.0", "v1.0.0-", "v1.0.0-01", "v1.0.0-a..b", "v1.0.0+a", "V1.0.0", "@",
		"@v1.0.0", "v1.0.0@", "v1.0.0@v1.0.0", "v1.0.0-a@b", " v1.0.0", "v1.0.0 ", "v1.0.0\n", "a@v1.0.0", "v1.0.0-é", "v1.0.0\x00",
		"v1.0.0-\xff", "latest", "v0" + nines + ".0.0",
	}
)

// n is a node.
func n(path, version string) api.Node { return api.Node{Path: path, Version: version} }

// rising are nodes in order, none twice.
func rising() []api.Node {
	var l []api.Node
	for _, p := range paths {
		for _, v := range versions {
			l = append(l, n(p, v))
		}
	}
	return l
}

// few are some nodes in order, that differ by path, by version, and by both.
func few() []api.Node {
	return []api.Node{
		n("a", "v1.0.0-2"), n("a", "v1.0.0-10"), n("a", "v1.9.0"), n("a", "v1.10.0"), n("a-b", "v0.0.1"), n("a/b", "v1.9.0"),
		n("a/b", "v1.10.0"), n("b", "v0.0.0"),
	}
}

// wrong are nodes that may not be: by the path, by the version, or by both.
func wrong() []api.Node {
	var l []api.Node
	for _, p := range wrongPaths {
		l = append(l, n(p, "v1.0.0"))
	}
	for _, v := range wrongVersions {
		l = append(l, n("a", v))
	}
	// Of nothing, of parts that are about, and of ones that an @, or a slash, is on the wrong side of.
	return append(l, api.Node{}, n("v1.0.0", "a"), n("a@v1.0.0", ""), n("", "a@v1.0.0"), n("a@", "v1.0.0"), n("a/", "v1"))
}

// lists are lists that are no sets, of which none is wrong but as a list, or but in one of its nodes.
func lists() [][]api.Node {
	f := few()
	l := [][]api.Node{
		{f[1], f[0]}, {f[3], f[2]}, {f[5], f[4]}, {f[7], f[0]}, {f[5], f[1]}, {n("a", "v1.10.0"), n("a", "v1.9.0")},
		{f[0], f[0]}, {f[0], f[1], f[1]}, {f[0], f[0], f[1]}, {f[0], f[1], f[0]}, {f[0], f[2], f[1], f[3]},
		// What comes ahead by texts, and not by nodes.
		{n("a-b", "v1.0.0"), n("a", "v1.0.0")}, {n("a/b", "v1.0.0"), n("a", "v1.0.0")}, {n("a", "v1.0.0"), n("a", "v1.0.0-a")},
		slices.Concat(f, f), append(few(), f[7]), append(few(), f[0]), append([]api.Node{f[7]}, f...),
	}
	for _, w := range wrong() {
		l = append(l, []api.Node{w}, []api.Node{w, w}, append(few(), w), append([]api.Node{w}, f...), []api.Node{f[0], w, f[7]})
	}
	return l
}

// pick has the nodes of l whose bits are there.
func pick(l []api.Node, bits int) []api.Node {
	var some []api.Node
	for i, x := range l {
		if bits>>i&1 == 1 {
			some = append(some, x)
		}
	}
	return some
}

// short is a node's text, cut where it is too long to be shown.
func short(x api.Node) string {
	if s := x.Path + " @ " + x.Version; len(s) > 60 {
		return s[:60] + ".."
	}
	return x.Path + " @ " + x.Version
}

// shorts are those of a list.
func shorts(l []api.Node) string {
	var all []string
	for _, x := range l[:min(len(l), 12)] {
		all = append(all, short(x))
	}
	return "[" + strings.Join(all, ", ") + "]"
}

// is holds a set and an error against what is asked.
func is(t *testing.T, what string, got []api.Node, e api.Errno, want []api.Node) {
	t.Helper()
	if !slices.Equal(got, want) || e != api.OK {
		t.Errorf("%s: %s, %d, not %s", what, shorts(got), e, shorts(want))
	}
}

// refused holds a list and an error against ErrArg, and nothing.
func refused(t *testing.T, what string, got []api.Node, e api.Errno) {
	t.Helper()
	if len(got) != 0 || e != api.ErrArg {
		t.Errorf("%s: %s, %d, not ErrArg", what, shorts(got), e)
	}
}

// P5.1

func TestMay(t *testing.T) {
	for _, x := range append(rising(), n(strings.Repeat("a/", many)+"a", "v1.0.0"), n("a", "v"+nines+".0.0-"+nines)) {
		if !node.May(x) {
			t.Errorf("May(%s): false", short(x))
		}
	}
}

func TestMayOfWrong(t *testing.T) {
	for _, x := range wrong() {
		if node.May(x) {
			t.Errorf("May(%s): true", short(x))
		}
	}
	for _, p := range wrongPaths {
		for _, v := range wrongVersions {
			if node.May(n(p, v)) {
				t.Errorf("May(%s): true", short(n(p, v)))
			}
		}
	}
}

func TestCmp(t *testing.T) {
	l := rising()
	for i, a := range l {
		for j, b := range l {
			if c, e := node.Cmp(a, b); c != cmp.Compare(i, j) || e != api.OK {
				t.Fatalf("Cmp(%s, %s): %d, %d", short(a), short(b), c, e)
			}
		}
	}
}

func TestCmpOfWrong(t *testing.T) {
	for _, w := range wrong() {
		// Of two with other paths, too, where the versions need no look.
		for _, x := range []api.Node{n("a", "v1.0.0"), n("b", "v1.0.0"), n("-", "v0.0.0"), w, {}} {
			if c, e := node.Cmp(w, x); c != 0 || e != api.ErrArg {
				t.Errorf("Cmp(%s, %s): %d, %d", short(w), short(x), c, e)
			}
			if c, e := node.Cmp(x, w); c != 0 || e != api.ErrArg {
				t.Errorf("Cmp(%s, %s): %d, %d", short(x), short(w), c, e)
			}
		}
	}
}

func TestCheck(t *testing.T) {
	for i, l := range [][]api.Node{nil, {}, few()[:0], few(), rising(), {n("a", "v1.9.0"), n("a", "v1.10.0"), n("a/b", "v0.0.1")}} {
		if e := node.Check(l); e != api.OK {
			t.Errorf("Check of set %d: %d", i, e)
		}
	}
	for _, x := range rising() {
		if e := node.Check([]api.Node{x}); e != api.OK {
			t.Errorf("Check of %s alone: %d", short(x), e)
		}
	}
	for _, l := range lists() {
		if e := node.Check(l); e != api.ErrArg {
			t.Errorf("Check(%s): %d", shorts(l), e)
		}
	}
}

func TestCheckOfEachShortList(t *testing.T) {
	f := []api.Node{n("a", "v1.9.0"), n("a", "v1.10.0"), n("a-b", "v0.0.1"), n("a/b", "v0.0.0")}
	var grow func(l []api.Node, last int, want api.Errno)
	grow = func(l []api.Node, last int, want api.Errno) {
		if e := node.Check(l); e != want {
			t.Errorf("Check(%s): %d", shorts(l), e)
		}
		if len(l) == 5 {
			return
		}
		for i, x := range f {
			then := want
			if i <= last {
				then = api.ErrArg
			}
			grow(append(l[:len(l):len(l)], x), i, then)
		}
		grow(append(l[:len(l):len(l)], n("a", "v1.9")), last, api.ErrArg)
	}
	grow(nil, -1, api.OK)
}

func TestSet(t *testing.T) {
	f := few()
	for _, l := range [][]api.Node{nil, {}, f[:0]} {
		s, e := node.Set(l)
		is(t, "Set of nothing", s, e, nil)
	}
	s, e := node.Set([]api.Node{f[4], f[4], f[4]})
	is(t, "Set of one node told often", s, e, f[4:5])
	s, e = node.Set(f)
	is(t, "Set of a set", s, e, f)
	s, e = node.Set([]api.Node{f[6], f[3], f[0], f[6], f[2], f[3], f[0], f[7]})
	is(t, "Set of what is out of order", s, e, []api.Node{f[0], f[2], f[3], f[6], f[7]})
	// A path that is also a part of another one, and versions that swap.
	s, e = node.Set([]api.Node{n("ab", "v1.0.0"), n("a", "v1.10.0"), n("a", "v1.9.0"), n("a", "v1.10.0-a")})
	is(t, "Set", s, e, []api.Node{n("a", "v1.9.0"), n("a", "v1.10.0-a"), n("a", "v1.10.0"), n("ab", "v1.0.0")})
}

func TestSetInWhateverOrder(t *testing.T) {
	chance := rand.New(rand.NewSource(5))
	all := rising()
	for range 60 {
		l := slices.Concat(all, all, all[:chance.Intn(len(all))])
		chance.Shuffle(len(l), func(i, j int) { l[i], l[j] = l[j], l[i] })
		was := slices.Clone(l)
		s, e := node.Set(l)
		is(t, "Set of all, twice and more", s, e, all)
		if !slices.Equal(l, was) {
			t.Error("Set changed its list")
		}
	}
}

func TestSetOfWrong(t *testing.T) {
	for _, w := range wrong() {
		for _, l := range [][]api.Node{{w}, {w, w}, append(few(), w), append([]api.Node{w}, few()...), {few()[3], w, few()[3]}} {
			s, e := node.Set(l)
			refused(t, "Set of "+shorts(l), s, e)
		}
	}
}

// P5.2

func TestOfEachSet(t *testing.T) {
	f := few()
	for bits := range 1 << len(f) {
		l := pick(f, bits)
		what := " of " + shorts(l) + " and "
		for i, x := range f {
			there, e := node.Has(l, x)
			if there != (bits>>i&1 == 1) || e != api.OK {
				t.Errorf("Has%s%s: %v, %d", what, short(x), there, e)
			}
			with, e := node.With(l, x)
			is(t, "With"+what+short(x), with, e, pick(f, bits|1<<i))
			without, e := node.Without(l, x)
			is(t, "Without"+what+short(x), without, e, pick(f, bits&^(1<<i)))
		}
	}
}

func TestMinusOfEachTwo(t *testing.T) {
	f := few()
	for bits := range 1 << len(f) {
		l := pick(f, bits)
		for more := range 1 << len(f) {
			m := pick(f, more)
			rest, e := node.Minus(l, m)
			is(t, "Minus of "+shorts(l)+" and "+shorts(m), rest, e, pick(f, bits&^more))
		}
	}
}

func TestOfNothing(t *testing.T) {
	x := n("a", "v1.0.0")
	for i, l := range [][]api.Node{nil, {}, few()[:0]} {
		if there, e := node.Has(l, x); there || e != api.OK {
			t.Errorf("Has of nothing %d: %v, %d", i, there, e)
		}
		s, e := node.With(l, x)
		is(t, "With of nothing", s, e, []api.Node{x})
		s, e = node.Without(l, x)
		is(t, "Without of nothing", s, e, nil)
		s, e = node.Minus(l, few())
		is(t, "Minus of nothing", s, e, nil)
		s, e = node.Minus(few(), l)
		is(t, "Minus without nothing", s, e, few())
	}
	s, e := node.Minus(few(), few())
	is(t, "Minus without itself", s, e, nil)
	s, e = node.Without([]api.Node{x}, x)
	is(t, "Without of the only one", s, e, nil)
}

func TestOfMany(t *testing.T) {
	all := rising()
	for i, x := range all {
		rest := slices.Concat(all[:i], all[i+1:])
		if there, e := node.Has(all, x); !there || e != api.OK {
			t.Errorf("Has(all, %s): %v, %d", short(x), there, e)
		}
		if there, e := node.Has(rest, x); there || e != api.OK {
			t.Errorf("Has(all but it, %s): %v, %d", short(x), there, e)
		}
		s, e := node.With(rest, x)
		is(t, "With of all but "+short(x), s, e, all)
		s, e = node.With(all, x)
		is(t, "With of all and "+short(x), s, e, all)
		s, e = node.Without(all, x)
		is(t, "Without of all and "+short(x), s, e, rest)
		s, e = node.Without(rest, x)
		is(t, "Without of all but "+short(x), s, e, rest)
		s, e = node.Minus(all, rest)
		is(t, "Minus of all and all but "+short(x), s, e, []api.Node{x})
	}
}

func TestOfNoSet(t *testing.T) {
	x := few()[3]
	for _, l := range lists() {
		if there, e := node.Has(l, x); there || e != api.ErrArg {
			t.Errorf("Has(%s): %v, %d", shorts(l), there, e)
		}
		s, e := node.With(l, x)
		refused(t, "With of "+shorts(l), s, e)
		s, e = node.Without(l, x)
		refused(t, "Without of "+shorts(l), s, e)
		for _, m := range [][]api.Node{nil, few(), {x}, l} {
			s, e = node.Minus(l, m)
			refused(t, "Minus of "+shorts(l), s, e)
			s, e = node.Minus(m, l)
			refused(t, "Minus without "+shorts(l), s, e)
		}
	}
}

func TestOfANodeThatMayNotBe(t *testing.T) {
	for _, w := range wrong() {
		for _, l := range [][]api.Node{nil, few(), few()[:1]} {
			if there, e := node.Has(l, w); there || e != api.ErrArg {
				t.Errorf("Has(%s, %s): %v, %d", shorts(l), short(w), there, e)
			}
			s, e := node.With(l, w)
			refused(t, "With of "+short(w), s, e)
			s, e = node.Without(l, w)
			refused(t, "Without of "+short(w), s, e)
		}
	}
}

func TestWhatIsHandedInStays(t *testing.T) {
	f := few()
	for bits := range 1 << len(f) {
		// Behind the list there is room, and what stands there is to stay, too.
		room := append(pick(f, bits), n("x", "v1.0.0"), n("y", "v1.0.0"))
		was := slices.Clone(room)
		l := room[:len(room)-2]
		for _, x := range f {
			for _, answer := range sets(l, x) {
				for i := range answer {
					answer[i] = api.Node{}
				}
			}
			node.Has(l, x)
			node.Check(l)
			if !slices.Equal(room, was) {
				t.Fatalf("%s became %s with %s", shorts(was), shorts(room), short(x))
			}
		}
	}
}

// sets are all sets that come of l, and x.
func sets(l []api.Node, x api.Node) [][]api.Node {
	set, _ := node.Set(l)
	with, _ := node.With(l, x)
	without, _ := node.Without(l, x)
	minus, _ := node.Minus(l, []api.Node{x})
	none, _ := node.Minus([]api.Node{x}, l)
	all, _ := node.Minus(l, nil)
	return [][]api.Node{set, with, without, minus, none, all}
}

// P5.3

func TestText(t *testing.T) {
	for _, c := range []struct {
		x    api.Node
		want string
	}{
		{n("a", "v1.0.0"), "a@v1.0.0"}, {n("golang.org/x/mod", "v0.17.0-rc.1"), "golang.org/x/mod@v0.17.0-rc.1"},
		{api.Node{}, "@"}, {n("a", ""), "a@"}, {n("", "v1.0.0"), "@v1.0.0"}, {n("@", "@"), "@@@"}, {n("a b", "x\n"), "a b@x\n"},
		{n("\xff", "\x00"), "\xff@\x00"}, {n("é", "日本"), "é@日本"}, {n("a@v1.0.0", "v2.0.0"), "a@v1.0.0@v2.0.0"},
	} {
		if s := node.Text(c.x); s != c.want {
			t.Errorf("Text(%s): %q", short(c.x), s)
		}
	}
	for _, x := range slices.Concat(rising(), wrong()) {
		if s := node.Text(x); s != x.Path+"@"+x.Version {
			t.Errorf("Text(%s): %.60q", short(x), s)
		}
	}
}

// reads holds Read against what its words say: of each way to cut s at an @, is it one of a node that may be?
func reads(t *testing.T, s string) {
	t.Helper()
	want, e := api.Node{}, api.ErrArg
	for i := range len(s) {
		if s[i] == '@' && path.May(s[:i]) && version.May(s[i+1:]) {
			want, e = n(s[:i], s[i+1:]), api.OK
		}
	}
	if x, got := node.Read(s); x != want || got != e {
		t.Errorf("Read(%.60q): %s, %d", s, short(x), got)
	}
}

func TestRead(t *testing.T) {
	for s, want := range map[string]api.Node{
		"a@v1.0.0": n("a", "v1.0.0"), "a/b.c@v1.2.3-x.0": n("a/b.c", "v1.2.3-x.0"), "v1.0.0@v1.0.0": n("v1.0.0", "v1.0.0"),
		"~@v0.0.0--": n("~", "v0.0.0--"), "a@v" + nines + ".0.0": n("a", "v"+nines+".0.0"),
	} {
		if x, e := node.Read(s); x != want || e != api.OK {
			t.Errorf("Read(%.60q): %s, %d", s, short(x), e)
		}
	}
}

func TestReadOfWrong(t *testing.T) {
	for _, s := range []string{
		"", "@", "@@", "a", "v1.0.0", "av1.0.0", "a@", "@v1.0.0", "a@@v1.0.0", "@a@v1.0.0", "a@v1.0.0@", "a@v1.0.0@v1.0.0", "a@b@v1.0.0",
		"a@v1", "a@1.0.0", "a@latest", "a@v1.0.0+b", "a@v01.0.0", "a@v1.0.0-01", ".a@v1.0.0", "a.@v1.0.0", "a/@v1.0.0", "/a@v1.0.0",
		"a//b@v1.0.0", "a @v1.0.0", "a@ v1.0.0", " a@v1.0.0", "a@v1.0.0 ", "a@v1.0.0\n", "a v1.0.0", "a\x00v1.0.0", "é@v1.0.0",
		"a＠v1.0.0", "\"a\"@v1.0.0", "v1.0.0@a", strings.Repeat("@", many), strings.Repeat("a", many), strings.Repeat("a@", many) + "v1.0.0",
	} {
		if x, e := node.Read(s); x != (api.Node{}) || e != api.ErrArg {
			t.Errorf("Read(%.60q): %s, %d", s, short(x), e)
		}
	}
}

func TestReadOfEachSort(t *testing.T) {
	parts := []string{"", "@", "a", "a/b", "/", ".", "-", "v1.0.0", "-a", "v1", " ", "\xff"}
	for _, a := range parts {
		for _, b := range parts {
			for _, c := range parts {
				for _, d := range parts {
					reads(t, a+b+c+d)
				}
			}
		}
	}
	for c := range 256 {
		one := string([]byte{byte(c)})
		for _, s := range []string{"a" + one + "v1.0.0", one + "a@v1.0.0", "a" + one + "@v1.0.0", "a@" + one + "v1.0.0", "a@v1.0.0" + one, "a@v1.0.0-" + one} {
			reads(t, s)
		}
	}
}

// P5.4

func TestWhatComesIsASet(t *testing.T) {
	chance := rand.New(rand.NewSource(6))
	all := rising()
	for range 200 {
		var l []api.Node
		for range chance.Intn(40) {
			l = append(l, all[chance.Intn(len(all))])
		}
		s, _ := node.Set(l)
		for _, x := range l {
			if there, e := node.Has(s, x); !there || e != api.OK {
				t.Errorf("Set of %s is without %s", shorts(l), short(x))
			}
		}
		for _, c := range append(sets(s, all[chance.Intn(len(all))]), s) {
			if node.Check(c) != api.OK {
				t.Errorf("no set: %s", shorts(c))
			}
		}
	}
}

func TestOneByOneIsTheSet(t *testing.T) {
	chance := rand.New(rand.NewSource(7))
	all := rising()
	for range 20 {
		var l, s []api.Node
		for range 60 {
			x := all[chance.Intn(len(all))]
			l = append(l, x)
			s, _ = node.With(s, x)
		}
		set, e := node.Set(l)
		is(t, "With, one by one", s, e, set)
		for _, x := range l {
			s, e = node.Without(s, x)
		}
		is(t, "Without, one by one", s, e, nil)
	}
}

func TestOrderIsOne(t *testing.T) {
	l := slices.Concat(few(), rising()[:60], []api.Node{n("a", "v1.0.0-0a"), n("a", "v1.0.0-a0"), n("ab", "v1.0.0-0")})
	for _, a := range l {
		for _, b := range l {
			there, _ := node.Cmp(a, b)
			back, _ := node.Cmp(b, a)
			if there != -back || (there == 0) != (a == b) {
				t.Errorf("Cmp of %s and %s, and turned about: %d, %d", short(a), short(b), there, back)
			}
			for _, c := range l {
				next, _ := node.Cmp(b, c)
				if far, _ := node.Cmp(a, c); there <= 0 && next <= 0 && far > 0 {
					t.Errorf("order goes round: %s, %s, %s", short(a), short(b), short(c))
				}
			}
		}
	}
}

func TestWhatIsWrittenIsRead(t *testing.T) {
	for _, x := range append(rising(), n(strings.Repeat("a/", many)+"a", "v"+nines+".0.0-"+nines)) {
		if back, e := node.Read(node.Text(x)); back != x || e != api.OK {
			t.Errorf("%s, written and read: %s, %d", short(x), short(back), e)
		}
	}
}

func TestWhatIsReadIsWritten(t *testing.T) {
	for _, s := range []string{"a@v1.0.0", "a/b@v1.0.0-x", "v1.0.0@v1.0.0", "-@v0.0.0--.-"} {
		if x, e := node.Read(s); node.Text(x) != s || e != api.OK {
			t.Errorf("%s, read and written: %s, %d", s, node.Text(x), e)
		}
	}
}
