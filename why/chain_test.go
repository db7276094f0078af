package why_test

import (
	"math/rand"
	"slices"
	"testing"

	"graftwood/api"
	"graftwood/node"
	"graftwood/why"
)

// chain asks a chain, and holds it against what is to come.
func chain(t *testing.T, l []api.Need, n api.Node, want []api.Node, no api.Errno) {
	t.Helper()
	if c, e := why.Chain(l, n); !slices.Equal(c, want) || e != no {
		t.Errorf("Chain(%s, %.12q): %s, %d, not %s, %d", short(l), n, short(c), e, short(want), no)
	}
}

// all asks depths, and the chain of each of these nodes, and holds them against the definition.
func all(t *testing.T, l []api.Need, asked []api.Node) {
	t.Helper()
	chains := best(l)
	deep(t, l, depthsBy(chains))
	for _, n := range asked {
		c, reached := chains[n]
		if !reached {
			chain(t, l, n, nil, api.ErrNeed)
			continue
		}
		chain(t, l, n, c, api.OK)
		is(t, l, c, true, api.OK)
	}
}

// P19.2

func TestChain(t *testing.T) {
	for _, x := range []struct{ l, n, want string }{
		// to one that the root needs
		{">a", "a", "a"}, {">b >a >c", "a", "a"}, {">b >a >c", "b", "b"}, {">b >a >c", "c", "c"}, {">a b>a a>b >b", "a", "a"}, {">a >a", "a", "a"},
		// two away, and more
		{">a a>b", "b", "a b"}, {">a a>b b>c", "c", "a b c"}, {">b a>c b>a", "c", "b a c"}, {">e e>d d>c c>b b>a", "a", "e d c b a"}, {">e e>d d>c c>b b>a", "c", "e d c"},
		// to one to which a longer one leads, too
		{">a a>b b>c >c", "c", "c"}, {">a a>b b>c a>c", "c", "a c"}, {">z z>c >a a>b b>c", "c", "z c"},
		{">a a>b b>z >y y>z z>d", "d", "y z d"}, {">a a>a a>b", "b", "a b"},
		{">a a>b b>a b>c", "c", "a b c"}, {"b>d a>d c>a >c >b", "d", "b d"},
		// of the same length the one whose last but one is the least
		{">a >c a>b c>b", "b", "a b"}, {">c >a c>b a>b", "b", "a b"}, {">d >c d>b c>b >e e>b", "b", "c b"}, {">m m>q m>p p>z q>z", "z", "m p z"},
		{">m m>q m>p q>z p>z p>q", "z", "m p z"},
		// of more of these the one whose last but two is, and on
		{">d >c d>m c>m m>z", "z", "c m z"}, {">c >d c>m d>m m>z c>n n>z", "z", "c m z"}, {">d >c d>m c>m m>p p>z d>m", "z", "c m p z"},
		{">d >c d>m c>m m>o m>p o>q p>q q>z", "z", "c m o q z"}, {">g >f g>m f>n m>o n>o o>z", "z", "g m o z"},
		// the least from the root onward would be another one
		{">a >c a>x c>b x>z b>z", "z", "c b z"}, {">a >b a>d b>c c>z d>z", "z", "b c z"}, {">a >b a>c b>c a>d b>d >e e>c d>z c>z", "z", "a c z"},
		{">a >b a>c b>d c>f d>e e>z f>z", "z", "b d e z"}, {">a >b a>d b>c c>e d>e e>z", "z", "b c e z"}, {">a >b a>y b>x y>c x>d c>z d>z", "z", "a y c z"},
		// the least that needs it is no shortest way, or is not reached
		{">b b>z a>z b>a", "z", "b z"}, {">c >d c>z d>a a>z", "z", "c z"}, {">c c>z a>z", "z", "c z"},
		{">c c>z a>z a>c b>a", "z", "c z"}, {">c c>d d>z a>d a>z", "z", "c d z"},
		{">c c>d d>z e>z >e a>z", "z", "e z"}, {">c c>z a>c b>z", "c", "c"},
		// by way of nodes that differ by their versions alone
		{">a@v1.10.0 >a@v1.9.0 a@v1.9.0>b a@v1.10.0>b", "b", "a@v1.9.0 b"}, {">a@v1.10.0 >a@v1.9.0 a@v1.10.0>b", "b", "a@v1.10.0 b"},
		{">a@v1.0.0 >a@v1.0.0-a >a@v1.0.0-10 >a@v1.0.0-2 a@v1.0.0>b a@v1.0.0-a>b a@v1.0.0-10>b", "b", "a@v1.0.0-10 b"},
		{">a@v1.9.0 a@v1.9.0>a@v1.10.0 a@v1.10.0>a@v1.11.0", "a@v1.11.0", "a@v1.9.0 a@v1.10.0 a@v1.11.0"}, {">a@v1.9.0 a@v1.9.0>a@v1.10.0", "a@v1.9.0", "a@v1.9.0"},
		{">a@v1.9.0 >a@v1.10.0 a@v1.9.0>m@v1.0.1 a@v1.10.0>m m>z m@v1.0.1>z", "z", "a@v1.10.0 m z"},
		{">a >b a>b@v1.10.0 b>b@v1.9.0 b@v1.10.0>z b@v1.9.0>z", "z", "b b@v1.9.0 z"},
		// by paths whose order is not that of their elements
		{">a/b >a-b >ab a/b>z a-b>z ab>z", "z", "a-b z"}, {">a/b >a a/b>z a>z", "z", "a z"},
		{">a >A a>z A>z", "z", "A z"}, {">b@v0.0.1 >a@v9.0.0 b@v0.0.1>z a@v9.0.0>z", "z", "a@v9.0.0 z"},
		// to one in a circle
		{">a a>b b>c c>a", "a", "a"}, {">a a>b b>c c>a", "c", "a b c"}, {">x x>b a>b b>c c>a", "a", "x b c a"},
		{">a a>a", "a", "a"}, {">b b>a a>a", "a", "b a"}, {">x >y x>b y>a a>b b>a", "b", "x b"},
	} {
		for _, l := range [][]api.Need{needs(x.l), turned(needs(x.l)), append(needs(x.l), needs(x.l)...)} {
			chain(t, l, one(x.n), nodes(x.want), api.OK)
			all(t, l, append(nodes(x.want), nodes("a b c z none")...))
		}
	}
	long := []api.Node{of(longPath, longVersion), of("a", longVersion)}
	chain(t, []api.Need{{From: long[0], To: long[1]}, {To: long[0]}}, long[1], long, api.OK)
}

func TestChainInEachOrder(t *testing.T) {
	eachOrder(needs(">a >b a>d b>c c>z d>z"), func(l []api.Need) { chain(t, l, one("z"), nodes("b c z"), api.OK) })
	eachOrder(needs(">a >b a>c b>c c>z a>z a>b"), func(l []api.Need) { chain(t, l, one("c"), nodes("a c"), api.OK) })
	eachOrder(needs(">m m>a@v1.10.0 m>a@v1.9.0 a@v1.10.0>z a@v1.9.0>z z>m"), func(l []api.Need) { chain(t, l, one("z"), nodes("m a@v1.9.0 z"), api.OK) })
}

func TestNoChain(t *testing.T) {
	for _, x := range []struct{ l, n string }{
		// of no needs, and to one that is not told of at all
		{"", "a"}, {">a", "b"}, {">a a>b", "c"}, {">a a>b", "a@v1.0.1"}, {">a a>b", "b@v1.0.0-a"}, {">a@v1.9.0", "a@v1.10.0"},
		// to a From that nothing needs
		{"a>b", "a"}, {">a b>a", "b"}, {">a a>c b>c", "b"}, {">a a@v1.0.1>b", "a@v1.0.1"}, {">a b>a b>a", "b"},
		// to one that only a node which is not reached needs
		{"a>b", "b"}, {">a b>c", "c"}, {">a b>c c>d", "d"}, {">a b>c b>a", "c"}, {">a a@v1.0.1>b", "b"},
		// of a circle, and of one that needs itself, that are not reached
		{"a>a", "a"}, {">b a>a", "a"}, {">a b>c c>b", "b"}, {">a b>c c>b c>a", "c"}, {">a b>c c>b b>d", "d"},
	} {
		for _, l := range [][]api.Need{needs(x.l), turned(needs(x.l)), append(needs(x.l), needs(x.l)...)} {
			chain(t, l, one(x.n), nil, api.ErrNeed)
			all(t, l, nodes("a b c d"))
		}
	}
	for _, l := range nothing[api.Need]() {
		chain(t, l, one("a"), nil, api.ErrNeed)
	}
	for _, n := range nodes("q r none a@v1.0.1 w") {
		chain(t, some(), n, nil, api.ErrNeed)
	}
}

// every are all needs of these nodes, and of the root, of itself too.
func every(l []api.Node) []api.Need {
	var out []api.Need
	for _, n := range l {
		out = append(out, api.Need{To: n})
		for _, m := range l {
			out = append(out, api.Need{From: n, To: m})
		}
	}
	return out
}

// part are those needs whose bits are set.
func part(l []api.Need, bits int) []api.Need {
	var out []api.Need
	for i, d := range l {
		if bits>>i&1 == 1 {
			out = append(out, d)
		}
	}
	return out
}

func TestAllOfThree(t *testing.T) {
	three := nodes("a@v1.9.0 a@v1.10.0 a/b@v0.0.1")
	l := every(three)
	for bits := range 1 << len(l) {
		all(t, part(l, bits), append(three, one("a")))
	}
}

func TestSomeOfFour(t *testing.T) {
	four := nodes("a@v1.10.0 a@v1.9.0 b c")
	l := every(four)
	// A step that is no divisor of what there is goes by all kinds.
	for bits := 0; bits < 1<<len(l); bits += 97 {
		all(t, part(l, bits), four)
	}
}

// chance are needs of these nodes, by chance, about so many of each node, and two of the root.
func chance(r *rand.Rand, l []api.Node, many int) []api.Need {
	var out []api.Need
	for range r.Intn(many*len(l) + 1) {
		out = append(out, api.Need{From: l[r.Intn(len(l))], To: l[r.Intn(len(l))]})
	}
	for range r.Intn(4) {
		out = append(out, api.Need{To: l[r.Intn(len(l))]})
	}
	r.Shuffle(len(out), func(i, j int) { out[i], out[j] = out[j], out[i] })
	return out
}

func TestChance(t *testing.T) {
	r := rand.New(rand.NewSource(19))
	ten := nodes("a-b a/b a@v1.9.0 a@v1.10.0 a@v1.0.0-rc b c@v1.0.0-2 c@v1.0.0-10 d e")
	for range 3000 {
		all(t, chance(r, ten, 2), ten)
	}
}

// P19.3

// follows holds what a chain is to be, of all that Depths tells.
func follows(t *testing.T, l []api.Need) {
	t.Helper()
	depths, _ := why.Depths(l)
	for _, x := range depths {
		c, e := why.Chain(l, x.N)
		if len(c) != x.D || len(c) == 0 || e != api.OK || c[len(c)-1] != x.N {
			t.Errorf("%s: Chain to %q is %s, %d, but it is %d away", short(l), x.N, short(c), e, x.D)
			continue
		}
		is(t, l, c, true, api.OK)
		if ahead := c[:len(c)-1]; len(ahead) > 0 {
			chain(t, l, ahead[len(ahead)-1], ahead, api.OK)
		}
		for i, n := range c {
			if slices.Contains(c[:i], n) {
				t.Errorf("%s: Chain to %q has one twice: %s", short(l), x.N, short(c))
			}
		}
	}
}

// noLonger holds that with one need more all that has a chain has one that is no longer.
func noLonger(t *testing.T, l []api.Need, more api.Need) {
	t.Helper()
	old, _ := why.Depths(l)
	now, _ := why.Depths(append([]api.Need{more}, l...))
	for _, x := range old {
		at := slices.IndexFunc(now, func(y api.Deep) bool { return y.N == x.N })
		if at < 0 || now[at].D > x.D {
			t.Errorf("%s: with %.12q more, %q is no more %d away", short(l), more, x.N, x.D)
			continue
		}
		if c, e := why.Chain(append(slices.Clone(l), more), x.N); len(c) != now[at].D || e != api.OK {
			t.Errorf("%s: with %.12q more, Chain to %q is %s, %d", short(l), more, x.N, short(c), e)
		}
	}
}

func TestFollows(t *testing.T) {
	r := rand.New(rand.NewSource(193))
	follows(t, some())
	follows(t, turned(some()))
	eight := nodes("a@v1.10.0 a@v1.9.0 b c d e f g")
	for range 2000 {
		l := chance(r, eight, 3)
		follows(t, l)
		noLonger(t, l, api.Need{From: eight[r.Intn(8)], To: eight[r.Intn(8)]})
		noLonger(t, l, api.Need{To: eight[r.Intn(8)]})
		noLonger(t, l, api.Need{From: one("none"), To: eight[r.Intn(8)]})
	}
	for _, d := range every(nodes("a b c d q r v w x y z none")) {
		noLonger(t, some(), d)
		noLonger(t, needs(">a a>b b>c c>d d>q q>r"), d)
	}
}

func TestExamples(t *testing.T) {
	chain(t, needs(">a a>b"), one("b"), nodes("a b"), api.OK)
	chain(t, needs(">a >c a>b c>b"), one("b"), nodes("a b"), api.OK)
	chain(t, needs(">a >c"), one("b"), nil, api.ErrNeed)
	c, _ := why.Chain(needs(">b@v1.10.0 b@v1.10.0>a@v1.0.0-rc"), one("a@v1.0.0-rc"))
	if len(c) != 2 || node.Text(c[0]) != "b@v1.10.0" || node.Text(c[1]) != "a@v1.0.0-rc" {
		t.Errorf("root needs b, and that needs a: %s", short(c))
	}
}
