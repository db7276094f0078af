package intern_test

import (
	"fmt"
	"math"
	"math/rand"
	"slices"
	"strings"
	"sync"
	"testing"

	"graftwood/api"
	"graftwood/intern"
)

// of is a node.
func of(path, version string) api.Node { return api.Node{Path: path, Version: version} }

// The nodes that are named here: two of them are of one path, two of one version.
var (
	a = of("a", "v1.0.0")
	b = of("b", "v1.0.0")
	c = of("c", "v1.2.3-rc.1")
	d = of("a", "v1.10.0")
)

// pool are all of them, and some that are nearly the same.
var pool = []api.Node{
	a, b, c, d, of("a", "v1.0.1"), of("A", "v1.0.0"), of("a/b", "v1.0.0"), of("ab", "v1.0.0"), of("a", "v1.0.0-0"), of("a", "v1.0.0-a"), of("c", "v1.2.3-rc.2"),
	of("c", "v1.2.3"), of("golang.org/x/mod", "v0.21.0"), of("a/b/c", "v0.0.0"), of("b", "v100000000000000000000.0.0"), of("a~1", "v1.0.0"),
}

// wrong are nodes that may not be.
var wrong = []api.Node{
	{}, of("a", ""), of("", "v1.0.0"), of("a", "1.0.0"), of("a", "v1.0"), of("a", "v01.0.0"), of("a", "v1.0.0-"), of("a", "v1.0.0-01"), of("a", "v1.0.0+b"),
	of("a", "v1.0.0 "), of("a", "V1.0.0"), of("a/", "v1.0.0"), of("/a", "v1.0.0"), of("a//b", "v1.0.0"), of("a.", "v1.0.0"), of(".a", "v1.0.0"), of("a b", "v1.0.0"),
	of("a@", "v1.0.0"), of("a@v1.0.0", ""), of("v1.0.0", "a"), of("\x00", "v1.0.0"), of("\xff", "v1.0.0"), of("é", "v1.0.0"), of("a", "v1.0.0\n"),
}

// off are numbers of no node, if there are that many.
func off(many int) []int {
	return []int{-1, -2, math.MinInt, math.MinInt32, many, many + 1, 2*many + 1, 1 << 31, 1 << 32, math.MaxInt, -many - 1}
}

// mayBe are names that may be.
func mayBe() []api.Names {
	l := []api.Names{
		{}, {L: []api.Node{}}, {L: make([]api.Node, 0, 3)},
		namesOf(a, b), namesOf(b, a), namesOf(a, d), namesOf(d, a), namesOf(a, b, c), namesOf(c, b, a), namesOf(b, d, a), namesOf(c, d, b, a), namesOf(pool...),
	}
	for _, n := range pool {
		l = append(l, namesOf(n))
	}
	return l
}

// mayNot are names that may not be: with a node that may not be, first, in the midst and last, and with one twice.
func mayNot() []api.Names {
	l := []api.Names{
		namesOf(a, a), namesOf(a, a, b), namesOf(a, b, a), namesOf(b, a, a), namesOf(a, b, b), namesOf(a, a, a), namesOf(a, b, c, d, c), namesOf(d, d, d, d),
		namesOf(append(slices.Clone(pool), pool[0])...), namesOf(append(slices.Clone(pool), pool[len(pool)-1])...),
	}
	for _, n := range wrong {
		l = append(l, namesOf(n), namesOf(n, a), namesOf(a, n), namesOf(n, a, b), namesOf(a, n, b), namesOf(a, b, n), namesOf(n, n), namesOf(a, n, a), namesOf(a, a, n))
	}
	return l
}

// P10.1

func TestCheck(t *testing.T) {
	for _, m := range mayBe() {
		if e := intern.Check(m); e != api.OK || !fits(m) {
			t.Errorf("Check of names that may be, %+v: %d", m, e)
		}
	}
	for _, m := range mayNot() {
		if e := intern.Check(m); e != api.ErrArg || fits(m) {
			t.Errorf("Check of names that may not be, %+v: %d", m, e)
		}
	}
}

func TestCheckOfEachShortList(t *testing.T) {
	few := []api.Node{a, b, c, d, of("a", "v1.0.1"), {}, of("a", "v1.0")}
	var grow func(l []api.Node)
	grow = func(l []api.Node) {
		want := api.OK
		if !fits(namesOf(l...)) {
			want = api.ErrArg
		}
		if e := intern.Check(namesOf(l...)); e != want {
			t.Errorf("Check of %+v: %d, not %d", l, e, want)
		}
		for _, n := range few {
			if len(l) < 4 {
				grow(append(slices.Clone(l), n))
			}
		}
	}
	grow(nil)
}

// finds asks a node's number, and holds it against the definition.
func finds(t *testing.T, m api.Names, n api.Node) {
	t.Helper()
	id, e := intern.Find(m, n)
	if want, no := found(m, n); id != want || e != no {
		t.Errorf("Find(%+v, %+v): %d, %d, not %d, %d", m, n, id, e, want, no)
	}
}

func TestFind(t *testing.T) {
	for _, x := range []struct {
		m    api.Names
		n    api.Node
		want int
		e    api.Errno
	}{
		// that are there, first, in the midst and last
		{namesOf(a), a, 0, api.OK}, {namesOf(c), c, 0, api.OK}, {namesOf(a, b), a, 0, api.OK}, {namesOf(a, b), b, 1, api.OK}, {namesOf(b, a), a, 1, api.OK},
		{namesOf(a, b, c), a, 0, api.OK}, {namesOf(a, b, c), b, 1, api.OK}, {namesOf(a, b, c), c, 2, api.OK}, {namesOf(c, d, b, a), d, 1, api.OK},
		{namesOf(c, d, b, a), a, 3, api.OK}, {namesOf(a, d), d, 1, api.OK}, {namesOf(d, a), d, 0, api.OK}, {namesOf(pool...), pool[7], 7, api.OK},
		// that are not, of nothing and of some, by the path alone and by the version alone
		{api.Names{}, a, 0, api.ErrNone}, {namesOf([]api.Node{}...), a, 0, api.ErrNone}, {namesOf(a), b, 0, api.ErrNone}, {namesOf(a), d, 0, api.ErrNone},
		{namesOf(d), a, 0, api.ErrNone}, {namesOf(a, b, c), d, 0, api.ErrNone}, {namesOf(a, b, c), of("c", "v1.0.0"), 0, api.ErrNone},
		{namesOf(a, b, c), of("b", "v1.2.3-rc.1"), 0, api.ErrNone}, {namesOf(a, b, c), of("a/b", "v1.0.0"), 0, api.ErrNone},
		{namesOf(a, b, c), of("A", "v1.0.0"), 0, api.ErrNone},
		// what is refused, be there what may
		{namesOf(a), api.Node{}, 0, api.ErrArg}, {api.Names{}, api.Node{}, 0, api.ErrArg}, {namesOf(a, b), of("b", "v1.0"), 0, api.ErrArg},
		{namesOf(a, a), a, 0, api.ErrArg}, {namesOf(a, b, b), a, 0, api.ErrArg}, {namesOf(b, a, a), c, 0, api.ErrArg}, {namesOf(a, api.Node{}), a, 0, api.ErrArg},
		{namesOf(a, of("b", "1.0.0")), of("b", "1.0.0"), 0, api.ErrArg}, {namesOf(api.Node{}), b, 0, api.ErrArg}, {namesOf(api.Node{}), api.Node{}, 0, api.ErrArg},
	} {
		if id, e := intern.Find(x.m, x.n); id != x.want || e != x.e {
			t.Errorf("Find(%+v, %+v): %d, %d, not %d, %d", x.m, x.n, id, e, x.want, x.e)
		}
		finds(t, x.m, x.n)
	}
}

func TestFindEach(t *testing.T) {
	for _, m := range append(mayBe(), mayNot()...) {
		for _, n := range append(slices.Clone(pool), wrong...) {
			finds(t, m, n)
		}
	}
}

// sees asks numbers' nodes, and holds them against the definition.
func sees(t *testing.T, m api.Names, ids ...int) {
	t.Helper()
	l, e := intern.At(m, ids...)
	if want, no := there(m, ids); !slices.Equal(l, want) || e != no || e != api.OK && l != nil {
		t.Errorf("At(%+v, %d): %+v, %d, not %+v, %d", m, ids, l, e, want, no)
	}
}

func TestAt(t *testing.T) {
	abc := namesOf(a, b, c)
	for _, x := range []struct {
		m    api.Names
		ids  []int
		want []api.Node
		e    api.Errno
	}{
		{api.Names{}, nil, nil, api.OK}, {namesOf([]api.Node{}...), []int{}, nil, api.OK}, {abc, nil, nil, api.OK}, {abc, []int{}, nil, api.OK},
		{namesOf(a), []int{0}, []api.Node{a}, api.OK}, {abc, []int{0}, []api.Node{a}, api.OK}, {abc, []int{1}, []api.Node{b}, api.OK}, {abc, []int{2}, []api.Node{c}, api.OK},
		{abc, []int{0, 1, 2}, []api.Node{a, b, c}, api.OK}, {abc, []int{2, 1, 0}, []api.Node{c, b, a}, api.OK}, {abc, []int{1, 1}, []api.Node{b, b}, api.OK},
		{abc, []int{2, 0, 2, 0, 1}, []api.Node{c, a, c, a, b}, api.OK}, {namesOf(a), []int{0, 0, 0}, []api.Node{a, a, a}, api.OK},
		// of no number
		{api.Names{}, []int{0}, nil, api.ErrNone}, {api.Names{}, []int{-1}, nil, api.ErrNone}, {namesOf(a), []int{1}, nil, api.ErrNone},
		{namesOf(a), []int{-1}, nil, api.ErrNone},
		{abc, []int{3}, nil, api.ErrNone}, {abc, []int{4}, nil, api.ErrNone}, {abc, []int{math.MaxInt}, nil, api.ErrNone},
		{abc, []int{math.MinInt}, nil, api.ErrNone},
		{abc, []int{3, 0, 1}, nil, api.ErrNone}, {abc, []int{0, 3, 1}, nil, api.ErrNone}, {abc, []int{0, 1, 3}, nil, api.ErrNone},
		{abc, []int{0, -1}, nil, api.ErrNone},
		// of names that may not be, whatever the numbers are
		{namesOf(a, a), nil, nil, api.ErrArg}, {namesOf(a, a), []int{0}, nil, api.ErrArg}, {namesOf(a, a), []int{2}, nil, api.ErrArg},
		{namesOf(a, a), []int{-1}, nil, api.ErrArg},
		{namesOf(a, api.Node{}), []int{0}, nil, api.ErrArg}, {namesOf(api.Node{}), []int{1}, nil, api.ErrArg},
		{namesOf(a, b, of("c", "v1")), []int{0, 1}, nil, api.ErrArg},
	} {
		if l, e := intern.At(x.m, x.ids...); !slices.Equal(l, x.want) || e != x.e {
			t.Errorf("At(%+v, %d): %+v, %d, not %+v, %d", x.m, x.ids, l, e, x.want, x.e)
		}
		sees(t, x.m, x.ids...)
	}
}

func TestAtEach(t *testing.T) {
	for _, m := range append(mayBe(), mayNot()...) {
		many := len(m.L)
		sees(t, m)
		for _, id := range off(many) {
			sees(t, m, id)
			sees(t, m, id, 0)
			sees(t, m, 0, id)
			sees(t, m, 0, id, many-1)
			sees(t, m, id, id)
		}
		for i := range many {
			for j := range many {
				sees(t, m, i)
				sees(t, m, i, j)
				sees(t, m, j, i, j)
			}
		}
	}
}

// P10.2

// names tells All some nodes, and Id if it is one, and holds what they answer against the definition.
func names(t *testing.T, m api.Names, l ...api.Node) api.Names {
	t.Helper()
	ids, x, e := intern.All(m, l...)
	wantIds, want, no := given(m, l)
	if !slices.Equal(ids, wantIds) || !equal(x, want) || e != no || e != api.OK && ids != nil {
		t.Errorf("All(%+v, %+v): %d, %+v, %d, not %d, %+v, %d", m, l, ids, x, e, wantIds, want, no)
	}
	if len(l) != 1 {
		return x
	}
	wantId := 0
	if no == api.OK {
		wantId = wantIds[0]
	}
	if id, x, e := intern.Id(m, l[0]); id != wantId || !equal(x, want) || e != no {
		t.Errorf("Id(%+v, %+v): %d, %+v, %d, not %d, %+v, %d", m, l[0], id, x, e, wantId, want, no)
	}
	return x
}

func TestExamples(t *testing.T) {
	id, m, e := intern.Id(api.Names{}, a)
	if id != 0 || !equal(m, namesOf(a)) || e != api.OK {
		t.Errorf("the first one: %d, %+v, %d", id, m, e)
	}
	id, x, e := intern.Id(m, a)
	if id != 0 || !equal(x, m) || e != api.OK {
		t.Errorf("told again: %d, %+v, %d", id, x, e)
	}
	if l, e := intern.At(m, 1); l != nil || e != api.ErrNone {
		t.Errorf("At of 1 of one name: %+v, %d", l, e)
	}
}

func TestId(t *testing.T) {
	for _, x := range []struct {
		m    api.Names
		n    api.Node
		id   int
		want api.Names
		e    api.Errno
	}{
		{api.Names{}, a, 0, namesOf(a), api.OK}, {namesOf([]api.Node{}...), c, 0, namesOf(c), api.OK},
		// that are there, first, in the midst and last
		{namesOf(a), a, 0, namesOf(a), api.OK}, {namesOf(a, b), a, 0, namesOf(a, b), api.OK}, {namesOf(a, b), b, 1, namesOf(a, b), api.OK},
		{namesOf(c, a, b), c, 0, namesOf(c, a, b), api.OK}, {namesOf(c, a, b), a, 1, namesOf(c, a, b), api.OK}, {namesOf(c, a, b), b, 2, namesOf(c, a, b), api.OK},
		// that are not, by the path alone and by the version alone
		{namesOf(a), b, 1, namesOf(a, b), api.OK}, {namesOf(a), d, 1, namesOf(a, d), api.OK}, {namesOf(c, a), b, 2, namesOf(c, a, b), api.OK},
		{namesOf(c, b, a), d, 3, namesOf(c, b, a, d), api.OK}, {namesOf(b), a, 1, namesOf(b, a), api.OK},
		// what is refused
		{api.Names{}, api.Node{}, 0, api.Names{}, api.ErrArg}, {namesOf(a), api.Node{}, 0, namesOf(a), api.ErrArg},
		{namesOf(a, b), of("b", "v1.0"), 0, namesOf(a, b), api.ErrArg},
		{namesOf(a, a), a, 0, namesOf(a, a), api.ErrArg}, {namesOf(b, a, a), a, 0, namesOf(b, a, a), api.ErrArg},
		{namesOf(b, a, a), c, 0, namesOf(b, a, a), api.ErrArg},
		{namesOf(a, api.Node{}), a, 0, namesOf(a, api.Node{}), api.ErrArg}, {namesOf(a, api.Node{}), b, 0, namesOf(a, api.Node{}), api.ErrArg},
		{namesOf(a, b, of("c", "")), b, 0, namesOf(a, b, of("c", "")), api.ErrArg}, {namesOf(api.Node{}, a), a, 0, namesOf(api.Node{}, a), api.ErrArg},
	} {
		if id, m, e := intern.Id(x.m, x.n); id != x.id || !equal(m, x.want) || e != x.e {
			t.Errorf("Id(%+v, %+v): %d, %+v, %d, not %d, %+v, %d", x.m, x.n, id, m, e, x.id, x.want, x.e)
		}
		names(t, x.m, x.n)
	}
}

func TestAll(t *testing.T) {
	ab := namesOf(a, b)
	for _, x := range []struct {
		m    api.Names
		l    []api.Node
		ids  []int
		want api.Names
		e    api.Errno
	}{
		// of no nodes
		{api.Names{}, nil, nil, api.Names{}, api.OK}, {namesOf([]api.Node{}...), []api.Node{}, nil, api.Names{}, api.OK}, {ab, nil, nil, ab, api.OK},
		{ab, []api.Node{}, nil, ab, api.OK},
		// of some, none of which are there, all of which are, and some of which are
		{api.Names{}, []api.Node{a}, []int{0}, namesOf(a), api.OK}, {api.Names{}, []api.Node{c, a, b}, []int{0, 1, 2}, namesOf(c, a, b), api.OK},
		{ab, []api.Node{d, c}, []int{2, 3}, namesOf(a, b, d, c), api.OK}, {ab, []api.Node{b, a}, []int{1, 0}, ab, api.OK}, {ab, []api.Node{a}, []int{0}, ab, api.OK},
		{ab, []api.Node{c, a}, []int{2, 0}, namesOf(a, b, c), api.OK}, {ab, []api.Node{a, c}, []int{0, 2}, namesOf(a, b, c), api.OK},
		{ab, []api.Node{d, b, c, a}, []int{2, 1, 3, 0}, namesOf(a, b, d, c), api.OK},
		// of one twice
		{api.Names{}, []api.Node{a, a}, []int{0, 0}, namesOf(a), api.OK}, {api.Names{}, []api.Node{b, a, b, c}, []int{0, 1, 0, 2}, namesOf(b, a, c), api.OK},
		{ab, []api.Node{b, b}, []int{1, 1}, ab, api.OK}, {ab, []api.Node{c, c, c}, []int{2, 2, 2}, namesOf(a, b, c), api.OK},
		{ab, []api.Node{c, d, a, d, c}, []int{2, 3, 0, 3, 2}, namesOf(a, b, c, d), api.OK},
		// of one that may not be, first, in the midst and last
		{api.Names{}, []api.Node{{}}, nil, api.Names{}, api.ErrArg}, {ab, []api.Node{{}}, nil, ab, api.ErrArg}, {ab, []api.Node{{}, c, d}, nil, ab, api.ErrArg},
		{ab, []api.Node{c, {}, d}, nil, ab, api.ErrArg}, {ab, []api.Node{c, d, {}}, nil, ab, api.ErrArg}, {ab, []api.Node{a, b, {}}, nil, ab, api.ErrArg},
		// of names that may not be
		{namesOf(a, a), nil, nil, namesOf(a, a), api.ErrArg}, {namesOf(a, a), []api.Node{a}, nil, namesOf(a, a), api.ErrArg},
		{namesOf(a, a), []api.Node{b, c}, nil, namesOf(a, a), api.ErrArg},
		{namesOf(a, api.Node{}), nil, nil, namesOf(a, api.Node{}), api.ErrArg}, {namesOf(a, api.Node{}), []api.Node{a, b}, nil, namesOf(a, api.Node{}), api.ErrArg},
		{namesOf(api.Node{}), []api.Node{{}}, nil, namesOf(api.Node{}), api.ErrArg},
	} {
		if ids, m, e := intern.All(x.m, x.l...); !slices.Equal(ids, x.ids) || !equal(m, x.want) || e != x.e {
			t.Errorf("All(%+v, %+v): %d, %+v, %d, not %d, %+v, %d", x.m, x.l, ids, m, e, x.ids, x.want, x.e)
		}
		names(t, x.m, x.l...)
	}
}

func TestAllOfEach(t *testing.T) {
	for _, m := range mayBe() {
		names(t, m)
		for _, n := range pool {
			names(t, m, n)
			for _, o := range pool {
				names(t, m, n, o)
				names(t, m, n, o, n)
			}
		}
	}
}

func TestAllOfWrong(t *testing.T) {
	for _, m := range mayBe() {
		for _, n := range wrong {
			for _, l := range [][]api.Node{{n}, {n, a, d}, {a, n, d}, {a, d, n}, {n, n}, {c, n, c}, append(slices.Clone(pool), n)} {
				names(t, m, l...)
				if ids, x, e := intern.All(m, l...); ids != nil || !equal(x, m) || e != api.ErrArg {
					t.Errorf("All(%+v, %+v): %d, %+v, %d", m, l, ids, x, e)
				}
			}
		}
	}
	for _, m := range mayNot() {
		for _, l := range [][]api.Node{nil, {}, {a}, {b, a}, {c, d}, {{}}, {a, {}}, m.L, pool} {
			names(t, m, l...)
			if ids, x, e := intern.All(m, l...); ids != nil || !equal(x, m) || e != api.ErrArg {
				t.Errorf("All(%+v, %+v): %d, %+v, %d", m, l, ids, x, e)
			}
		}
	}
}

// P10.3

// numbered holds names against what has been given: each node has that number, and each number that node.
func numbered(t *testing.T, m api.Names, given []api.Node) {
	t.Helper()
	if !equal(m, namesOf(given...)) || intern.Check(m) != api.OK {
		t.Fatalf("names %+v, not %+v", m, given)
	}
	for i, n := range given {
		id, e := intern.Find(m, n)
		if id != i || e != api.OK {
			t.Errorf("Find(%+v, %+v): %d, %d, not %d", m, n, id, e, i)
		}
		if l, e := intern.At(m, i); !slices.Equal(l, []api.Node{n}) || e != api.OK {
			t.Errorf("At(%+v, %d): %+v, %d, not %+v", m, i, l, e, n)
		}
		if id, x, e := intern.Id(m, n); id != i || !equal(x, m) || e != api.OK {
			t.Errorf("Id(%+v, %+v): %d, %+v, %d, not %d", m, n, id, x, e, i)
		}
	}
	if _, e := intern.At(m, len(given)); e != api.ErrNone {
		t.Errorf("At(%+v, %d): %d", m, len(given), e)
	}
}

func TestNumbersStay(t *testing.T) {
	for seed := range 30 {
		r := rand.New(rand.NewSource(int64(seed)))
		var m api.Names
		var told []api.Node
		for range 60 {
			// What is refused plays no part.
			n := pool[r.Intn(len(pool))]
			if r.Intn(5) == 0 {
				m = names(t, m, n, wrong[r.Intn(len(wrong))])
			} else {
				if m = names(t, m, n); !slices.Contains(told, n) {
					told = append(told, n)
				}
			}
			numbered(t, m, told)
		}
	}
}

func TestEachOrder(t *testing.T) {
	// Every way to tell five times four nodes, all at once, and one by one.
	few := []api.Node{a, b, c, d}
	for i := range 4 * 4 * 4 * 4 * 4 {
		var l, once []api.Node
		for n := i; len(l) < 5; n /= 4 {
			l = append(l, few[n%4])
			if !slices.Contains(once, few[n%4]) {
				once = append(once, few[n%4])
			}
		}
		numbered(t, names(t, api.Names{}, l...), once)
		oneByOne(t, api.Names{}, l)
	}
}

// oneByOne holds All against Id, told each node behind the other, and All told a part behind the other.
func oneByOne(t *testing.T, m api.Names, l []api.Node) {
	t.Helper()
	ids, x, e := intern.All(m, l...)
	one, got := m, []int(nil)
	for _, n := range l {
		id, next, e := intern.Id(one, n)
		if e != api.OK {
			t.Fatalf("Id(%+v, %+v): %d", one, n, e)
		}
		one, got = next, append(got, id)
	}
	if !slices.Equal(ids, got) || !equal(x, one) || e != api.OK {
		t.Errorf("All(%+v, %+v): %d, %+v, %d, and one by one %d, %+v", m, l, ids, x, e, got, one)
	}
	for i := range l {
		first, part, _ := intern.All(m, l[:i]...)
		second, whole, _ := intern.All(part, l[i:]...)
		if !slices.Equal(ids, slices.Concat(first, second)) || !equal(x, whole) {
			t.Errorf("All(%+v, %+v): %d, %+v, and in two parts %d, %d, %+v", m, l, ids, x, first, second, whole)
		}
	}
}

func TestOneByOne(t *testing.T) {
	r := rand.New(rand.NewSource(103))
	all := mayBe()
	for range 1000 {
		var l []api.Node
		for range r.Intn(12) {
			l = append(l, pool[r.Intn(len(pool))])
		}
		oneByOne(t, all[r.Intn(len(all))], l)
	}
}

func TestBackAndForth(t *testing.T) {
	// What All numbers, At tells again, and Find does.
	r := rand.New(rand.NewSource(104))
	for range 1000 {
		l := []api.Node{pool[r.Intn(len(pool))]}
		for range r.Intn(20) {
			l = append(l, pool[r.Intn(len(pool))])
		}
		ids, m, _ := intern.All(namesOf(pool[:r.Intn(4)]...), l...)
		if back, e := intern.At(m, ids...); !slices.Equal(back, l) || e != api.OK {
			t.Errorf("At of what All tells of %+v: %+v, %d", l, back, e)
		}
		for i, n := range l {
			if id, e := intern.Find(m, n); id != ids[i] || e != api.OK {
				t.Errorf("Find of what All tells of %+v: %d, %d", n, id, e)
			}
		}
	}
}

// What holds of all

func TestChance(t *testing.T) {
	r := rand.New(rand.NewSource(105))
	either := append(slices.Concat(pool, pool, pool, pool), wrong...)
	for range 10000 {
		var m api.Names
		for _, i := range r.Perm(len(pool))[:r.Intn(8)] {
			m.L = append(m.L, pool[i])
		}
		if r.Intn(6) == 0 {
			m.L = append(m.L, either[r.Intn(len(either))])
		}
		var l []api.Node
		var ids []int
		for range r.Intn(5) {
			l, ids = append(l, either[r.Intn(len(either))]), append(ids, r.Intn(len(m.L)+2)-r.Intn(2))
		}
		finds(t, m, either[r.Intn(len(either))])
		sees(t, m, ids...)
		names(t, m, l...)
	}
}

func TestOfNothing(t *testing.T) {
	for _, m := range []api.Names{{}, {L: []api.Node{}}, {L: make([]api.Node, 0, 9)}} {
		for _, l := range [][]api.Node{nil, {}, make([]api.Node, 0, 9)} {
			if ids, x, e := intern.All(m, l...); len(ids) != 0 || len(x.L) != 0 || e != api.OK || intern.Check(m) != api.OK {
				t.Errorf("All(%#v, %#v): %d, %+v, %d", m, l, ids, x, e)
			}
		}
		for _, ids := range [][]int{nil, {}, make([]int, 0, 9)} {
			if l, e := intern.At(m, ids...); len(l) != 0 || e != api.OK {
				t.Errorf("At(%#v, %#v): %+v, %d", m, ids, l, e)
			}
		}
		if id, x, e := intern.Id(m, b); id != 0 || !equal(x, namesOf(b)) || e != api.OK {
			t.Errorf("Id(%#v, b): %d, %+v, %d", m, id, x, e)
		}
	}
}

func TestUnchanged(t *testing.T) {
	for _, m := range append(mayBe(), mayNot()...) {
		for _, l := range [][]api.Node{nil, {a}, {d, c, a, c}, {c, {}}, {of("new", "v1.0.0"), of("new", "v1.0.1")}, slices.Clone(m.L)} {
			// Room behind a list is its owner's, too.
			m.L, l = slices.Grow(m.L, 3), slices.Grow(l, 3)
			ids := slices.Grow([]int{0, len(m.L) - 1, 0}, 3)
			pastM, pastL, pastIds := m.L[:len(m.L)+3], l[:len(l)+3], ids[:len(ids)+3]
			wasM, wasL, wasIds := slices.Clone(pastM), slices.Clone(pastL), slices.Clone(pastIds)
			intern.Check(m)
			intern.At(m, ids...)
			intern.All(m, l...)
			for _, n := range l {
				intern.Find(m, n)
				intern.Id(m, n)
			}
			if !slices.Equal(pastM, wasM) || !slices.Equal(pastL, wasL) || !slices.Equal(pastIds, wasIds) {
				t.Fatalf("%+v, %+v, %d are %+v, %+v, %d", wasM, wasL, wasIds, pastM, pastL, pastIds)
			}
		}
	}
}

// spoil writes over all of a list, and over the room behind it.
func spoil(l []api.Node) {
	l = l[:cap(l)]
	for i := range l {
		l[i] = of("spoilt", "v9.9.9")
	}
}

func TestNothingShared(t *testing.T) {
	for _, m := range append(mayBe(), mayNot()...) {
		for _, l := range [][]api.Node{nil, {a}, {c, d, c}, {a, {}}, pool} {
			m, l := namesOf(slices.Grow(slices.Clone(m.L), 4)...), slices.Grow(slices.Clone(l), 4)
			wasM, wasL := deep(m), slices.Clone(l)
			holds := func(what string) {
				t.Helper()
				if !equal(m, wasM) || !slices.Equal(l, wasL) {
					t.Fatalf("what %s answers shares with what was handed in: %+v, %+v are %+v, %+v", what, wasM, wasL, m, l)
				}
			}
			_, x, _ := intern.All(m, l...)
			_, y, _ := intern.All(m, l...)
			_, z, _ := intern.Id(m, a)
			wasY, wasZ := deep(y), deep(z)
			at, _ := intern.At(m, ids(len(m.L))...)
			wasAt := slices.Clone(at)
			spoil(x.L)
			holds("All")
			if !equal(y, wasY) || !equal(z, wasZ) || !slices.Equal(at, wasAt) {
				t.Errorf("answers of %+v, %+v share with one another", m, l)
			}
			spoil(at)
			holds("At")
			spoil(z.L)
			holds("Id")
			spoil(m.L)
			spoil(l)
			if !equal(y, wasY) {
				t.Errorf("what is answered of %+v, %+v shares with what was handed in: %+v", wasM, wasL, y)
			}
		}
	}
}

// ids are the first numbers.
func ids(many int) []int {
	var l []int
	for i := range many {
		l = append(l, i)
	}
	return l
}

func TestBranches(t *testing.T) {
	// Two go on from the same names: neither is in the other's.
	_, m, _ := intern.All(api.Names{}, a, b, c)
	for range 10 {
		_, x, _ := intern.Id(m, d)
		_, y, _ := intern.Id(m, of("e", "v1.0.0"))
		if !equal(x, namesOf(a, b, c, d)) || !equal(y, namesOf(a, b, c, of("e", "v1.0.0"))) || !equal(m, namesOf(a, b, c)) {
			t.Fatalf("%+v, %+v and %+v", m, x, y)
		}
	}
}

func TestSameAgain(t *testing.T) {
	m := namesOf(pool[3:9]...)
	var g sync.WaitGroup
	for range 8 {
		g.Go(func() {
			for range 10 {
				for _, n := range append(slices.Clone(pool), wrong...) {
					finds(t, m, n)
					names(t, m, n)
				}
				names(t, m, pool...)
				sees(t, m, 5, 0, 3)
			}
		})
	}
	g.Wait()
}

func TestMany(t *testing.T) {
	const many = 20000
	var l []api.Node
	for i := range many {
		l = append(l, of(fmt.Sprint("m", i/2), fmt.Sprint("v1.", i%2, ".0")))
	}
	got, m, e := intern.All(api.Names{}, append(slices.Clone(l), l...)...)
	if !equal(m, namesOf(l...)) || !slices.Equal(got, slices.Concat(ids(many), ids(many))) || e != api.OK {
		t.Fatalf("%d nodes told twice: %d of them, %d numbers, %d", many, len(m.L), len(got), e)
	}
	back := ids(many)
	slices.Reverse(back)
	at, e := intern.At(m, back...)
	slices.Reverse(at)
	if !slices.Equal(at, l) || e != api.OK {
		t.Errorf("At of %d numbers: %d nodes, %d", many, len(at), e)
	}
	if id, e := intern.Find(m, l[many-1]); id != many-1 || e != api.OK {
		t.Errorf("Find of the last one: %d, %d", id, e)
	}
	m.L[many-1] = l[0]
	if e := intern.Check(m); e != api.ErrArg {
		t.Errorf("Check of one twice: %d", e)
	}
	long := of(strings.Repeat("a/", 20000)+"a", "v"+strings.Repeat("9", 20000)+".0.0")
	names(t, namesOf(a, b), long, a, long)
	finds(t, namesOf(a, long), long)
	finds(t, namesOf(a, long), of(long.Path, "v9.0.0"))
}
