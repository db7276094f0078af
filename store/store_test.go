package store_test

import (
	"fmt"
	"math/rand"
	"slices"
	"strings"
	"sync"
	"testing"

	"graftwood/api"
	"graftwood/node"
	"graftwood/store"
)

// of is a node.
func of(path, version string) api.Node { return api.Node{Path: path, Version: version} }

// rising are nodes in order: of one path by many versions, of one version by many paths, and not in the order of their octets.
var rising = []api.Node{
	of("A", "v1.0.0"), of("a", "v0.9.0"), of("a", "v1.0.0-2"), of("a", "v1.0.0-10"), of("a", "v1.0.0-a"), of("a", "v1.0.0"),
	of("a", "v1.9.0"), of("a", "v1.10.0"), of("a-b", "v1.0.0"), of("a.b", "v1.0.0"), of("a/b", "v1.0.0"), of("a/b", "v1.10.0"),
	of("ab", "v0.0.0"), of("b", "v1.0.0"), of("b", "v10000000000000000000000.0.0"), of("golang.org/x/mod", "v0.21.0"),
}

// wrong are nodes that may not be.
var wrong = []api.Node{
	{}, of("a", ""), of("", "v1.0.0"), of("a", "1.0.0"), of("a", "v1.0"), of("a", "v01.0.0"), of("a", "v1.0.0-"), of("a", "v1.0.0-01"), of("a", "v1.0.0+b"),
	of("a", "v1.0.0 "), of("a", "V1.0.0"), of("a/", "v1.0.0"), of("/a", "v1.0.0"), of("a//b", "v1.0.0"), of("a.", "v1.0.0"),
	of(".a", "v1.0.0"), of("a b", "v1.0.0"), of("a@", "v1.0.0"), of("a@v1.0.0", ""), of("v1.0.0", "a"),
	of("\x00", "v1.0.0"), of("~\xff", "v1.0.0"), of("é", "v1.0.0"), of("a", "v1.0.0\n"),
}

// texts are an empty one, manifests, what is none, and any octets.
var texts = []string{
	"", "module a\n", "module a", "module b\ngo 1.27\nrequire a v1.0.0\n", "mox", " ", "\n", "\x00", "\xff\xfe\x00\x80", "é", "A", "a", "module a\n\x00",
}

// these is a store of some nodes, and of a text for each, by its place among them.
func these(l ...api.Node) api.Store {
	s := api.Store{Keys: l}
	for i := range l {
		s.Texts = append(s.Texts, fmt.Sprint("text ", i))
	}
	return s
}

// kv is a store of nodes, and texts.
func kv(keys []api.Node, texts ...string) api.Store { return api.Store{Keys: keys, Texts: texts} }

// nothing are stores of nothing, as nil lists, as empty ones, and with room behind.
func nothing() []api.Store {
	return []api.Store{
		{}, {Keys: []api.Node{}, Texts: []string{}}, {Keys: []api.Node{}}, {Texts: []string{}}, {Keys: make([]api.Node, 0, 3), Texts: make([]string, 0, 2)},
	}
}

// mayBe are stores that may be: of none, one, two and more nodes.
func mayBe() []api.Store {
	l := append(nothing(), these(rising...), these(rising[1:8]...), these(rising[8:11]...))
	for i, n := range rising {
		l = append(l, these(n), kv([]api.Node{n}, ""))
		for j := range i {
			l = append(l, these(rising[j], n), kv([]api.Node{rising[j], n}, "the same", "the same"))
		}
	}
	all := kv(rising)
	for i := range rising {
		all.Texts = append(all.Texts, texts[i%len(texts)])
		l = append(l, these(slices.Delete(slices.Clone(rising), i, i+1)...))
	}
	return append(l, all, kv(rising, make([]string, len(rising))...))
}

// mayNot are stores that may not be, whatever their texts are.
func mayNot() []api.Store {
	a, b, c := rising[1], rising[6], rising[13]
	var l []api.Store
	for _, keys := range [][]api.Node{
		// out of order by path, and by version, as octets would have it, first, in the midst and last
		{c, a}, {b, a}, {of("a", "v1.10.0"), of("a", "v1.9.0")}, {of("a", "v1.0.0-10"), of("a", "v1.0.0-2")}, {of("a", "v1.0.0"), of("a", "v1.0.0-a")},
		{of("a-b", "v1.0.0"), of("a", "v1.0.0")}, {of("a", "v1.0.0"), of("A", "v1.0.0")}, {b, a, c}, {a, c, b}, {c, b, a}, {a, rising[2], c, b},
		// a node twice, side by side and not
		{a, a}, {a, a, b}, {a, b, b}, {a, b, a}, {a, b, b, c}, {c, c, c}, append(slices.Clone(rising), rising[15]), append(slices.Clone(rising), rising[0]),
	} {
		l = append(l, these(keys...), kv(keys, make([]string, len(keys))...))
	}
	for _, n := range wrong {
		l = append(l, these(n), these(n, a), these(a, n), these(n, a, c), these(a, n, c), these(a, c, n), these(n, n), these(append(slices.Clone(rising), n)...))
	}
	return append(l, unlike()...)
}

// unlike are stores with fewer texts than keys, and with more.
func unlike() []api.Store {
	l := []api.Store{kv(nil, ""), kv([]api.Node{}, "a"), kv(nil, "", ""), kv(rising), kv(rising, make([]string, len(rising)+9)...)}
	for _, keys := range [][]api.Node{rising[:1], rising[3:5], rising[:7], rising} {
		s := these(keys...)
		l = append(l, kv(keys), kv(keys, s.Texts[1:]...), kv(keys, append(slices.Clone(s.Texts), "")...), kv(keys, append(slices.Clone(s.Texts), "one more")...))
		l = append(l, kv(keys[1:], s.Texts...), kv(nil, s.Texts...), kv([]api.Node{}, s.Texts...))
	}
	return l
}

// asked are nodes that are asked: that may be, and that may not.
func asked() []api.Node {
	// In no store here.
	none := []api.Node{of("-", "v1.0.0"), of("zz", "v0.0.0"), of("a", "v1.0.1"), of("a", "v1.0.0-0"), of("b", "v1.9.0"), of("a/b/c", "v1.0.0")}
	return slices.Concat(rising, wrong, none)
}

// short is a store as it is shown.
func short(s api.Store) string {
	var l []string
	for _, n := range s.Keys[:min(len(s.Keys), 20)] {
		l = append(l, fmt.Sprintf("%.30q", node.Text(n)))
	}
	for _, t := range s.Texts[:min(len(s.Texts), 20)] {
		l = append(l, fmt.Sprintf("%.30q", t))
	}
	return fmt.Sprintf("%d keys, %d texts: %s", len(s.Keys), len(s.Texts), strings.Join(l, " "))
}

// P12.1

func TestCheck(t *testing.T) {
	for _, s := range mayBe() {
		if e := store.Check(s); e != api.OK || !fits(s) {
			t.Errorf("Check of a store that may be, %s: %d", short(s), e)
		}
	}
	for _, s := range mayNot() {
		if e := store.Check(s); e != api.ErrArg || fits(s) {
			t.Errorf("Check of a store that may not be, %s: %d", short(s), e)
		}
	}
}

func TestCheckOfAnyTexts(t *testing.T) {
	for _, a := range texts {
		for _, b := range texts {
			if e := store.Check(kv(rising[4:6], a, b)); e != api.OK {
				t.Errorf("Check of the texts %q, %q: %d", a, b, e)
			}
		}
	}
}

func TestCheckOfEachShortList(t *testing.T) {
	few := []api.Node{rising[1], rising[6], rising[7], rising[8], rising[13], {}, of("a", "v1.0")}
	var grow func(l []api.Node)
	grow = func(l []api.Node) {
		for many := range 6 {
			s := kv(l, make([]string, many)...)
			want := api.OK
			if !fits(s) {
				want = api.ErrArg
			}
			if e := store.Check(s); e != want {
				t.Errorf("Check of %s: %d, not %d", short(s), e, want)
			}
		}
		for _, n := range few {
			if len(l) < 4 {
				grow(append(slices.Clone(l), n))
			}
		}
	}
	grow(nil)
}

// gets asks a node's text, and holds it against the definition.
func gets(t *testing.T, s api.Store, n api.Node) {
	t.Helper()
	x, e := store.Get(s, n)
	if want, no := got(s, n); x != want || e != no {
		t.Errorf("Get(%s, %+v): %q, %d, not %q, %d", short(s), n, x, e, want, no)
	}
}

func TestGet(t *testing.T) {
	one := kv([]api.Node{of("b", "v1.0.0")}, "one")
	keys := []api.Node{of("b", "v1.9.0"), of("b", "v1.10.0"), of("c", "v1.0.0"), of("d", "v1.0.0"), of("d", "v1.0.1")}
	five := kv(keys, "first", "", "mid\x00\xff", "twice", "twice")
	for _, x := range []struct {
		s    api.Store
		n    api.Node
		want string
		e    api.Errno
	}{
		// that are there, first, in the midst and last
		{one, of("b", "v1.0.0"), "one", api.OK}, {five, of("b", "v1.9.0"), "first", api.OK}, {five, of("b", "v1.10.0"), "", api.OK},
		{five, of("c", "v1.0.0"), "mid\x00\xff", api.OK}, {five, of("d", "v1.0.0"), "twice", api.OK}, {five, of("d", "v1.0.1"), "twice", api.OK},
		// that are not: of nothing, ahead of all, between two, behind all
		{api.Store{}, of("b", "v1.0.0"), "", api.ErrNone}, {kv([]api.Node{}, []string{}...), of("b", "v1.0.0"), "", api.ErrNone},
		{one, of("a", "v1.0.0"), "", api.ErrNone}, {one, of("c", "v1.0.0"), "", api.ErrNone}, {five, of("a", "v1.0.0"), "", api.ErrNone},
		{five, of("bb", "v1.0.0"), "", api.ErrNone}, {five, of("c/d", "v1.0.0"), "", api.ErrNone}, {five, of("e", "v1.0.0"), "", api.ErrNone},
		// of a path that is there by another version, and of a version that is there by another path
		{one, of("b", "v1.0.1"), "", api.ErrNone}, {one, of("b", "v0.9.0"), "", api.ErrNone}, {one, of("B", "v1.0.0"), "", api.ErrNone},
		{five, of("b", "v1.0.0"), "", api.ErrNone}, {five, of("b", "v1.9.1"), "", api.ErrNone}, {five, of("d", "v2.0.0"), "", api.ErrNone},
		{five, of("d", "v1.0.0-0"), "", api.ErrNone}, {five, of("c", "v1.9.0"), "", api.ErrNone}, {five, of("a", "v1.0.1"), "", api.ErrNone},
		// what may not be asked, though no store has it, and what a store that may not be has
		{api.Store{}, api.Node{}, "", api.ErrArg}, {one, api.Node{}, "", api.ErrArg}, {one, of("b", "v1.0"), "", api.ErrArg},
		{five, of("c/", "v1.0.0"), "", api.ErrArg}, {kv(five.Keys[:1]), five.Keys[0], "", api.ErrArg}, {kv(nil, "text"), of("b", "v1.0.0"), "", api.ErrArg},
		{kv(five.Keys, "first"), five.Keys[0], "", api.ErrArg}, {kv([]api.Node{five.Keys[0], five.Keys[0]}, "x", "x"), five.Keys[0], "", api.ErrArg},
		{kv([]api.Node{five.Keys[1], five.Keys[0]}, "x", "y"), five.Keys[0], "", api.ErrArg}, {kv([]api.Node{{}}, "x"), api.Node{}, "", api.ErrArg},
		{kv([]api.Node{of("a", "v1.0.0"), of("b", "")}, "x", "y"), of("a", "v1.0.0"), "", api.ErrArg},
		{kv([]api.Node{five.Keys[2], five.Keys[0]}, "x", "y"), of("z", "v1.0.0"), "", api.ErrArg}, {kv(five.Keys), of("z", "v1.0.0"), "", api.ErrArg},
	} {
		if s, e := store.Get(x.s, x.n); s != x.want || e != x.e {
			t.Errorf("Get(%s, %+v): %q, %d, not %q, %d", short(x.s), x.n, s, e, x.want, x.e)
		}
		gets(t, x.s, x.n)
	}
}

func TestGetEach(t *testing.T) {
	for _, s := range append(mayBe(), mayNot()...) {
		for _, n := range asked() {
			gets(t, s, n)
		}
	}
}

func TestSame(t *testing.T) {
	a, b := of("a", "v1.0.0"), of("b", "v1.0.0")
	two := kv([]api.Node{a, b}, "x", "y")
	for _, x := range []struct {
		s    api.Store
		want bool
	}{
		{kv([]api.Node{a, b}, "x", "y"), true},
		// one key, by its path alone, by its version alone, first and last
		{kv([]api.Node{of("A", "v1.0.0"), b}, "x", "y"), false}, {kv([]api.Node{of("a", "v1.0.1"), b}, "x", "y"), false},
		{kv([]api.Node{a, of("c", "v1.0.0")}, "x", "y"), false}, {kv([]api.Node{a, of("b", "v1.0.0-0")}, "x", "y"), false},
		{kv([]api.Node{b, a}, "x", "y"), false},
		// one text, first and last, the one in the other's stead, a part, and more of it
		{kv([]api.Node{a, b}, "z", "y"), false}, {kv([]api.Node{a, b}, "x", "z"), false}, {kv([]api.Node{a, b}, "y", "x"), false},
		{kv([]api.Node{a, b}, "X", "y"), false}, {kv([]api.Node{a, b}, "", "y"), false}, {kv([]api.Node{a, b}, "x", ""), false},
		{kv([]api.Node{a, b}, "x", "y\n"), false}, {kv([]api.Node{a, b}, "xy", ""), false},
		// how many keys there are, and how many texts
		{kv([]api.Node{a}, "x"), false}, {kv([]api.Node{b}, "y"), false}, {kv([]api.Node{a}, "x", "y"), false}, {kv([]api.Node{a, b}, "x"), false},
		{kv([]api.Node{a, b, b}, "x", "y"), false}, {kv([]api.Node{a, b}, "x", "y", ""), false}, {kv([]api.Node{a, b, of("c", "v1.0.0")}, "x", "y", ""), false},
		{kv(nil, "x", "y"), false}, {kv([]api.Node{a, b}), false}, {api.Store{}, false},
	} {
		if store.Same(two, x.s) != x.want || store.Same(x.s, two) != x.want {
			t.Errorf("Same(%s, %s): not %v", short(two), short(x.s), x.want)
		}
	}
	// An empty text is one, and a node of no path and no version, too.
	for _, s := range []api.Store{kv([]api.Node{a}, ""), kv(nil, ""), kv([]api.Node{{}}), kv([]api.Node{{}}, "")} {
		if store.Same(s, api.Store{}) || store.Same(api.Store{}, s) || !store.Same(s, deep(s)) {
			t.Errorf("Same of %s, and of nothing", short(s))
		}
	}
}

func TestSameOfEachTwo(t *testing.T) {
	// Those that may not be are asked, too: their parts are the same, or not.
	all := append(mayBe()[:60], mayNot()...)
	for _, a := range all {
		for _, b := range all {
			if x := store.Same(a, b); x != equal(a, b) {
				t.Errorf("Same(%s, %s): %v", short(a), short(b), x)
			}
		}
		if !store.Same(a, deep(a)) {
			t.Errorf("Same(%s, itself): false", short(a))
		}
	}
	for _, a := range nothing() {
		for _, b := range nothing() {
			if !store.Same(a, b) {
				t.Errorf("Same(%#v, %#v): false", a, b)
			}
		}
	}
}

// P12.2

// puts puts a node's text, holds it against the definition, and answers the store.
func puts(t *testing.T, s api.Store, n api.Node, text string) api.Store {
	t.Helper()
	x, e := store.Put(s, n, text)
	if want, no := put(s, n, text); !equal(x, want) || e != no {
		t.Errorf("Put(%s, %+v, %q): %s, %d, not %s, %d", short(s), n, text, short(x), e, short(want), no)
	}
	return x
}

// drops drops a node's, holds it against the definition, and answers the store.
func drops(t *testing.T, s api.Store, n api.Node) api.Store {
	t.Helper()
	x, e := store.Drop(s, n)
	if want, no := dropped(s, n); !equal(x, want) || e != no {
		t.Errorf("Drop(%s, %+v): %s, %d, not %s, %d", short(s), n, short(x), e, short(want), no)
	}
	return x
}

func TestExamples(t *testing.T) {
	a := of("a", "v1.0.0")
	one, _ := store.Put(api.Store{}, a, "first")
	two, _ := store.Put(one, a, "second")
	if x, e := store.Get(two, a); x != "second" || e != api.OK {
		t.Errorf("put twice of one node: %q, %d", x, e)
	}
	if x, e := store.Drop(api.Store{}, a); !equal(x, api.Store{}) || e != api.ErrNone {
		t.Errorf("Drop of none: %s, %d", short(x), e)
	}
	if x, e := store.Drop(one, a); !equal(x, api.Store{}) || e != api.OK {
		t.Errorf("Put, then Drop: %s, %d", short(x), e)
	}
}

func TestPut(t *testing.T) {
	b, b1, c, d := of("b", "v1.9.0"), of("b", "v1.10.0"), of("c", "v1.0.0"), of("d", "v1.0.0")
	three := kv([]api.Node{b, c, d}, "of b", "of c", "of d")
	for _, x := range []struct {
		s    api.Store
		n    api.Node
		t    string
		want api.Store
	}{
		{api.Store{}, b, "x", kv([]api.Node{b}, "x")}, {kv([]api.Node{}, []string{}...), c, "", kv([]api.Node{c}, "")},
		// that are there: the new text, and no key more
		{kv([]api.Node{b}, "x"), b, "y", kv([]api.Node{b}, "y")}, {kv([]api.Node{b}, "x"), b, "", kv([]api.Node{b}, "")},
		{kv([]api.Node{b}, "x"), b, "x", kv([]api.Node{b}, "x")},
		{three, b, "new", kv([]api.Node{b, c, d}, "new", "of c", "of d")}, {three, c, "\xff", kv([]api.Node{b, c, d}, "of b", "\xff", "of d")},
		{three, d, "of b", kv([]api.Node{b, c, d}, "of b", "of c", "of b")}, {three, c, "of c", three},
		// that are not: where it goes, and its text beside it
		{three, of("a", "v9.0.0"), "x", kv([]api.Node{of("a", "v9.0.0"), b, c, d}, "x", "of b", "of c", "of d")},
		{three, of("b", "v1.8.0"), "x", kv([]api.Node{of("b", "v1.8.0"), b, c, d}, "x", "of b", "of c", "of d")},
		{three, b1, "x", kv([]api.Node{b, b1, c, d}, "of b", "x", "of c", "of d")},
		{three, of("bb", "v1.0.0"), "of b", kv([]api.Node{b, of("bb", "v1.0.0"), c, d}, "of b", "of b", "of c", "of d")},
		{three, of("c", "v1.0.0-rc"), "", kv([]api.Node{b, of("c", "v1.0.0-rc"), c, d}, "of b", "", "of c", "of d")},
		{three, of("c/d", "v1.0.0"), "x", kv([]api.Node{b, c, of("c/d", "v1.0.0"), d}, "of b", "of c", "x", "of d")},
		{three, of("d", "v1.0.1"), "x", kv([]api.Node{b, c, d, of("d", "v1.0.1")}, "of b", "of c", "of d", "x")},
		{three, of("e", "v1.0.0"), "", kv([]api.Node{b, c, d, of("e", "v1.0.0")}, "of b", "of c", "of d", "")},
	} {
		if s, e := store.Put(x.s, x.n, x.t); !equal(s, x.want) || e != api.OK || store.Check(s) != api.OK {
			t.Errorf("Put(%s, %+v, %q): %s, %d, not %s", short(x.s), x.n, x.t, short(s), e, short(x.want))
		}
		puts(t, x.s, x.n, x.t)
	}
}

func TestDrop(t *testing.T) {
	a, b, b1, c := of("a", "v1.0.0"), of("b", "v1.9.0"), of("b", "v1.10.0"), of("c", "v1.0.0")
	four := kv([]api.Node{a, b, b1, c}, "of a", "", "twice", "twice")
	for _, x := range []struct {
		s    api.Store
		n    api.Node
		want api.Store
		e    api.Errno
	}{
		// that are there, first, in the midst and last
		{kv([]api.Node{a}, "x"), a, api.Store{}, api.OK}, {kv([]api.Node{a}, ""), a, api.Store{}, api.OK},
		{kv([]api.Node{a, b}, "x", "y"), a, kv([]api.Node{b}, "y"), api.OK}, {kv([]api.Node{a, b}, "x", "y"), b, kv([]api.Node{a}, "x"), api.OK},
		{four, a, kv([]api.Node{b, b1, c}, "", "twice", "twice"), api.OK}, {four, b, kv([]api.Node{a, b1, c}, "of a", "twice", "twice"), api.OK},
		{four, b1, kv([]api.Node{a, b, c}, "of a", "", "twice"), api.OK}, {four, c, kv([]api.Node{a, b, b1}, "of a", "", "twice"), api.OK},
		// that are not: of nothing, ahead of all, between two, behind all, by another version, and by another path
		{api.Store{}, a, api.Store{}, api.ErrNone}, {kv([]api.Node{}, []string{}...), a, api.Store{}, api.ErrNone}, {four, of("A", "v1.0.0"), four, api.ErrNone},
		{four, of("a/b", "v1.0.0"), four, api.ErrNone}, {four, of("d", "v1.0.0"), four, api.ErrNone}, {four, of("a", "v1.0.1"), four, api.ErrNone},
		{four, of("a", "v0.1.0"), four, api.ErrNone}, {four, of("b", "v1.9.1"), four, api.ErrNone}, {four, of("b", "v1.0.0"), four, api.ErrNone},
		{four, of("c", "v1.10.0"), four, api.ErrNone}, {four, of("c", "v0.0.0"), four, api.ErrNone},
		{kv([]api.Node{a}, ""), b, kv([]api.Node{a}, ""), api.ErrNone},
	} {
		if s, e := store.Drop(x.s, x.n); !equal(s, x.want) || e != x.e || store.Check(s) != api.OK {
			t.Errorf("Drop(%s, %+v): %s, %d, not %s, %d", short(x.s), x.n, short(s), e, short(x.want), x.e)
		}
		drops(t, x.s, x.n)
	}
}

func TestPutAndDropEach(t *testing.T) {
	for i, s := range append(mayBe(), mayNot()...) {
		for j, n := range asked() {
			drops(t, s, n)
			puts(t, s, n, texts[(i+j)%len(texts)])
		}
	}
}

// refuses holds all that may be done with a store, and a node, against ErrArg: the store is as it is.
func refuses(t *testing.T, s api.Store, n api.Node) {
	t.Helper()
	was := deep(s)
	if x, e := store.Get(s, n); x != "" || e != api.ErrArg {
		t.Errorf("Get(%s, %+v): %q, %d", short(s), n, x, e)
	}
	for _, text := range []string{"", "text 0", "new"} {
		if x, e := store.Put(s, n, text); !equal(x, was) || e != api.ErrArg {
			t.Errorf("Put(%s, %+v, %q): %s, %d", short(s), n, text, short(x), e)
		}
	}
	if x, e := store.Drop(s, n); !equal(x, was) || e != api.ErrArg {
		t.Errorf("Drop(%s, %+v): %s, %d", short(s), n, short(x), e)
	}
}

func TestRefused(t *testing.T) {
	for _, s := range mayBe() {
		for _, n := range wrong {
			// It isn't there, either: that it may not be is told ahead of that.
			refuses(t, s, n)
		}
	}
	for _, s := range mayNot() {
		for _, n := range append(slices.Clone(s.Keys), of("none", "v1.0.0"), of("-", "v1.0.0"), api.Node{}) {
			refuses(t, s, n)
		}
	}
}

// P12.3

func TestPutIsGot(t *testing.T) {
	for _, s := range mayBe() {
		for i, n := range asked() {
			if !node.May(n) {
				continue
			}
			text := texts[i%len(texts)]
			x, _ := store.Put(s, n, text)
			if y, e := store.Get(x, n); y != text || e != api.OK || store.Check(x) != api.OK {
				t.Errorf("Get of what was put, %+v of %q into %s: %q, %d", n, text, short(s), y, e)
			}
			y, e := store.Drop(x, n)
			if z, no := store.Get(y, n); z != "" || no != api.ErrNone || e != api.OK || store.Check(y) != api.OK {
				t.Errorf("Get of what was put, and dropped, %+v of %s: %q, %d", n, short(s), z, no)
			}
			for _, m := range append(slices.Clone(rising), of("none", "v1.0.0")) {
				was, none := store.Get(s, m)
				one, e := store.Get(x, m)
				two, f := store.Get(y, m)
				if m != n && (one != was || two != was || e != none || f != none) {
					t.Errorf("Get(%+v) where %+v was put, and dropped: %q, %d, %q, %d, not %q, %d", m, n, one, e, two, f, was, none)
				}
			}
		}
	}
}

func TestPutAndDropped(t *testing.T) {
	for _, s := range mayBe() {
		for _, n := range asked() {
			x, e := store.Drop(s, n)
			switch e {
			case api.ErrNone:
				// It wasn't there: put, and dropped, it leaves the store as it was.
				more, _ := store.Put(s, n, "new")
				back, e := store.Drop(more, n)
				if !equal(back, s) || !store.Same(back, s) || e != api.OK || len(more.Keys) != len(s.Keys)+1 {
					t.Errorf("%s, where %+v was put, and dropped: %s, %d", short(s), n, short(back), e)
				}
			case api.OK:
				// It was there: dropped, and put again, it leaves the store as it was.
				text, _ := store.Get(s, n)
				if back, e := store.Put(x, n, text); !equal(back, s) || !store.Same(back, s) || e != api.OK {
					t.Errorf("%s, where %+v was dropped, and put: %s, %d", short(s), n, short(back), e)
				}
			}
		}
	}
}

func TestOfTwoNodes(t *testing.T) {
	for _, s := range []api.Store{{}, these(rising[5]), these(rising[2:9]...), these(rising...)} {
		for _, n := range rising {
			for _, m := range rising {
				if n == m {
					continue
				}
				ab := puts(t, puts(t, s, n, "of n"), m, "of m")
				ba := puts(t, puts(t, s, m, "of m"), n, "of n")
				x := drops(t, drops(t, ab, n), m)
				y := drops(t, drops(t, ab, m), n)
				if !equal(ab, ba) || !equal(x, y) {
					t.Errorf("%+v and %+v of %s: %s, %s, %s, %s", n, m, short(s), short(ab), short(ba), short(x), short(y))
				}
			}
		}
	}
}

func TestEachOrder(t *testing.T) {
	// Each order of putting, and then of dropping, some nodes, one of them put twice: the last text counts.
	l := []int{1, 7, 6, 8, 13, 6}
	want := map[api.Node]string{}
	for _, i := range l {
		want[rising[i]] = fmt.Sprint("of ", i)
	}
	orders(l, 0, func() {
		var s api.Store
		for i, k := range l {
			if slices.Contains(l[i+1:], k) {
				s = puts(t, s, rising[k], "an old one")
			} else {
				s = puts(t, s, rising[k], fmt.Sprint("of ", k))
			}
		}
		if !equal(s, listed(want)) {
			t.Fatalf("put in order %d: %s", l, short(s))
		}
		for i, k := range l {
			if s = drops(t, s, rising[k]); slices.Contains(s.Keys, rising[k]) || len(s.Keys) > len(l)-1-i {
				t.Fatalf("dropped in order %d: %s", l, short(s))
			}
		}
		if !equal(s, api.Store{}) {
			t.Fatalf("dropped in order %d: %s", l, short(s))
		}
	})
}

// orders tries each order of what stands from a place on.
func orders(l []int, from int, try func()) {
	if from == len(l) {
		try()
		return
	}
	for i := from; i < len(l); i++ {
		l[from], l[i] = l[i], l[from]
		orders(l, from+1, try)
		l[from], l[i] = l[i], l[from]
	}
}

func TestPutTwice(t *testing.T) {
	for _, s := range mayBe() {
		for _, n := range rising {
			for i, first := range texts {
				last := texts[(i+5)%len(texts)]
				once, _ := store.Put(s, n, last)
				twice, e := store.Put(s, n, first)
				twice, f := store.Put(twice, n, last)
				if !equal(once, twice) || e != api.OK || f != api.OK {
					t.Errorf("%+v put twice, of %q and %q, into %s: %s", n, first, last, short(s), short(twice))
				}
			}
		}
	}
}

func TestComeAndGo(t *testing.T) {
	either := append(slices.Concat(rising, rising, rising), wrong...)
	for seed := range 60 {
		r := rand.New(rand.NewSource(int64(seed)))
		var s api.Store
		m := map[api.Node]string{}
		for range 150 {
			n, text := either[r.Intn(len(either))], texts[r.Intn(len(texts))]
			_, in := m[n]
			on := r.Intn(3) > 0
			switch {
			case !node.May(n):
				refuses(t, s, n)
				continue
			case on:
				m[n] = text
				s = puts(t, s, n, text)
			case in:
				delete(m, n)
				s = drops(t, s, n)
			default:
				s = drops(t, s, n)
			}
			if !equal(s, listed(m)) {
				t.Fatalf("what came and went: %s, not %s", short(s), short(listed(m)))
			}
		}
		for _, n := range asked() {
			gets(t, s, n)
		}
	}
}

// What holds of all

func TestChance(t *testing.T) {
	r := rand.New(rand.NewSource(112))
	every := asked()
	for range 10000 {
		m := map[api.Node]string{}
		for range r.Intn(9) {
			m[rising[r.Intn(len(rising))]] = texts[r.Intn(len(texts))]
		}
		s := listed(m)
		if len(m) > 0 && r.Intn(4) == 0 {
			i, j := r.Intn(len(m)), r.Intn(len(m))
			switch r.Intn(5) {
			case 0:
				s.Keys[i], s.Keys[j] = s.Keys[j], s.Keys[i]
			case 1:
				s.Keys[i] = s.Keys[j]
			case 2:
				s.Keys[i] = wrong[r.Intn(len(wrong))]
			case 3:
				s.Keys = s.Keys[:i]
			default:
				s.Texts = s.Texts[j:]
			}
		}
		if e := store.Check(s); (e == api.OK) != fits(s) || e != api.OK && e != api.ErrArg {
			t.Errorf("Check(%s): %d", short(s), e)
		}
		n := every[r.Intn(len(every))]
		gets(t, s, n)
		puts(t, s, n, texts[r.Intn(len(texts))])
		drops(t, s, n)
	}
}

func TestOfNothing(t *testing.T) {
	for _, s := range nothing() {
		for _, n := range rising {
			gets(t, s, n)
			if x := puts(t, s, n, ""); len(x.Keys) != 1 || len(x.Texts) != 1 {
				t.Errorf("Put into %#v: %s", s, short(x))
			}
			if x := drops(t, s, n); len(x.Keys) != 0 || len(x.Texts) != 0 {
				t.Errorf("Drop from %#v: %s", s, short(x))
			}
		}
	}
}

// roomy is a store in memory of its own, with room behind both lists, which is its owner's, too.
func roomy(s api.Store) api.Store {
	keys, all := slices.Grow(slices.Clone(s.Keys), 4), slices.Grow(slices.Clone(s.Texts), 4)
	for i := len(keys); i < cap(keys); i++ {
		keys[:cap(keys)][i] = of("room", "v1.0.0")
	}
	for i := len(all); i < cap(all); i++ {
		all[:cap(all)][i] = "room"
	}
	return api.Store{Keys: keys, Texts: all}
}

// whole is a store with the room behind it.
func whole(s api.Store) api.Store {
	return api.Store{Keys: s.Keys[:cap(s.Keys)], Texts: s.Texts[:cap(s.Texts)]}
}

// spoil writes over all of a store, and over the room behind it.
func spoil(s api.Store) {
	s = whole(s)
	for i := range s.Keys {
		s.Keys[i] = of("spoilt", "v9.9.9")
	}
	for i := range s.Texts {
		s.Texts[i] = "spoilt"
	}
}

func TestUnchanged(t *testing.T) {
	for _, x := range append(mayBe(), mayNot()...) {
		s := roomy(x)
		was := deep(whole(s))
		store.Check(s)
		store.Same(s, x)
		store.Same(x, s)
		for _, n := range append(asked(), s.Keys...) {
			store.Get(s, n)
			store.Put(s, n, "new")
			store.Drop(s, n)
		}
		if !equal(whole(s), was) {
			t.Fatalf("%s is %s", short(was), short(whole(s)))
		}
	}
}

func TestNothingShared(t *testing.T) {
	for _, x := range append(mayBe(), mayNot()...) {
		for _, n := range append(slices.Clone(rising[4:9]), of("-", "v1.0.0"), of("zz", "v1.0.0"), api.Node{}) {
			s := roomy(x)
			was := deep(whole(s))
			one, _ := store.Put(s, n, "new")
			two, _ := store.Put(s, n, "new")
			three, _ := store.Drop(s, n)
			four, _ := store.Drop(s, n)
			wasTwo, wasFour := deep(two), deep(four)
			for _, answer := range []api.Store{one, three} {
				spoil(answer)
				if !equal(whole(s), was) || !equal(two, wasTwo) || !equal(four, wasFour) {
					t.Fatalf("what is answered of %s, %+v shares with others", short(x), n)
				}
			}
			spoil(s)
			if !equal(two, wasTwo) || !equal(four, wasFour) {
				t.Fatalf("what is answered of %s, %+v shares with what was handed in", short(x), n)
			}
		}
	}
}

func TestBranches(t *testing.T) {
	// Two go on from the same store: neither is in the other's.
	s := these(rising[1:5]...)
	for _, n := range []api.Node{rising[0], rising[3], rising[9]} {
		for _, m := range []api.Node{rising[0], rising[2], rising[4], rising[9], rising[10]} {
			x := puts(t, s, n, "of n")
			y := puts(t, s, m, "of m")
			z := drops(t, x, rising[2])
			w := puts(t, z, m, "of m, too")
			if !equal(s, these(rising[1:5]...)) {
				t.Fatalf("%+v, %+v: %s", n, m, short(s))
			}
			for _, v := range []api.Store{x, y, z, w} {
				if store.Check(v) != api.OK {
					t.Fatalf("%+v, %+v: %s", n, m, short(v))
				}
			}
			if text, e := store.Get(x, n); text != "of n" || e != api.OK {
				t.Errorf("Get(%s, %+v): %q, %d", short(x), n, text, e)
			}
			if text, e := store.Get(y, m); text != "of m" || e != api.OK {
				t.Errorf("Get(%s, %+v): %q, %d", short(y), m, text, e)
			}
		}
	}
}

func TestSameAgain(t *testing.T) {
	s := these(rising[2:9]...)
	var g sync.WaitGroup
	for range 8 {
		g.Go(func() {
			for range 10 {
				for _, n := range asked() {
					gets(t, s, n)
					puts(t, s, n, "new")
					drops(t, s, n)
				}
			}
		})
	}
	g.Wait()
}

func TestMany(t *testing.T) {
	const many = 20000
	var s api.Store
	for i := range many {
		s.Keys = append(s.Keys, of(fmt.Sprintf("m%06d", i/2), fmt.Sprint("v1.", 9+i%2, ".0")))
		s.Texts = append(s.Texts, fmt.Sprint("text ", i))
	}
	if e := store.Check(s); e != api.OK {
		t.Fatalf("Check of %d: %d", many, e)
	}
	for _, i := range []int{0, 1, 2, many / 3, many / 2, many - 2, many - 1} {
		n, text := s.Keys[i], s.Texts[i]
		if x, e := store.Get(s, n); x != text || e != api.OK {
			t.Errorf("Get of node %d: %q, %d", i, x, e)
		}
		less, e := store.Drop(s, n)
		if len(less.Keys) != many-1 || len(less.Texts) != many-1 || e != api.OK || store.Check(less) != api.OK || slices.Contains(less.Keys, n) {
			t.Errorf("Drop of node %d: %d keys, %d texts, %d", i, len(less.Keys), len(less.Texts), e)
		}
		if back, e := store.Put(less, n, text); !equal(back, s) || e != api.OK {
			t.Errorf("Put of node %d again: %d keys, %d texts, %d", i, len(back.Keys), len(back.Texts), e)
		}
	}
	s.Keys[many-1] = s.Keys[0]
	if e := store.Check(s); e != api.ErrArg {
		t.Errorf("Check of the first one again, last: %d", e)
	}
}

func TestLong(t *testing.T) {
	path := strings.Repeat("a/", 20000) + "a"
	long, longer := of(path, "v"+strings.Repeat("9", 20000)+".0.0"), of(path, "v1"+strings.Repeat("0", 20000)+".0.0")
	text := strings.Repeat("\x00\xff", 1<<20)
	s := puts(t, puts(t, these(rising...), longer, ""), long, text)
	gets(t, s, long)
	gets(t, s, longer)
	gets(t, s, of(path, "v9.0.0"))
	if x, e := store.Get(s, long); x != text || e != api.OK {
		t.Errorf("Get of a long text: %d octets, %d", len(x), e)
	}
	if x := drops(t, drops(t, s, long), longer); !equal(x, these(rising...)) {
		t.Errorf("long ones put, and dropped: %s", short(x))
	}
}
