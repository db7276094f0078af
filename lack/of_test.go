package lack_test

import (
	"math/rand"
	"slices"
	"testing"

	"graftwood/api"
	"graftwood/lack"
)

// lackOf is a node that is missing, those that need it, and whether the root does.
func lackOf(n string, root bool, by ...string) api.Lack {
	return api.Lack{N: one(n), By: nodes(by...), Root: root}
}

// holds holds what is missing, and an error, against what they are to be; with an error nothing comes.
func holds(t *testing.T, what string, got []api.Lack, e api.Errno, want []api.Lack, no api.Errno) {
	t.Helper()
	if !equal(got, want) || e != no || e != api.OK && len(got) > 0 {
		t.Errorf("%s: %s, %d, not %s, %d", what, short(got), e, short(want), no)
	}
}

// asksOf asks what is missing and who needs it, holds it against the definition, and answers it.
func asksOf(t *testing.T, live, keys []api.Node, l []api.Need) []api.Lack {
	t.Helper()
	got, e := lack.Of(live, keys, l)
	want, no := lacking(live, keys, l)
	holds(t, "Of("+short(live)+", "+short(keys)+", "+short(l)+")", got, e, want, no)
	return got
}

// live, keys and needs are what is reached, of what there are manifests, and needs in no order, some of them twice.
func live() []api.Node {
	return nodes("a@v1.9.0", "a@v1.10.0", "b@v1.0.0", "c@v1.0.0", "d@v1.0.0", "e@v1.0.0")
}

func keys() []api.Node { return nodes("a@v1.10.0", "c@v1.0.0", "x@v1.0.0") }

func needs() []api.Need {
	return []api.Need{
		// of what is not missing
		need("", "c@v1.0.0"), need("c@v1.0.0", "a@v1.10.0"), need("a@v1.10.0", "c@v1.0.0"), need("x@v1.0.0", "a@v1.10.0"),
		// of what is not reached
		need("x@v1.0.0", "y@v1.0.0"), need("c@v1.0.0", "f@v1.0.0"),
		// by the root alone, by one node, by none that is reached, by many, by the root and a node
		need("", "a@v1.9.0"), need("c@v1.0.0", "b@v1.0.0"), need("x@v1.0.0", "b@v1.0.0"), need("x@v1.0.0", "d@v1.0.0"),
		need("c@v1.0.0", "e@v1.0.0"), need("a@v1.10.0", "e@v1.0.0"), need("e@v1.0.0", "e@v1.0.0"), need("a@v1.9.0", "e@v1.0.0"), need("x@v1.0.0", "e@v1.0.0"),
		need("c@v1.0.0", "e@v1.0.0"), need("", "e@v1.0.0"), need("", "e@v1.0.0"), need("a@v1.8.0", "e@v1.0.0"),
	}
}

// P18.2

func TestOf(t *testing.T) {
	all := []api.Lack{
		lackOf("a@v1.9.0", true), lackOf("b@v1.0.0", false, "c@v1.0.0"), lackOf("d@v1.0.0", false), lackOf("e@v1.0.0", true, "a@v1.9.0", "a@v1.10.0", "c@v1.0.0", "e@v1.0.0"),
	}
	for _, x := range []struct {
		live, keys []api.Node
		l          []api.Need
		want       []api.Lack
	}{
		{live(), keys(), needs(), all}, {live(), keys(), turned(needs()), all}, {live(), keys(), append(needs(), needs()...), all},
		// nothing is missing
		{nil, nil, nil, nil}, {[]api.Node{}, []api.Node{}, []api.Need{}, nil}, {nil, nil, needs(), nil}, {nil, keys(), needs(), nil},
		{live(), live(), needs(), nil}, {live()[1:2], keys(), needs(), nil}, {live()[3:4], live(), nil, nil},
		// one is: the first, one between, the last
		{live(), live()[1:], needs(), all[:1]}, {live(), slices.Delete(live(), 2, 3), needs(), all[1:2]}, {live(), live()[:5], needs(), all[3:]},
		// all are, and those that need them are what is reached
		{live()[:2], nil, needs(), []api.Lack{lackOf("a@v1.9.0", true), lackOf("a@v1.10.0", false)}},
		{live()[3:5], nil, needs(), []api.Lack{lackOf("c@v1.0.0", true), lackOf("d@v1.0.0", false)}},
		{live()[1:4], nil, needs(), []api.Lack{lackOf("a@v1.10.0", false, "c@v1.0.0"), lackOf("b@v1.0.0", false, "c@v1.0.0"), lackOf("c@v1.0.0", true, "a@v1.10.0")}},
		{nodes("e@v1.0.0"), keys(), needs(), []api.Lack{lackOf("e@v1.0.0", true, "e@v1.0.0")}},
		{nodes("e@v1.0.0", "x@v1.0.0"), nil, needs(), []api.Lack{lackOf("e@v1.0.0", true, "e@v1.0.0", "x@v1.0.0"), lackOf("x@v1.0.0", false)}},
		// nobody needs them
		{live(), keys(), nil, []api.Lack{lackOf("a@v1.9.0", false), lackOf("b@v1.0.0", false), lackOf("d@v1.0.0", false), lackOf("e@v1.0.0", false)}},
		{live()[:1], nil, []api.Need{}, []api.Lack{lackOf("a@v1.9.0", false)}}, {live()[:1], nil, needs()[:6], []api.Lack{lackOf("a@v1.9.0", false)}},
		// the root does, and one that is not reached
		{live()[:1], nil, []api.Need{need("x@v1.0.0", "a@v1.9.0"), need("", "a@v1.9.0")}, []api.Lack{lackOf("a@v1.9.0", true)}},
		{[]api.Node{of(longPath, longVersion)}, nil, []api.Need{{From: of(longPath, longVersion), To: of(longPath, longVersion)}, {To: of(longPath, longVersion)}},
			[]api.Lack{{N: of(longPath, longVersion), By: []api.Node{of(longPath, longVersion)}, Root: true}}},
	} {
		l, e := lack.Of(x.live, x.keys, x.l)
		holds(t, "Of("+short(x.live)+", "+short(x.keys)+", "+short(x.l)+")", l, e, x.want, api.OK)
	}
}

func TestOfEach(t *testing.T) {
	for _, l := range append(mayBe(), needs()) {
		for _, live := range [][]api.Node{nil, live(), three(), every(), every()[:9]} {
			for _, keys := range [][]api.Node{nil, {}, keys(), three()[1:], every()[5:], live} {
				asksOf(t, live, keys, l)
			}
		}
	}
}

func TestOfWhatMayNotBe(t *testing.T) {
	refused := func(live, keys []api.Node, l []api.Need) {
		t.Helper()
		if got, e := lack.Of(live, keys, l); len(got) != 0 || e != api.ErrArg {
			t.Errorf("Of(%s, %s, %s): %s, %d", short(live), short(keys), short(l), short(got), e)
		}
	}
	lists, needings := noSets(), mayNot()
	for i, bad := range lists {
		d := needings[i%len(needings)]
		for _, set := range [][]api.Node{nil, three(), every()} {
			refused(bad, set, some())
			refused(set, bad, some())
			refused(bad, set, nil)
			refused(set, bad, nil)
			refused(bad, set, d)
			refused(set, bad, d)
		}
		refused(bad, bad, some())
		refused(bad, bad, d)
		refused(bad, lists[(i+1)%len(lists)], nil)
	}
	for _, d := range needings {
		for _, set := range [][]api.Node{nil, three(), every()} {
			refused(set, nil, d)
			refused(set, keys(), d)
			refused(set, set, d)
		}
	}
}

// eachOf hands on each part of a set.
func eachOf(set []api.Node, next func(part []api.Node)) {
	for bits := range 1 << len(set) {
		var part []api.Node
		for i, n := range set {
			if bits>>i&1 == 1 {
				part = append(part, n)
			}
		}
		next(part)
	}
}

func TestOfEachOfThree(t *testing.T) {
	three := nodes("a@v1.9.0", "a@v1.10.0", "a/b@v0.0.1")
	var every []api.Need
	for _, n := range three {
		every = append(every, api.Need{To: n})
		for _, m := range three {
			every = append(every, api.Need{From: n, To: m})
		}
	}
	for bits := range 1 << len(every) {
		var l []api.Need
		for i := range every {
			if bits>>i&1 == 1 {
				l = append(l, every[len(every)-1-i])
			}
		}
		// Each pair of parts, what is reached and what has a manifest, is asked by one in eight of all needs.
		at := 0
		eachOf(three, func(live []api.Node) {
			eachOf(three, func(keys []api.Node) {
				if at++; (at+bits)%8 == 0 {
					asksOf(t, live, keys, l)
				}
			})
		})
		for _, n := range three {
			asksBy(t, l, n)
		}
	}
}

// P18.3

// without is a list without one.
func without(l []api.Node, n api.Node) []api.Node {
	return slices.DeleteFunc(slices.Clone(l), func(m api.Node) bool { return m == n })
}

func TestOneManifestMore(t *testing.T) {
	more := append(live(), nodes("a@v1.0.0", "a@v1.8.0", "b@v1.0.0-rc", "bb@v1.0.0", "f@v1.0.0", "x@v1.0.0", "y@v1.0.0")...)
	eachOf(live(), func(part []api.Node) {
		for _, keys := range [][]api.Node{part, setOf(append(part, keys()...)), setOf(append(part, nodes("-@v1.0.0", "~@v1.0.0")...))} {
			old, was := misses(t, live(), keys), asksOf(t, live(), keys, needs())
			for _, n := range more {
				with := setOf(append([]api.Node{n}, keys...))
				if now := misses(t, live(), with); !slices.Equal(now, without(old, n)) {
					t.Errorf("with a manifest of %q beside those of %s: %s, not %s without it", n, short(keys), short(now), short(old))
				}
				gone := slices.DeleteFunc(slices.Clone(was), func(x api.Lack) bool { return x.N == n })
				if now := asksOf(t, live(), with, needs()); !equal(now, gone) {
					t.Errorf("with a manifest of %q beside those of %s: %s, not %s without it", n, short(keys), short(now), short(was))
				}
			}
		}
	})
}

func TestOnlyWhatIsReached(t *testing.T) {
	for _, live := range sets() {
		for _, keys := range sets() {
			for _, n := range misses(t, live, keys) {
				if !slices.Contains(live, n) || slices.Contains(keys, n) {
					t.Errorf("%q is missing of %s, by %s", n, short(live), short(keys))
				}
			}
		}
		if l := misses(t, live, nil); !slices.Equal(l, live) {
			t.Errorf("without a manifest %s are missing of %s", short(l), short(live))
		}
		if l := misses(t, live, live); len(l) != 0 {
			t.Errorf("with all manifests %s are missing of %s", short(l), short(live))
		}
		for _, l := range [][]api.Need{nil, some(), needs()} {
			for _, x := range asksOf(t, live, nil, l) {
				by, root, e := lack.By(l, x.N)
				by = slices.DeleteFunc(by, func(n api.Node) bool { return !slices.Contains(live, n) })
				if !slices.Equal(by, x.By) || root != x.Root || e != api.OK {
					t.Errorf("Of tells %s, but By %s, %v, %d", short([]api.Lack{x}), short(by), root, e)
				}
			}
		}
	}
}

func TestChance(t *testing.T) {
	chance := rand.New(rand.NewSource(18))
	all := every()
	some := func() api.Node { return all[chance.Intn(len(all))] }
	part := func() []api.Node {
		l := slices.DeleteFunc(slices.Clone(all), func(api.Node) bool { return chance.Intn(2) == 0 })
		if len(l) > 1 && chance.Intn(12) == 0 {
			l[chance.Intn(len(l))] = []api.Node{l[0], root, of("a/", "v1.0.0"), of("a", "v1")}[chance.Intn(4)]
		}
		return l
	}
	for range 2500 {
		var l []api.Need
		for range chance.Intn(60) {
			d := api.Need{From: some(), To: some()}
			if chance.Intn(8) == 0 {
				d.From = root
			}
			if chance.Intn(400) == 0 {
				d.From, d.To = d.To, root
			}
			l = append(l, d)
		}
		live, keys := part(), part()
		misses(t, live, keys)
		asksOf(t, live, keys, l)
		asksBy(t, l, some())
	}
}
