package list_test

import (
	"fmt"
	"slices"
	"testing"

	"graftwood/api"
	"graftwood/list"
)

// to is a change.
func to(path, old, now string) api.Change { return api.Change{Path: path, Old: old, New: now} }

// all is one change of each kind, from three to changedThree.
func all() []api.Change {
	return []api.Change{to("a", "", "v1.0.0"), to("b", "v1.9.0", ""), to("c", "v1.10.0", "v1.9.0"), to("e", "v1.0.0-rc", "v1.0.0"), to("f", "", "v0.0.0")}
}

func changedThree() []api.Node { return nodes("a@v1.0.0", "c@v1.9.0", "e@v1.0.0", "f@v0.0.0") }

// turned are changes turned about.
func turned(c []api.Change) []api.Change {
	var out []api.Change
	for _, x := range c {
		out = append(out, to(x.Path, x.New, x.Old))
	}
	return out
}

// changesMayBe are changes that may be.
func changesMayBe() [][]api.Change {
	l := append(nothing[api.Change](), all(), all()[1:4], all()[:2], turned(all()))
	var come, gone, rise []api.Change
	for i, p := range paths {
		v, w := versions[i], versions[i+5]
		l = append(l, []api.Change{to(p, "", v)}, []api.Change{to(p, v, "")}, []api.Change{to(p, v, w)}, []api.Change{to(p, w, v)})
		come, gone, rise = append(come, to(p, "", v)), append(gone, to(p, v, "")), append(rise, to(p, v, w))
	}
	return append(l, come, gone, rise, turned(rise))
}

// changesMayNot are changes that may not be.
func changesMayNot() [][]api.Change {
	three := all()[1:4]
	l := [][]api.Change{{{}}, {to("a", "v1.0.0", "v1.0.0"), to("a", "v1.0.0", "v1.0.0")}}
	for i, x := range three {
		bad := []api.Change{to(x.Path, "", ""), to(x.Path, x.Old, x.Old), to(x.Path, "v9.0.0", "v9.0.0"), {}}
		for j, p := range wrongPaths {
			bad = append(bad, to(p, x.Old, x.New), to(p, "", "v1.0.0"), to(p, wrongVersions[j], ""))
		}
		for _, v := range wrongVersions[1:] {
			bad = append(bad, to(x.Path, v, x.New), to(x.Path, x.Old, v), to(x.Path, v, ""), to(x.Path, "", v), to(x.Path, v, v))
		}
		for _, y := range bad {
			l = append(l, instead(three, i, y), []api.Change{y})
		}
		// a path twice: by the same change, by one that goes on from it, by one that goes back, and by another one
		for place := range 4 {
			for _, y := range []api.Change{x, to(x.Path, x.New, "v9.0.0"), to(x.Path, x.New, x.Old), to(x.Path, "v8.0.0", "v9.0.0")} {
				l = append(l, at(three, place, y))
			}
		}
		for j := range i {
			l = append(l, swapped(three, i, j))
		}
	}
	for i, p := range paths {
		for _, o := range paths[:i+1] {
			l = append(l, []api.Change{to(p, "v1.0.0", ""), to(o, "v1.0.0", "")}, []api.Change{to(p, "", "v1.0.0"), to(o, "v1.0.0", "v1.1.0")})
		}
	}
	return l
}

// few are all build lists of three paths, each by one of some versions, or not there.
func few(versions ...string) [][]api.Node {
	lists := [][]api.Node{nil}
	for _, p := range []string{"a", "a-b", "a/b"} {
		for _, l := range lists {
			for _, v := range versions {
				lists = append(lists, append(slices.Clone(l), of(p, v)))
			}
		}
	}
	return lists
}

// deltas asks what changes, holds it against the definition, and answers it.
func deltas(t *testing.T, old, now []api.Node) []api.Change {
	t.Helper()
	got, e := list.Delta(old, now)
	if want, no := changed(old, now); !slices.Equal(got, want) || e != no || e == api.OK && !changesMay(got) {
		t.Errorf("Delta(%s, %s): %s, %d, not %s, %d", short(old), short(now), short(got), e, short(want), no)
	}
	return got
}

// applies lets a list change, holds what comes against the definition, and answers it.
func applies(t *testing.T, l []api.Node, c []api.Change) []api.Node {
	t.Helper()
	got, e := list.Apply(l, c)
	want, no := applied(l, c)
	is(t, fmt.Sprintf("Apply(%s, %s)", short(l), short(c)), got, e, want, no)
	return got
}

// P17.2

func TestDelta(t *testing.T) {
	l := nodes("b@v1.9.0", "c@v1.10.0", "e@v1.0.0-rc")
	for _, x := range []struct {
		old, now []api.Node
		want     []api.Change
	}{
		// of none, of a list and itself, of none and some, of some and none
		{nil, nil, nil}, {nil, []api.Node{}, nil}, {[]api.Node{}, nil, nil}, {l, l, nil}, {l, three(), nil},
		{nil, l, []api.Change{to("b", "", "v1.9.0"), to("c", "", "v1.10.0"), to("e", "", "v1.0.0-rc")}},
		{l, nil, []api.Change{to("b", "v1.9.0", ""), to("c", "v1.10.0", ""), to("e", "v1.0.0-rc", "")}},
		{[]api.Node{}, l[:1], []api.Change{to("b", "", "v1.9.0")}}, {l[2:], []api.Node{}, []api.Change{to("e", "v1.0.0-rc", "")}},
		// a version that rises
		{l, nodes("b@v1.10.0", "c@v1.10.0", "e@v1.0.0-rc"), []api.Change{to("b", "v1.9.0", "v1.10.0")}},
		{l, nodes("b@v1.9.0", "c@v2.0.0", "e@v1.0.0-rc"), []api.Change{to("c", "v1.10.0", "v2.0.0")}},
		{l, nodes("b@v1.9.0", "c@v1.10.0", "e@v1.0.0"), []api.Change{to("e", "v1.0.0-rc", "v1.0.0")}},
		// a version that falls
		{l, nodes("b@v1.8.0", "c@v1.10.0", "e@v1.0.0-rc"), []api.Change{to("b", "v1.9.0", "v1.8.0")}},
		{l, nodes("b@v1.9.0", "c@v1.9.0", "e@v1.0.0-rc"), []api.Change{to("c", "v1.10.0", "v1.9.0")}},
		{l, nodes("b@v1.9.0", "c@v1.10.0", "e@v1.0.0-10"), []api.Change{to("e", "v1.0.0-rc", "v1.0.0-10")}},
		// a path that comes
		{l, at(l, 0, of("a", "v1.0.0")), []api.Change{to("a", "", "v1.0.0")}}, {l, at(l, 1, of("b/c", "v1.0.0")), []api.Change{to("b/c", "", "v1.0.0")}},
		{l, at(l, 2, of("d", "v0.0.0")), []api.Change{to("d", "", "v0.0.0")}}, {l, at(l, 3, of("e/b", "v1.9.0")), []api.Change{to("e/b", "", "v1.9.0")}},
		// a path that goes
		{l, l[1:], []api.Change{to("b", "v1.9.0", "")}}, {l, l[:2], []api.Change{to("e", "v1.0.0-rc", "")}},
		{l, nodes("b@v1.9.0", "e@v1.0.0-rc"), []api.Change{to("c", "v1.10.0", "")}},
		// all of these together
		{l, changedThree(), all()}, {changedThree(), l, turned(all())}, {nodes("a@v1.0.0"), nodes("b@v1.0.0"), []api.Change{to("a", "v1.0.0", ""), to("b", "", "v1.0.0")}},
		{nodes("b@v1.0.0"), nodes("a@v1.0.0"), []api.Change{to("a", "", "v1.0.0"), to("b", "v1.0.0", "")}},
		{nodes("a@v1.0.0", "a/b@v1.0.0"), nodes("a-b@v1.0.0", "ab@v1.0.0"),
			[]api.Change{to("a", "v1.0.0", ""), to("a-b", "", "v1.0.0"), to("a/b", "v1.0.0", ""), to("ab", "", "v1.0.0")}},
		{[]api.Node{of(longPath, longVersion)}, []api.Node{of(longPath, moreVersion)}, []api.Change{to(longPath, longVersion, moreVersion)}},
	} {
		if c, e := list.Delta(x.old, x.now); !slices.Equal(c, x.want) || e != api.OK {
			t.Errorf("Delta(%s, %s): %s, %d, not %s", short(x.old), short(x.now), short(c), e, short(x.want))
		}
	}
}

func TestDeltaOfEach(t *testing.T) {
	for _, old := range mayBe() {
		for _, now := range mayBe() {
			deltas(t, old, now)
		}
	}
	for _, l := range mayNot() {
		for _, x := range [][]api.Node{nil, three(), every(), l} {
			for _, pair := range [][2][]api.Node{{l, x}, {x, l}} {
				if c, e := list.Delta(pair[0], pair[1]); len(c) != 0 || e != api.ErrArg {
					t.Errorf("Delta(%s, %s): %s, %d", short(pair[0]), short(pair[1]), short(c), e)
				}
			}
		}
	}
}

func TestApply(t *testing.T) {
	for _, x := range []struct {
		c    []api.Change
		want []api.Node
	}{
		{nil, three()}, {[]api.Change{}, three()},
		// one of each kind
		{all()[:1], at(three(), 0, of("a", "v1.0.0"))}, {all()[1:2], three()[1:]}, {all()[2:3], nodes("b@v1.9.0", "c@v1.9.0", "e@v1.0.0-rc")},
		{all()[3:4], nodes("b@v1.9.0", "c@v1.10.0", "e@v1.0.0")}, {all()[4:], at(three(), 3, of("f", "v0.0.0"))},
		{[]api.Change{to("d", "", "v1.0.0")}, at(three(), 2, of("d", "v1.0.0"))}, {[]api.Change{to("b/c", "", "v1.0.0")}, at(three(), 1, of("b/c", "v1.0.0"))},
		{[]api.Change{to("c", "v1.10.0", "")}, nodes("b@v1.9.0", "e@v1.0.0-rc")}, {[]api.Change{to("e", "v1.0.0-rc", "")}, three()[:2]},
		// many
		{all(), changedThree()}, {[]api.Change{to("b", "v1.9.0", ""), to("c", "v1.10.0", ""), to("e", "v1.0.0-rc", "")}, nil},
		{[]api.Change{to("b", "v1.9.0", "v1.10.0"), to("c", "v1.10.0", "v1.11.0"), to("e", "v1.0.0-rc", "v0.0.0")}, nodes("b@v1.10.0", "c@v1.11.0", "e@v0.0.0")},
	} {
		l, e := list.Apply(three(), x.c)
		is(t, fmt.Sprintf("Apply of %s", short(x.c)), l, e, x.want, api.OK)
	}
	l, e := list.Apply([]api.Node{of(longPath, longVersion)}, []api.Change{to("a", "", moreVersion), to(longPath, longVersion, moreVersion)})
	is(t, "Apply of the greatest texts", l, e, []api.Node{of("a", moreVersion), of(longPath, moreVersion)}, api.OK)
	for _, none := range nothing[api.Node]() {
		l, e := list.Apply(none, []api.Change{to("a", "", "v1.10.0"), to("b", "", "v1.9.0")})
		is(t, "Apply to none", l, e, nodes("a@v1.10.0", "b@v1.9.0"), api.OK)
	}
}

func TestApplyOfAnotherVersion(t *testing.T) {
	// Each change holds, but one, which says another version than the list's, none where it has one, or one where it has none.
	for i, x := range all() {
		for _, old := range []string{"", "v1.9.0", "v1.10.0", "v1.0.0-rc", "v99.0.0"} {
			if old == x.Old || old == x.New {
				continue
			}
			c := instead(all(), i, to(x.Path, old, x.New))
			if x.New == "" {
				c[i].New = "v98.0.0"
			}
			for _, c := range [][]api.Change{c, c[i : i+1], c[:i+1], c[i:]} {
				if l, e := list.Apply(three(), c); len(l) != 0 || e != api.ErrNone {
					t.Errorf("Apply of %s: %s, %d", short(c), short(l), e)
				}
			}
		}
	}
	for _, none := range nothing[api.Node]() {
		for _, c := range []api.Change{to("a", "v1.0.0", ""), to("a", "v1.0.0", "v1.1.0"), to("b", "v1.9.0", "")} {
			if l, e := list.Apply(none, []api.Change{c}); len(l) != 0 || e != api.ErrNone {
				t.Errorf("Apply of %q to none: %s, %d", c, short(l), e)
			}
		}
	}
}

func TestApplyOfEach(t *testing.T) {
	for _, l := range mayBe() {
		for _, c := range changesMayBe() {
			applies(t, l, c)
		}
	}
}

func TestApplyOfWhatMayNotBe(t *testing.T) {
	refused := func(l []api.Node, c []api.Change) {
		if x, e := list.Apply(l, c); len(x) != 0 || e != api.ErrArg {
			t.Errorf("Apply(%s, %s): %s, %d", short(l), short(c), short(x), e)
		}
	}
	// Whether an Old is another version or not, and whether the other argument may be or not.
	one := three()
	two := nodes("b@v1.9.0", "b@v1.10.0")
	for _, c := range changesMayNot() {
		for _, l := range [][]api.Node{nil, one, every(), two} {
			refused(l, c)
		}
		if changesMay(c) {
			t.Errorf("%s may be", short(c))
		}
	}
	for _, l := range mayNot() {
		for _, c := range [][]api.Change{nil, all(), {to("a", "", "v1.0.0")}, {to("a", "v99.0.0", "")}, {to("a", "", "")}} {
			refused(l, c)
		}
	}
}

func TestApplyOfAllFew(t *testing.T) {
	// Each change of three paths, by each Old and New, of each list: what may not be, too.
	texts := []string{"", "v1.9.0", "v1.10.0"}
	changes := [][]api.Change{nil}
	for _, p := range []string{"a", "a-b", "a/b"} {
		for _, c := range changes {
			for _, old := range texts {
				for _, now := range texts {
					changes = append(changes, append(slices.Clone(c), to(p, old, now)))
				}
			}
		}
	}
	for _, l := range few(texts[1:]...) {
		for _, c := range changes {
			applies(t, l, c)
		}
	}
}

// P17.4

// goes holds that what was, with the difference, is what is, and goes back by it turned about.
func goes(t *testing.T, old, now []api.Node) {
	t.Helper()
	c := deltas(t, old, now)
	l, e := list.Apply(old, c)
	is(t, fmt.Sprintf("%s, and %s", short(old), short(c)), l, e, now, api.OK)
	l, e = list.Apply(now, turned(c))
	is(t, fmt.Sprintf("%s, and %s turned about", short(now), short(c)), l, e, old, api.OK)
	if len(c) == 0 != slices.Equal(old, now) {
		t.Errorf("Delta(%s, %s): %s", short(old), short(now), short(c))
	}
}

func TestWhatWasAndTheDifference(t *testing.T) {
	for _, lists := range [][][]api.Node{mayBe(), few("v1.9.0", "v1.10.0-rc", "v1.10.0")} {
		for _, old := range lists {
			for _, now := range lists {
				goes(t, old, now)
			}
		}
	}
}

func TestAboveGoesOn(t *testing.T) {
	lists := append(few("v1.9.0", "v1.10.0-rc", "v1.10.0"), every(), three(), three()[1:])
	ups := make([][]bool, len(lists))
	for i, old := range lists {
		for j, now := range lists {
			up := above(t, old, now)
			ups[i] = append(ups[i], up)
			if i == j && !up {
				t.Errorf("%s is not above itself", short(old))
			}
		}
	}
	for i := range lists {
		for j := range lists {
			if i != j && ups[i][j] && ups[j][i] {
				t.Errorf("%s, and %s: each is above the other one", short(lists[i]), short(lists[j]))
			}
			for k := range lists {
				if ups[i][j] && ups[j][k] && !ups[i][k] {
					t.Errorf("%s, %s, %s: above does not go on", short(lists[i]), short(lists[j]), short(lists[k]))
				}
			}
		}
	}
}
