package list_test

import (
	"fmt"
	"math/rand"
	"slices"
	"sync"
	"testing"

	"graftwood/api"
	"graftwood/list"
	"graftwood/tally"
)

// Of more rows a list is above (P17.4).

func TestOfMoreRows(t *testing.T) {
	more := append(nodes("a@v0.0.1", "a@v1.9.0", "a@v1.9.5", "a@v1.10.0-rc", "a@v99.0.0"), nodes("-@v1.0.0", "a/b@v1.0.0-3", "b@v1.10.0", "~@v9.0.0")...)
	for _, rows := range rowsMayBe() {
		old := builds(t, rows)
		for _, n := range more {
			x, _ := tally.Add(rows, n)
			if !above(t, old, builds(t, x)) {
				t.Errorf("Build(%s) is not above that without %q", short(x), n)
			}
		}
	}
	chance := rand.New(rand.NewSource(17))
	for range 200 {
		var rows []api.Row
		var was [][]api.Node
		for range 12 {
			was = append(was, builds(t, rows))
			rows, _ = tally.Add(rows, of(paths[chance.Intn(4)], versions[chance.Intn(len(versions))]))
			now := builds(t, rows)
			for _, old := range was {
				if !above(t, old, now) {
					t.Errorf("%s, of more rows, is not above %s", short(now), short(old))
				}
			}
		}
	}
}

// What holds of all calls.

func TestChance(t *testing.T) {
	chance := rand.New(rand.NewSource(117))
	texts := slices.Concat(versions, []string{"", "", "v1", "v1.0.0-01"})
	some := func() []api.Node {
		var l []api.Node
		for _, p := range paths {
			if chance.Intn(3) == 0 {
				l = append(l, of(p, versions[chance.Intn(len(versions))]))
			}
		}
		if len(l) > 0 && chance.Intn(9) == 0 {
			i, j := chance.Intn(len(l)), chance.Intn(len(l))
			l[i] = []api.Node{l[j], of(l[j].Path, "v1.2.3"), of("a/", "v1.0.0"), of(l[i].Path, "v1")}[chance.Intn(4)]
		}
		return l
	}
	for range 5000 {
		old, now := some(), some()
		c := deltas(t, old, now)
		above(t, old, now)
		picks(t, old, paths[chance.Intn(len(paths))])
		applies(t, old, c)
		applies(t, now, c)
		if len(c) > 0 {
			x := &c[chance.Intn(len(c))]
			if chance.Intn(2) == 0 {
				x.Old = texts[chance.Intn(len(texts))]
			} else {
				x.New = texts[chance.Intn(len(texts))]
			}
			applies(t, old, c)
			applies(t, old, swapped(c, 0, len(c)-1))
		}
	}
}

// roomy is a list with room behind it, which is its owner's, too.
func roomy[T any](l []T, in T) []T {
	out := slices.Grow(slices.Clone(l), 3)
	for i := len(out); i < cap(out); i++ {
		out[:cap(out)][i] = in
	}
	return out
}

// whole is a list with the room behind it.
func whole[T any](l []T) []T { return l[:cap(l)] }

// spoil writes over all of a list, and over the room behind it.
func spoil[T any](l []T, by T) {
	for i := range whole(l) {
		whole(l)[i] = by
	}
}

// calls asks all that may be asked of lists and changes, and tells what comes.
func calls(old, now []api.Node, c []api.Change) ([][]api.Node, [][]api.Change) {
	list.Check(old)
	list.Pick(old, "c")
	list.Above(old, now)
	one, _ := list.Delta(old, now)
	two, _ := list.Delta(now, old)
	three, _ := list.Apply(old, c)
	four, _ := list.Apply(now, c)
	return [][]api.Node{three, four}, [][]api.Change{one, two}
}

// deep are lists in memory of their own.
func deep[T any](lists [][]T) [][]T {
	var out [][]T
	for _, l := range lists {
		out = append(out, slices.Clone(l))
	}
	return out
}

// alike tells whether lists are the same, one by one.
func alike[T comparable](a, b [][]T) bool { return slices.EqualFunc(a, b, slices.Equal[[]T]) }

func TestUnchanged(t *testing.T) {
	lists := [][]api.Node{nil, three(), changedThree(), every(), nodes("b@v1.9.0", "b@v1.10.0"), nodes("c@v1.0.0", "a@v1.0.0"), nodes("c@v1")}
	changes := [][]api.Change{nil, all(), all()[1:3], turned(all()), {to("a", "", "")}, {to("c", "v1.10.0", ""), to("b", "v1.9.0", "")}}
	for _, x := range lists {
		for _, y := range lists {
			for _, z := range changes {
				old, now, c := roomy(x, of("room", "v1.0.0")), roomy(y, of("room", "v1.0.0")), roomy(z, to("room", "", "v1.0.0"))
				wasOld, wasNow, wasC := slices.Clone(whole(old)), slices.Clone(whole(now)), slices.Clone(whole(c))
				same := func() bool {
					return slices.Equal(whole(old), wasOld) && slices.Equal(whole(now), wasNow) && slices.Equal(whole(c), wasC)
				}
				n, d := calls(old, now, c)
				moreN, moreD := calls(old, now, c)
				keptN, keptD := deep(n), deep(d)
				for i := range moreN {
					spoil(moreN[i], of("spoilt", ""))
					spoil(moreD[i], to("spoilt", "", ""))
				}
				if !same() || !alike(n, keptN) || !alike(d, keptD) {
					t.Fatalf("%s, %s, %s: changed, or what is answered shares with others", short(x), short(y), short(z))
				}
				spoil(old, of("spoilt", ""))
				spoil(now, of("spoilt", ""))
				spoil(c, to("spoilt", "", ""))
				if !alike(n, keptN) || !alike(d, keptD) {
					t.Fatalf("%s, %s, %s: what is answered shares with what was handed in", short(x), short(y), short(z))
				}
			}
		}
	}
}

func TestRowsUnchanged(t *testing.T) {
	for _, l := range append(rowsMayBe(), rowsMayNot()...) {
		x, was := roomy(l, row("room", "v1.0.0")), roomy(l, row("room", "v1.0.0"))
		for i, r := range l {
			x[i].Versions, was[i].Versions = roomy(r.Versions, "room"), slices.Clone(r.Versions)
		}
		one, _ := list.Build(x)
		two, _ := list.Build(x)
		kept := slices.Clone(two)
		spoil(one, of("spoilt", ""))
		if !tally.Same(whole(x)[:len(was)], was) || !slices.Equal(two, kept) {
			t.Fatalf("Build(%s) changed it, or shares with others", short(l))
		}
		for i := range x {
			spoil(x[i].Versions, "spoilt")
		}
		spoil(x, row("spoilt"))
		if !slices.Equal(two, kept) {
			t.Fatalf("Build(%s) shares with what was handed in", short(l))
		}
	}
}

func TestSameAgain(t *testing.T) {
	// A map gives its keys in another order each time; what is answered, by however many at once, is one.
	var old, now []api.Node
	for i := range 200 {
		p := fmt.Sprintf("m%03d", i)
		old = append(old, of(p, versions[i%7]))
		if i%5 > 0 {
			now = append(now, of(p, versions[i%9]))
		}
	}
	now = append(now, nodes("n@v1.0.0", "o@v1.0.0")...)
	c, _ := changed(old, now)
	var g sync.WaitGroup
	for range 8 {
		g.Go(func() {
			for range 20 {
				if x, e := list.Delta(old, now); !slices.Equal(x, c) || e != api.OK {
					t.Errorf("Delta: %s, %d", short(x), e)
				}
				if x, e := list.Apply(old, c); !slices.Equal(x, now) || e != api.OK {
					t.Errorf("Apply: %s, %d", short(x), e)
				}
				if up, e := list.Above(old, now); up || e != api.OK {
					t.Errorf("Above: %v, %d", up, e)
				}
			}
		})
	}
	g.Wait()
}

func TestMany(t *testing.T) {
	const many = 20000
	var rows []api.Row
	var old, now []api.Node
	var want []api.Change
	for i := range many {
		p := fmt.Sprintf("m%06d", i)
		rows = append(rows, row(p, "v1.9.0", "v1.10.0"))
		now = append(now, of(p, "v1.10.0"))
		switch i % 3 {
		case 0:
			old = append(old, of(p, "v1.9.0"))
			want = append(want, to(p, "v1.9.0", "v1.10.0"))
		case 1:
			want = append(want, to(p, "", "v1.10.0"))
		default:
			old = append(old, of(p, "v1.10.0"))
		}
	}
	l, e := list.Build(rows)
	is(t, "Build of many rows", l, e, now, api.OK)
	if c, e := list.Delta(old, now); !slices.Equal(c, want) || e != api.OK {
		t.Errorf("Delta of many: %s, %d", short(c), e)
	}
	l, e = list.Apply(old, want)
	is(t, "Apply of many", l, e, now, api.OK)
	l, e = list.Apply(now, turned(want))
	is(t, "Apply of many, turned about", l, e, old, api.OK)
	for _, n := range []api.Node{now[0], now[1], now[many/2], now[many-1]} {
		if v, e := list.Pick(now, n.Path); v != n.Version || e != api.OK {
			t.Errorf("Pick of %q: %q, %d", n.Path, v, e)
		}
	}
	up, _ := list.Above(old, now)
	down, _ := list.Above(now, old)
	if !up || down {
		t.Errorf("Above of many: %v, %v", up, down)
	}
	now[many-1].Path = now[many-2].Path
	if e := list.Check(now); e != api.ErrArg {
		t.Errorf("Check of the last path twice: %d", e)
	}
}
