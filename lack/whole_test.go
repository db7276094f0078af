package lack_test

import (
	"fmt"
	"slices"
	"sync"
	"testing"

	"graftwood/api"
	"graftwood/lack"
)

// What holds of all calls.

// roomy is a list with room behind it, which is its owner's, too.
func roomy[T any](l []T, in T) []T {
	out := slices.Grow(slices.Clone(l), 3)
	for i := len(out); i < cap(out); i++ {
		out[:cap(out)][i] = in
	}
	return out
}

// whole is a list with the room behind it.
func whole[T any](l []T) []T { return l[:cap(l)] }

// spoil writes over all of a list, and over the room behind it.
func spoil[T any](l []T, by T) {
	for i := range whole(l) {
		whole(l)[i] = by
	}
}

// spoilAll writes over all that was answered.
func spoilAll(sets [][]api.Node, lacks [][]api.Lack) {
	for _, l := range sets {
		spoil(l, of("spoilt", ""))
	}
	for _, l := range lacks {
		for _, x := range l {
			spoil(x.By, of("spoilt", ""))
		}
		spoil(l, lackOf("spoilt", true, "spoilt"))
	}
}

// deep are lists in memory of their own.
func deep(sets [][]api.Node, lacks [][]api.Lack) ([][]api.Node, [][]api.Lack) {
	var a [][]api.Node
	for _, l := range sets {
		a = append(a, slices.Clone(l))
	}
	var b [][]api.Lack
	for _, l := range lacks {
		l = slices.Clone(l)
		for i := range l {
			l[i].By = slices.Clone(l[i].By)
		}
		b = append(b, l)
	}
	return a, b
}

// alike tells whether answers are the same, one by one.
func alike(a, b [][]api.Node, c, d [][]api.Lack) bool {
	return slices.EqualFunc(a, b, slices.Equal[[]api.Node]) && slices.EqualFunc(c, d, equal)
}

// calls asks all that may be asked, and tells what comes.
func calls(live, keys []api.Node, l []api.Need) (sets [][]api.Node, lacks [][]api.Lack) {
	lack.Check(l)
	for _, pair := range [][2][]api.Node{{live, keys}, {keys, live}, {live, live}, {live, nil}} {
		set, _ := lack.Missing(pair[0], pair[1])
		all, _ := lack.Of(pair[0], pair[1], l)
		sets, lacks = append(sets, set), append(lacks, all)
	}
	for _, n := range append(three(), nodes("a@v1.9.0", "e@v1.0.0", "c@v1.0.0", "c@v1")...) {
		set, _, _ := lack.By(l, n)
		sets = append(sets, set)
	}
	return sets, lacks
}

func TestUnchanged(t *testing.T) {
	lists := [][]api.Node{nil, three(), every(), live(), keys(), nodes("b@v1.10.0", "b@v1.9.0"), nodes("c@v1.0.0", "c@v1")}
	needings := [][]api.Need{nil, some(), needs(), turned(needs()), {need("a@v1.9.0", "e@v1.0.0"), need("", "")}, needs()[6:]}
	for _, x := range lists {
		for _, y := range lists {
			for _, z := range needings {
				live, keys, l := roomy(x, of("room", "v1.0.0")), roomy(y, of("room", "v1.0.0")), roomy(z, need("", "room@v1.0.0"))
				wasLive, wasKeys, wasL := slices.Clone(whole(live)), slices.Clone(whole(keys)), slices.Clone(whole(l))
				sets, lacks := calls(live, keys, l)
				keptSets, keptLacks := deep(sets, lacks)
				spoilAll(calls(live, keys, l))
				if !slices.Equal(whole(live), wasLive) || !slices.Equal(whole(keys), wasKeys) || !slices.Equal(whole(l), wasL) {
					t.Fatalf("%s, %s, %s: changed", short(x), short(y), short(z))
				}
				spoil(live, of("spoilt", ""))
				spoil(keys, of("spoilt", ""))
				spoil(l, need("spoilt", "spoilt"))
				if !alike(sets, keptSets, lacks, keptLacks) {
					t.Fatalf("%s, %s, %s: what is answered shares with others", short(x), short(y), short(z))
				}
			}
		}
	}
}

func TestNodesOfAnAnswerAreItsOwn(t *testing.T) {
	want, _ := lacking(live(), nil, needs())
	for i := range want {
		// What is done to one's nodes, or to the room behind them, is seen at no other one.
		l, _ := lack.Of(live(), nil, needs())
		spoil(l[i].By, of("spoilt", ""))
		_ = append(l[i].By, nodes("spoilt@v1.0.0", "spoilt@v1.1.0")...)
		l[i] = want[i]
		if !equal(l, want) {
			t.Errorf("spoilt at %d: %s", i, short(l))
		}
	}
}

func TestSameAgain(t *testing.T) {
	// A map gives its keys in another order each time; what is answered, by however many at once, is one.
	var live, keys []api.Node
	var l []api.Need
	for i := range 100 {
		live = append(live, of(fmt.Sprintf("m%03d", i), "v1.0.0"))
		for j := range 100 {
			l = append(l, need(fmt.Sprintf("m%03d@v1.0.0", 99-j), fmt.Sprintf("m%03d@v1.0.0", i*j%100)))
		}
	}
	keys = live[20:60]
	want, _ := lacking(live, keys, l)
	missing, _ := missed(live, keys)
	by, _, _ := needing(l, live[12])
	var g sync.WaitGroup
	for range 8 {
		g.Go(func() {
			for range 10 {
				if x, e := lack.Of(live, keys, l); !equal(x, want) || e != api.OK {
					t.Errorf("Of: %s, %d", short(x), e)
				}
				if x, e := lack.Missing(live, keys); !slices.Equal(x, missing) || e != api.OK {
					t.Errorf("Missing: %s, %d", short(x), e)
				}
				if x, root, e := lack.By(l, live[12]); !slices.Equal(x, by) || root || e != api.OK {
					t.Errorf("By: %s, %v, %d", short(x), root, e)
				}
			}
		})
	}
	g.Wait()
}

func TestMany(t *testing.T) {
	const many = 20000
	var live, keys, missing []api.Node
	var l []api.Need
	var want []api.Lack
	at := func(i int) api.Node { return of(fmt.Sprintf("m%06d", i%many), "v1.0.0") }
	for i := range many {
		live = append(live, at(i))
		// Each is needed by the two behind it, and every fifth one by the root, too.
		l = append(l, api.Need{From: at(i + 2), To: at(i)}, api.Need{From: at(i + 1), To: at(i)}, api.Need{From: of("none", "v1.0.0"), To: at(i)})
		if i%5 == 0 {
			l = append(l, api.Need{To: at(i)})
		}
		if i%2 == 0 {
			keys = append(keys, at(i))
			continue
		}
		missing = append(missing, at(i))
		want = append(want, api.Lack{N: at(i), By: setOf([]api.Node{at(i + 2), at(i + 1)}), Root: i%5 == 0})
	}
	if x, e := lack.Missing(live, keys); !slices.Equal(x, missing) || e != api.OK {
		t.Errorf("Missing of many: %s, %d", short(x), e)
	}
	x, e := lack.Of(live, keys, l)
	holds(t, "Of many", x, e, want, api.OK)
	var toOne []api.Need
	for i := range many {
		toOne = append(toOne, api.Need{From: at(many - 1 - i), To: at(7)})
	}
	if by, root, e := lack.By(toOne, at(7)); !slices.Equal(by, live) || root || e != api.OK {
		t.Errorf("By of one that many need: %s, %v, %d", short(by), root, e)
	}
	l[len(l)-1].From = of("none", "")
	if e := lack.Check(l); e != api.ErrArg {
		t.Errorf("Check of many, the last of which may not be: %d", e)
	}
}
