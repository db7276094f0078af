package why_test

import (
	"fmt"
	"slices"
	"sync"
	"testing"

	"graftwood/api"
	"graftwood/why"
)

// What holds of all calls.

// roomy is a list with room behind it, which is its owner's, too.
func roomy[T any](l []T, in T) []T {
	out := slices.Grow(slices.Clone(l), 3)
	for i := len(out); i < cap(out); i++ {
		out[:cap(out)][i] = in
	}
	return out
}

// whole is a list with the room behind it.
func whole[T any](l []T) []T { return l[:cap(l)] }

// spoil writes over all of a list, and over the room behind it.
func spoil[T any](l []T, by T) {
	for i := range whole(l) {
		whole(l)[i] = by
	}
}

// calls asks all that may be asked, and tells what comes.
func calls(l []api.Need, c []api.Node) ([]api.Deep, [][]api.Node) {
	depths, _ := why.Depths(l)
	why.Is(l, c)
	var chains [][]api.Node
	for _, n := range append(nodes("a b v y z q none"), root, of("a", "")) {
		x, _ := why.Chain(l, n)
		chains = append(chains, x)
	}
	return depths, chains
}

// deepOf are lists in memory of their own.
func deepOf(l [][]api.Node) [][]api.Node {
	var out [][]api.Node
	for _, x := range l {
		out = append(out, slices.Clone(x))
	}
	return out
}

func TestUnchanged(t *testing.T) {
	lists := [][]api.Need{nil, some(), turned(some()), needs(">a a>b b>a b>z"), needs("a>b"), needs(">a >b >z"), needs(">a a>b >"), needs("a@>b >a")}
	for _, x := range lists {
		for _, y := range [][]api.Node{nil, nodes("a x y z"), nodes("c b y"), nodes("none"), {root}, nodes("a b a@")} {
			l, c := roomy(x, needs(">room")[0]), roomy(y, one("room"))
			wasL, wasC := slices.Clone(whole(l)), slices.Clone(whole(c))
			depths, chains := calls(l, c)
			keptDepths, keptChains := slices.Clone(depths), deepOf(chains)
			// What is done to answers is seen neither in what was handed in nor in other answers.
			spoiltDepths, spoiltChains := calls(l, c)
			spoil(spoiltDepths, api.Deep{N: of("spoilt", ""), D: -1})
			for _, s := range spoiltChains {
				spoil(s, of("spoilt", ""))
			}
			if !slices.Equal(whole(l), wasL) || !slices.Equal(whole(c), wasC) {
				t.Fatalf("%s, %s: changed", short(x), short(y))
			}
			spoil(l, needs("spoilt>spoilt")[0])
			spoil(c, of("spoilt", ""))
			if !slices.Equal(depths, keptDepths) || !slices.EqualFunc(chains, keptChains, slices.Equal[[]api.Node]) {
				t.Fatalf("%s, %s: what is answered shares with others", short(x), short(y))
			}
		}
	}
}

func TestSameAgain(t *testing.T) {
	// A map gives its keys in another order each time; what is answered, by however many at once, is one.
	l := some()
	for i := range 60 {
		for j := range 60 {
			l = append(l, api.Need{From: one(fmt.Sprintf("m%02d", 59-j)), To: one(fmt.Sprintf("m%02d", i*j%60))})
		}
	}
	l = append(l, needs(">m40 >m50 m40>last m59>last m01>last")...)
	depths, _ := why.Depths(l)
	last, _ := why.Chain(l, one("last"))
	if len(depths) < 30 || len(last) < 2 {
		t.Fatalf("too little: %v, %s", depths, short(last))
	}
	var g sync.WaitGroup
	for range 8 {
		g.Go(func() {
			for range 10 {
				deep(t, l, depths)
				chain(t, l, one("last"), last, api.OK)
				is(t, l, last, true, api.OK)
				chain(t, l, one("q"), nil, api.ErrNeed)
			}
		})
	}
	g.Wait()
}

func TestManyInALine(t *testing.T) {
	const many = 30000
	at := func(i int) api.Node { return of(fmt.Sprintf("m%06d", i), "v1.0.0") }
	var l []api.Need
	var line []api.Node
	var depths []api.Deep
	for i := range many {
		d := api.Need{To: at(i)}
		if i > 0 {
			d.From = at(i - 1)
			// back to the first one, and to itself
			l = append(l, api.Need{From: at(i), To: at(0)}, api.Need{From: at(i), To: at(i)})
		}
		l, line, depths = append(l, d), append(line, at(i)), append(depths, api.Deep{N: at(i), D: i + 1})
	}
	deep(t, l, depths)
	deep(t, turned(l), depths)
	chain(t, l, at(many-1), line, api.OK)
	chain(t, l, at(many/2), line[:many/2+1], api.OK)
	if x, e := why.Is(l, line); !x || e != api.OK {
		t.Errorf("Is of a long line: %v, %d", x, e)
	}
	// Round and round it is a chain, too.
	if x, e := why.Is(l, append(slices.Clone(line), line...)); !x || e != api.OK {
		t.Errorf("Is of a long line twice: %v, %d", x, e)
	}
	if x, e := why.Is(l, turned(line)); x || e != api.OK {
		t.Errorf("Is of a long line from behind: %v, %d", x, e)
	}
	l[len(l)-1].To = of("none", "")
	refused(t, l, at(0), line[:1])
}

func TestManySideBySide(t *testing.T) {
	// Each of a level needs all of the next one: there are more chains than could be gone through one by one.
	const levels, wide = 60, 30
	at := func(level, i int) api.Node { return of(fmt.Sprintf("m%02d", level), fmt.Sprintf("v1.%d.0", i)) }
	var l []api.Need
	var depths []api.Deep
	var least []api.Node
	for level := range levels {
		least = append(least, at(level, 0))
		for i := range wide {
			depths = append(depths, api.Deep{N: at(level, i), D: level + 1})
			for j := range wide {
				d := api.Need{To: at(level, j)}
				if level > 0 {
					d.From = at(level-1, wide-1-i)
				}
				l = append(l, d)
			}
		}
	}
	deep(t, l, depths)
	chain(t, l, at(levels-1, 0), least, api.OK)
	chain(t, l, at(levels-1, wide-1), append(slices.Clone(least[:levels-1]), at(levels-1, wide-1)), api.OK)
	// Without the least one's needs it is the next one, and what is ahead of it stays.
	l = slices.DeleteFunc(l, func(d api.Need) bool { return d.From == at(levels-2, 0) })
	want := instead(least, levels-2, at(levels-2, 1))
	chain(t, l, at(levels-1, 0), want, api.OK)
}
