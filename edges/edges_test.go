package edges_test

import (
	"math"
	"math/rand"
	"slices"
	"sync"
	"testing"

	"graftwood/api"
	"graftwood/edges"
)

// of is a pair that is there so often.
func of(from, to, n int) api.Edge { return api.Edge{From: from, To: to, N: n} }

// these are edges.
func these(l ...api.Edge) []api.Edge { return l }

// four are edges from Root, from one number twice, and from another one, that lead to one number thrice.
func four() []api.Edge { return these(of(-1, 2, 1), of(1, 2, 3), of(1, 5, 1), of(4, 2, 2)) }

// numbers are those that are asked, as a From and as a To, some of which may not be.
var numbers = []int{math.MinInt, math.MinInt32, -top, -3, -2, -1, 0, 1, 2, 3, 4, 5, 6, 7, 8, 9, 10, 255, 1 << 31, 1 << 32, top, top + 1, math.MaxInt - 1, math.MaxInt}

// mayBe are edges that may be.
func mayBe() [][]api.Edge {
	return [][]api.Edge{
		nil, {}, make([]api.Edge, 0, 3),
		these(of(0, 0, 1)), these(of(0, 0, 2)), these(of(0, 0, top)), these(of(-1, 0, 1)),
		these(of(-1, 0, top)), these(of(3, 3, 1)), these(of(0, 1, 1)), these(of(1, 0, 2)),
		these(of(-1, math.MaxInt, 1)), these(of(math.MaxInt, 0, 1)),
		these(of(math.MaxInt, math.MaxInt, top)), these(of(0, 1, top-1)), these(of(5, 9, top)),
		these(of(0, 0, 1), of(0, 1, 1)), these(of(0, 5, 1), of(1, 0, 1)), these(of(0, 1, 2), of(1, 0, 1)),
		these(of(-1, 0, 1), of(0, 0, 1)), these(of(-1, 0, 1), of(-1, 1, 1)),
		these(of(-1, 1, top), of(1, 1, top)), these(of(2, 7, 1), of(2, 8, top)),
		these(of(-1, 3, 1), of(math.MaxInt, 3, 1)), these(of(0, 0, 1), of(0, math.MaxInt, 1)),
		these(of(-1, 0, 1), of(-1, 1, 1), of(-1, 2, 1)), these(of(0, 1, 1), of(1, 2, 1), of(2, 0, 1)), these(of(0, 9, 1), of(1, 9, 2), of(2, 9, 3)),
		these(of(-1, 0, 1), of(-1, 2, 1), of(0, 1, 1), of(2, 0, 1), of(2, 1, 2)), these(of(0, 0, 1), of(1, 1, 1), of(2, 2, 1), of(3, 3, 1)),
		four(), many(3, 3), many(6, 4),
	}
}

// many are all pairs from Root and so many numbers to so many numbers.
func many(from, to int) []api.Edge {
	var l []api.Edge
	for f := -1; f < from; f++ {
		for t := range to {
			l = append(l, of(f, t, (f+3*t)%5+2))
		}
	}
	return l
}

// mayNot are edges that may not be.
func mayNot() [][]api.Edge {
	l := [][]api.Edge{
		// out of order by From, and by To, first, in the midst and last
		these(of(1, 0, 1), of(0, 0, 1)), these(of(0, 0, 1), of(-1, 0, 1)), these(of(1, 0, 1), of(0, 1, 1)),
		these(of(0, 1, 1), of(0, 0, 1)), these(of(-1, 3, 1), of(-1, 2, 1)),
		these(of(1, 0, 1), of(0, 0, 1), of(2, 0, 1)), these(of(0, 0, 1), of(2, 0, 1), of(1, 0, 1)),
		these(of(0, 0, 1), of(0, 2, 1), of(0, 1, 1)), these(of(0, 1, 1), of(0, 0, 1), of(1, 0, 1)),
		these(of(2, 0, 1), of(3, 0, 1), of(0, 0, 1)), these(of(math.MaxInt, 0, 1), of(-1, 0, 1)), these(of(0, math.MaxInt, 1), of(0, 0, 1)),
		// a pair twice, as often and not, side by side and not
		these(of(0, 0, 1), of(0, 0, 1)), these(of(0, 0, 1), of(0, 0, 2)), these(of(-1, 0, 1), of(-1, 0, 1)),
		these(of(0, 1, 1), of(0, 1, 1), of(0, 2, 1)), these(of(0, 1, 1), of(0, 2, 1), of(0, 2, 1)),
		these(of(0, 1, 1), of(0, 2, 1), of(0, 1, 1)), these(of(3, 3, 2), of(3, 3, 1)), these(of(-1, 0, 1), of(2, 2, 1), of(2, 2, 1), of(3, 0, 1)),
	}
	for _, e := range wrong() {
		l = append(l, these(e), append(these(e), four()...), append(four(), e), slices.Insert(four(), 2, e))
	}
	for i := range four() {
		for _, n := range []int{0, -1, -top, math.MinInt, top + 1, top + 2, 1 << 41, math.MaxInt} {
			x := four()
			x[i].N = n
			l = append(l, x)
		}
	}
	return l
}

// wrong are edges each of which may not be.
func wrong() []api.Edge {
	return these(
		of(-2, 0, 1), of(-3, 2, 1), of(math.MinInt, 0, 1), of(math.MinInt32, 5, top), of(-2, -1, 1),
		of(0, -1, 1), of(9, -1, 1), of(-1, -1, 1), of(0, -2, 1), of(9, math.MinInt, 1),
		of(1, 3, 0), of(1, 3, -1), of(9, 9, math.MinInt), of(9, 9, top+1),
		of(-1, 0, top+1), of(9, 9, math.MaxInt), of(9, 9, 0), api.Edge{}, of(-2, -2, 0),
	)
}

// P11.1

func TestCheck(t *testing.T) {
	for _, l := range mayBe() {
		if e := edges.Check(l); e != api.OK || !fits(l) {
			t.Errorf("Check of edges that may be, %v: %d", l, e)
		}
	}
	for _, l := range mayNot() {
		if e := edges.Check(l); e != api.ErrArg || fits(l) {
			t.Errorf("Check of edges that may not be, %v: %d", l, e)
		}
	}
}

func TestCheckOfEachShortList(t *testing.T) {
	few := these(of(-1, 0, 1), of(-1, 1, 1), of(0, 0, 1), of(0, 0, 2), of(0, 1, top), of(1, 0, 1), of(1, 1, 1), of(-2, 0, 1), of(0, -1, 1), of(1, 2, 0), of(1, 2, top+1))
	var grow func(l []api.Edge)
	grow = func(l []api.Edge) {
		want := api.OK
		if !fits(l) {
			want = api.ErrArg
		}
		if e := edges.Check(l); e != want {
			t.Errorf("Check of %v: %d, not %d", l, e, want)
		}
		for _, e := range few {
			if len(l) < 4 {
				grow(append(slices.Clone(l), e))
			}
		}
	}
	grow(nil)
}

// same holds what a call answers against what it is to.
func same[T comparable](t *testing.T, what string, l []api.Edge, asked any, got, want T, e, no api.Errno) {
	t.Helper()
	if got != want || e != no {
		t.Errorf("%s(%v, %v): %v, %d, not %v, %d", what, l, asked, got, e, want, no)
	}
}

// sameList holds what a call answers against what it is to, a list: it is nothing beside an error.
func sameList[T comparable](t *testing.T, what string, l []api.Edge, asked any, got, want []T, e, no api.Errno) {
	t.Helper()
	if !slices.Equal(got, want) || e != no || e != api.OK && len(got) > 0 {
		t.Errorf("%s(%v, %v): %v, %d, not %v, %d", what, l, asked, got, e, want, no)
	}
}

// asks asks all that may be asked of edges, a pair, and its ends, and holds it against the definition.
func asks(t *testing.T, l []api.Edge, p pair) {
	t.Helper()
	n, e := edges.Many(l, p[0], p[1])
	wantN, no := often(l, p)
	same(t, "Many", l, p, n, wantN, e, no)
	next, e := edges.Next(l, p[0])
	want, no := led(l, 0, p[0])
	sameList(t, "Next", l, p[0], next, want, e, no)
	back, e := edges.Back(l, p[1])
	want, no = led(l, 1, p[1])
	sameList(t, "Back", l, p[1], back, want, e, no)
	x, e := edges.Add(l, p[0], p[1])
	wantL, no := more(l, p)
	sameList(t, "Add", l, p, x, wantL, e, no)
	x, e = edges.Drop(l, p[0], p[1])
	wantL, no = less(l, p)
	sameList(t, "Drop", l, p, x, wantL, e, no)
}

// counted asks how many numbers edges have, and holds it against the definition.
func counted(t *testing.T, l []api.Edge) {
	t.Helper()
	n, e := edges.Ends(l)
	want, no := ended(l)
	same(t, "Ends", l, "", n, want, e, no)
}

func TestMany(t *testing.T) {
	five := these(of(-1, 0, 4), of(0, 1, 1), of(2, 1, 2), of(2, 3, top), of(7, 7, 9))
	for _, x := range []struct {
		l    []api.Edge
		p    pair
		want int
	}{
		// that are there, first, in the midst and last
		{these(of(0, 1, 1)), pair{0, 1}, 1}, {these(of(0, 1, 2)), pair{0, 1}, 2},
		{these(of(-1, 0, top)), pair{-1, 0}, top}, {these(of(3, 3, 5)), pair{3, 3}, 5},
		{these(of(0, 1, 2), of(0, 2, 3)), pair{0, 1}, 2}, {these(of(0, 1, 2), of(0, 2, 3)), pair{0, 2}, 3},
		{five, pair{-1, 0}, 4}, {five, pair{0, 1}, 1}, {five, pair{2, 1}, 2},
		{five, pair{2, 3}, top}, {five, pair{7, 7}, 9}, {these(of(math.MaxInt, math.MaxInt, 6)), pair{math.MaxInt, math.MaxInt}, 6},
		// of no edges
		{nil, pair{0, 0}, 0}, {these(), pair{0, 0}, 0}, {nil, pair{-1, 0}, 0}, {nil, pair{math.MaxInt, math.MaxInt}, 0},
		// with its From there alone, with its To there alone, with both there but not together, with neither, and the other way about
		{five, pair{2, 9}, 0}, {five, pair{-1, 9}, 0}, {five, pair{5, 1}, 0}, {five, pair{5, 0}, 0},
		{five, pair{-1, 1}, 0}, {five, pair{0, 3}, 0}, {five, pair{7, 1}, 0}, {five, pair{2, 7}, 0},
		{five, pair{5, 5}, 0}, {five, pair{1, 0}, 0}, {five, pair{1, 2}, 0}, {five, pair{3, 2}, 0},
		{five, pair{0, 0}, 0}, {five, pair{2, 2}, 0}, {five, pair{math.MaxInt, 0}, 0},
	} {
		if n, e := edges.Many(x.l, x.p[0], x.p[1]); n != x.want || e != api.OK {
			t.Errorf("Many(%v, %d): %d, %d, not %d", x.l, x.p, n, e, x.want)
		}
		asks(t, x.l, x.p)
	}
}

func TestNextAndBack(t *testing.T) {
	five := these(of(-1, 0, 1), of(-1, 2, 1), of(0, 1, 1), of(2, 0, 1), of(2, 1, 2))
	for _, x := range []struct {
		l          []api.Edge
		n          int
		next, back []int
	}{
		{nil, 0, nil, nil}, {these(), 0, nil, nil}, {nil, math.MaxInt, nil, nil},
		{these(of(0, 1, 1)), 0, []int{1}, nil}, {these(of(0, 1, 1)), 1, nil, []int{0}},
		{these(of(0, 1, top)), 0, []int{1}, nil}, {these(of(0, 1, top)), 2, nil, nil},
		{these(of(3, 3, 7)), 3, []int{3}, []int{3}}, {these(of(3, 3, 7)), 2, nil, nil}, {these(of(-1, 4, 2)), 4, nil, []int{-1}},
		{these(of(0, 0, 1), of(0, 1, 1), of(1, 0, 1)), 0, []int{0, 1}, []int{0, 1}},
		{these(of(0, 2, 1), of(1, 2, 1), of(1, 10, 1)), 1, []int{2, 10}, nil},
		{five, 0, []int{1}, []int{-1, 2}}, {five, 1, nil, []int{0, 2}},
		{five, 2, []int{0, 1}, []int{-1}}, {five, 3, nil, nil}, {five, math.MaxInt, nil, nil},
		{these(of(5, 9, 1), of(10, 9, 1), of(math.MaxInt, 9, 1)), 9, nil, []int{5, 10, math.MaxInt}},
		{these(of(9, 5, 1), of(9, 10, 1), of(9, math.MaxInt, 1)), 9, []int{5, 10, math.MaxInt}, nil},
	} {
		if l, e := edges.Next(x.l, x.n); !slices.Equal(l, x.next) || e != api.OK {
			t.Errorf("Next(%v, %d): %d, %d, not %d", x.l, x.n, l, e, x.next)
		}
		if l, e := edges.Back(x.l, x.n); !slices.Equal(l, x.back) || e != api.OK {
			t.Errorf("Back(%v, %d): %d, %d, not %d", x.l, x.n, l, e, x.back)
		}
	}
	for _, x := range []struct {
		l    []api.Edge
		next []int
	}{
		{nil, nil}, {these(), nil}, {these(of(0, 1, 1)), nil}, {these(of(-1, 4, 2)), []int{4}},
		{five, []int{0, 2}}, {these(of(-1, 0, 1), of(-1, 3, 5), of(-1, math.MaxInt, 1)), []int{0, 3, math.MaxInt}},
	} {
		if l, e := edges.Next(x.l, api.Root); !slices.Equal(l, x.next) || e != api.OK {
			t.Errorf("Next(%v, Root): %d, %d, not %d", x.l, l, e, x.next)
		}
	}
}

func TestBackOfRoot(t *testing.T) {
	// Next may be asked of Root, Back may not: no edge leads there.
	for _, l := range mayBe() {
		if _, e := edges.Next(l, api.Root); e != api.OK {
			t.Errorf("Next(%v, Root): %d", l, e)
		}
		if x, e := edges.Back(l, api.Root); x != nil || e != api.ErrArg {
			t.Errorf("Back(%v, Root): %d, %d", l, x, e)
		}
	}
}

func TestEnds(t *testing.T) {
	for _, x := range []struct {
		l    []api.Edge
		want int
	}{
		{nil, 0}, {these(), 0}, {these(of(0, 1, 1)), 2}, {these(of(0, 1, top)), 2}, {these(of(7, 3, 1)), 2},
		// from Root alone
		{these(of(-1, 0, 1)), 1}, {these(of(-1, 5, 1)), 1}, {these(of(-1, 0, 1), of(-1, 1, 1)), 2},
		{these(of(-1, 2, 9), of(-1, 3, 1), of(-1, 9, 1)), 3},
		// of a pair of one number
		{these(of(0, 0, 1)), 1}, {these(of(4, 4, 2)), 1}, {these(of(0, 0, 1), of(1, 1, 1)), 2}, {these(of(-1, 4, 1), of(4, 4, 1)), 1},
		// of numbers that are ends more than once
		{these(of(0, 1, 1), of(1, 0, 1)), 2}, {these(of(0, 1, 1), of(0, 2, 1)), 3},
		{these(of(0, 2, 1), of(1, 2, 1)), 3}, {these(of(0, 1, 1), of(1, 2, 1)), 3},
		{these(of(0, 1, 1), of(1, 2, 1), of(2, 0, 1)), 3}, {these(of(-1, 0, 1), of(0, 1, 1), of(1, 1, 1)), 2},
		{four(), 4}, {many(3, 3), 3}, {many(6, 4), 6}, {many(2, 7), 7},
		{these(of(-1, math.MaxInt, 1), of(math.MaxInt, 0, 1)), 2},
	} {
		if n, e := edges.Ends(x.l); n != x.want || e != api.OK {
			t.Errorf("Ends(%v): %d, %d, not %d", x.l, n, e, x.want)
		}
		counted(t, x.l)
	}
}

func TestAskEach(t *testing.T) {
	for _, l := range append(mayBe(), mayNot()...) {
		counted(t, l)
		for _, from := range numbers {
			for _, to := range numbers {
				asks(t, l, pair{from, to})
			}
		}
	}
}

// refuses holds all that is asked against ErrArg, and nothing.
func refuses(t *testing.T, l []api.Edge, p pair) {
	t.Helper()
	if n, e := edges.Many(l, p[0], p[1]); n != 0 || e != api.ErrArg {
		t.Errorf("Many(%v, %d): %d, %d", l, p, n, e)
	}
	if x, e := edges.Add(l, p[0], p[1]); x != nil || e != api.ErrArg {
		t.Errorf("Add(%v, %d): %v, %d", l, p, x, e)
	}
	if x, e := edges.Drop(l, p[0], p[1]); x != nil || e != api.ErrArg {
		t.Errorf("Drop(%v, %d): %v, %d", l, p, x, e)
	}
	if x, e := edges.Next(l, p[0]); x != nil || e != api.ErrArg {
		t.Errorf("Next(%v, %d): %d, %d", l, p[0], x, e)
	}
	if x, e := edges.Back(l, p[1]); x != nil || e != api.ErrArg {
		t.Errorf("Back(%v, %d): %d, %d", l, p[1], x, e)
	}
}

func TestWrongEdges(t *testing.T) {
	for _, l := range mayNot() {
		if n, e := edges.Ends(l); n != 0 || e != api.ErrArg {
			t.Errorf("Ends(%v): %d, %d", l, n, e)
		}
		for _, p := range []pair{{0, 0}, {-1, 0}, {-1, 2}, {1, 2}, {9, 9}, {math.MaxInt, math.MaxInt}, {-2, -1}} {
			refuses(t, l, p)
		}
		for _, e := range l {
			// A pair that is there, as often as it may be and oftener, and one that may not be.
			refuses(t, l, pair{e.From, e.To})
		}
	}
}

func TestWrongPairs(t *testing.T) {
	for _, l := range mayBe() {
		for _, from := range []int{-2, -3, -top, math.MinInt32, math.MinInt} {
			for _, to := range []int{-1, -2, -3, -top, math.MinInt32, math.MinInt} {
				refuses(t, l, pair{from, to})
				for _, p := range []pair{{from, 0}, {from, 2}, {from, math.MaxInt}, {-1, to}, {0, to}, {1, to}, {math.MaxInt, to}} {
					asks(t, l, p)
					n, e := edges.Many(l, p[0], p[1])
					x, no := edges.Add(l, p[0], p[1])
					y, none := edges.Drop(l, p[0], p[1])
					if n != 0 || x != nil || y != nil || e != api.ErrArg || no != api.ErrArg || none != api.ErrArg {
						t.Errorf("of %v, %d: %d, %d, %v, %d, %v, %d", l, p, n, e, x, no, y, none)
					}
				}
			}
		}
	}
}

// P11.2

func TestExamples(t *testing.T) {
	var l []api.Edge
	for range 2 {
		l, _ = edges.Add(l, 3, 4)
	}
	l, e := edges.Drop(l, 3, 4)
	if !slices.Equal(l, these(of(3, 4, 1))) || e != api.OK {
		t.Errorf("added twice, dropped once: %v, %d", l, e)
	}
	if x, e := edges.Next(these(of(-1, 1, 1), of(-1, 4, 1), of(1, 2, 1)), api.Root); !slices.Equal(x, []int{1, 4}) || e != api.OK {
		t.Errorf("Next of Root: %d, %d", x, e)
	}
	if x, e := edges.Drop(nil, 0, 0); x != nil || e != api.ErrNone {
		t.Errorf("Drop of none: %v, %d", x, e)
	}
}

func TestAdd(t *testing.T) {
	three := these(of(0, 2, 1), of(2, 1, 1), of(2, 5, top))
	for _, x := range []struct {
		l    []api.Edge
		p    pair
		want []api.Edge
		e    api.Errno
	}{
		{nil, pair{0, 0}, these(of(0, 0, 1)), api.OK}, {these(), pair{-1, 7}, these(of(-1, 7, 1)), api.OK},
		{nil, pair{math.MaxInt, math.MaxInt}, these(of(math.MaxInt, math.MaxInt, 1)), api.OK},
		// where it goes: first, in the midst, last, ahead of, between and behind those of one From
		{three, pair{-1, 9}, these(of(-1, 9, 1), of(0, 2, 1), of(2, 1, 1), of(2, 5, top)), api.OK},
		{three, pair{0, 1}, these(of(0, 1, 1), of(0, 2, 1), of(2, 1, 1), of(2, 5, top)), api.OK},
		{three, pair{1, 0}, these(of(0, 2, 1), of(1, 0, 1), of(2, 1, 1), of(2, 5, top)), api.OK},
		{three, pair{1, 9}, these(of(0, 2, 1), of(1, 9, 1), of(2, 1, 1), of(2, 5, top)), api.OK},
		{three, pair{0, 9}, these(of(0, 2, 1), of(0, 9, 1), of(2, 1, 1), of(2, 5, top)), api.OK},
		{three, pair{2, 0}, these(of(0, 2, 1), of(2, 0, 1), of(2, 1, 1), of(2, 5, top)), api.OK},
		{three, pair{2, 3}, these(of(0, 2, 1), of(2, 1, 1), of(2, 3, 1), of(2, 5, top)), api.OK},
		{three, pair{2, 6}, these(of(0, 2, 1), of(2, 1, 1), of(2, 5, top), of(2, 6, 1)), api.OK},
		{three, pair{3, 0}, these(of(0, 2, 1), of(2, 1, 1), of(2, 5, top), of(3, 0, 1)), api.OK},
		// that are there already
		{three, pair{0, 2}, these(of(0, 2, 2), of(2, 1, 1), of(2, 5, top)), api.OK},
		{three, pair{2, 1}, these(of(0, 2, 1), of(2, 1, 2), of(2, 5, top)), api.OK},
		{these(of(0, 0, 1)), pair{0, 0}, these(of(0, 0, 2)), api.OK}, {these(of(-1, 0, 41)), pair{-1, 0}, these(of(-1, 0, 42)), api.OK},
		// as often as they may be, and once less
		{these(of(0, 0, top-1)), pair{0, 0}, these(of(0, 0, top)), api.OK},
		{these(of(0, 0, top)), pair{0, 0}, nil, api.ErrLarge}, {these(of(-1, 0, top)), pair{-1, 0}, nil, api.ErrLarge},
		{three, pair{2, 5}, nil, api.ErrLarge}, {these(of(0, 0, top), of(0, 1, 1)), pair{0, 0}, nil, api.ErrLarge},
		{these(of(0, 0, 1), of(0, 1, top), of(0, 2, 1)), pair{0, 1}, nil, api.ErrLarge},
		{these(of(0, 0, top), of(0, 1, 1)), pair{0, 1}, these(of(0, 0, top), of(0, 1, 2)), api.OK},
		{these(of(0, 0, top)), pair{0, 1}, these(of(0, 0, top), of(0, 1, 1)), api.OK},
		// oftener than they may be, and of other edges that may not be, beside one that is there as often as it may be
		{these(of(0, 0, top+1)), pair{0, 0}, nil, api.ErrArg}, {these(of(0, 0, top), of(0, 0, top)), pair{0, 0}, nil, api.ErrArg},
		{these(of(1, 0, top), of(0, 0, 1)), pair{1, 0}, nil, api.ErrArg},
		{these(of(-2, 0, top)), pair{-2, 0}, nil, api.ErrArg}, {these(of(0, 0, top), of(0, 1, 0)), pair{0, 0}, nil, api.ErrArg},
		{these(of(0, -1, top)), pair{0, -1}, nil, api.ErrArg},
	} {
		if l, e := edges.Add(x.l, x.p[0], x.p[1]); !slices.Equal(l, x.want) || e != x.e || e != api.OK && l != nil {
			t.Errorf("Add(%v, %d): %v, %d, not %v, %d", x.l, x.p, l, e, x.want, x.e)
		}
		asks(t, x.l, x.p)
	}
}

func TestDrop(t *testing.T) {
	three := these(of(0, 2, 1), of(2, 1, 2), of(2, 5, top))
	for _, x := range []struct {
		l    []api.Edge
		p    pair
		want []api.Edge
		e    api.Errno
	}{
		// that are there once
		{these(of(0, 0, 1)), pair{0, 0}, nil, api.OK}, {these(of(-1, 3, 1)), pair{-1, 3}, nil, api.OK},
		{three, pair{0, 2}, these(of(2, 1, 2), of(2, 5, top)), api.OK},
		{these(of(0, 0, 1), of(0, 1, 1), of(0, 2, 1)), pair{0, 1}, these(of(0, 0, 1), of(0, 2, 1)), api.OK},
		{these(of(0, 0, 1), of(0, 1, 1)), pair{0, 1}, these(of(0, 0, 1)), api.OK},
		// that are there more than once
		{these(of(0, 0, 2)), pair{0, 0}, these(of(0, 0, 1)), api.OK}, {these(of(-1, 0, 3)), pair{-1, 0}, these(of(-1, 0, 2)), api.OK},
		{these(of(0, 0, top)), pair{0, 0}, these(of(0, 0, top-1)), api.OK},
		{three, pair{2, 1}, these(of(0, 2, 1), of(2, 1, 1), of(2, 5, top)), api.OK},
		{three, pair{2, 5}, these(of(0, 2, 1), of(2, 1, 2), of(2, 5, top-1)), api.OK},
		// that are not there: of nothing, with the From alone, with the To alone, with both but not together, and the other way about
		{nil, pair{0, 0}, nil, api.ErrNone}, {these(), pair{-1, 0}, nil, api.ErrNone},
		{three, pair{2, 9}, nil, api.ErrNone}, {three, pair{9, 2}, nil, api.ErrNone}, {three, pair{2, 2}, nil, api.ErrNone},
		{three, pair{0, 5}, nil, api.ErrNone}, {three, pair{1, 2}, nil, api.ErrNone},
		{three, pair{-1, 2}, nil, api.ErrNone}, {three, pair{math.MaxInt, 0}, nil, api.ErrNone},
		// of edges that may not be, ahead of a pair that is not there, and a pair that may not be, which is never there
		{these(of(0, 0, 1), of(0, 0, 1)), pair{5, 5}, nil, api.ErrArg},
		{these(of(0, 0, 0)), pair{0, 0}, nil, api.ErrArg}, {these(of(0, 0, top+1)), pair{0, 0}, nil, api.ErrArg},
		{these(of(1, 0, 1), of(0, 0, 1)), pair{3, 3}, nil, api.ErrArg}, {these(of(-2, 0, 1)), pair{-2, 0}, nil, api.ErrArg},
		{three, pair{-2, 2}, nil, api.ErrArg}, {three, pair{0, -1}, nil, api.ErrArg},
		{nil, pair{-2, 0}, nil, api.ErrArg}, {nil, pair{0, -1}, nil, api.ErrArg}, {nil, pair{-1, -1}, nil, api.ErrArg},
	} {
		if l, e := edges.Drop(x.l, x.p[0], x.p[1]); !slices.Equal(l, x.want) || e != x.e || e != api.OK && l != nil {
			t.Errorf("Drop(%v, %d): %v, %d, not %v, %d", x.l, x.p, l, e, x.want, x.e)
		}
		asks(t, x.l, x.p)
	}
}

// P11.3

// pairsOf are edges' pairs, and some that are not there.
func pairsOf(l []api.Edge) []pair {
	out := []pair{{-1, 0}, {0, 0}, {0, 3}, {1, 4}, {3, 2}, {9, 9}, {-1, math.MaxInt}, {math.MaxInt, 0}}
	for _, e := range l {
		out = append(out, pair{e.From, e.To}, pair{e.From, e.From + 1}, pair{e.To, max(e.From, 0)})
	}
	return out
}

func TestAddedAndDropped(t *testing.T) {
	for _, l := range mayBe() {
		for _, p := range pairsOf(l) {
			was := slices.Clone(l)
			if x, e := edges.Add(l, p[0], p[1]); e == api.OK {
				if back, e := edges.Drop(x, p[0], p[1]); !slices.Equal(back, was) || e != api.OK {
					t.Errorf("%v, %d added, and dropped: %v, %d", was, p, back, e)
				}
			}
			if x, e := edges.Drop(l, p[0], p[1]); e == api.OK {
				if back, e := edges.Add(x, p[0], p[1]); !slices.Equal(back, was) || e != api.OK {
					t.Errorf("%v, %d dropped, and added: %v, %d", was, p, back, e)
				}
			}
		}
	}
}

// added are edges of nothing, and of these pairs, one behind the other.
func added(t *testing.T, pairs []pair) []api.Edge {
	t.Helper()
	var l []api.Edge
	for _, p := range pairs {
		x, e := edges.Add(l, p[0], p[1])
		if e != api.OK || edges.Check(x) != api.OK {
			t.Fatalf("Add(%v, %d): %v, %d", l, p, x, e)
		}
		l = x
	}
	return l
}

func TestEachOrder(t *testing.T) {
	for _, pairs := range [][]pair{
		{{-1, 0}, {0, 1}, {0, 0}, {1, 0}, {0, 1}}, {{2, 1}, {-1, 2}, {2, 0}, {2, 1}, {0, 1}, {-1, 0}},
		{{0, 3}, {0, 2}, {0, 1}, {0, 2}}, {{3, 0}, {2, 0}, {1, 0}, {-1, 0}, {2, 0}}, {{4, 4}, {4, 4}, {4, 4}},
	} {
		m := map[pair]int{}
		for _, p := range pairs {
			m[p]++
		}
		want := listed(m)
		var swap func(k int)
		swap = func(k int) {
			if k == len(pairs) {
				l := added(t, pairs)
				if !slices.Equal(l, want) {
					t.Fatalf("%d added: %v, not %v", pairs, l, want)
				}
				mutual(t, l)
				return
			}
			for i := k; i < len(pairs); i++ {
				pairs[k], pairs[i] = pairs[i], pairs[k]
				swap(k + 1)
				pairs[k], pairs[i] = pairs[i], pairs[k]
			}
		}
		swap(0)
	}
}

// rises tells whether each number is above the one ahead of it.
func rises(l []int) bool {
	for i := range l {
		if i > 0 && l[i-1] >= l[i] {
			return false
		}
	}
	return true
}

// mutual holds Next, Back and Many against each other: a pair is in all of them, or in none.
func mutual(t *testing.T, l []api.Edge) {
	t.Helper()
	for _, e := range append(slices.Clone(l), of(-1, 0, 0), of(0, 0, 0), of(1, 2, 0), of(2, 1, 0), of(9, 9, 0)) {
		for _, p := range []pair{{e.From, e.To}, {e.To, max(e.From, 0)}, {e.From, e.To + 1}} {
			if !able(p) {
				continue
			}
			next, _ := edges.Next(l, p[0])
			back, _ := edges.Back(l, p[1])
			n, e := edges.Many(l, p[0], p[1])
			in := counts(l)[p] > 0
			if slices.Contains(next, p[1]) != in || slices.Contains(back, p[0]) != in || n > 0 != in || e != api.OK {
				t.Errorf("of %v, %d: Next %d, Back %d, Many %d, %d", l, p, next, back, n, e)
			}
			if !rises(next) || !rises(back) {
				t.Errorf("of %v, %d: Next %d, Back %d", l, p, next, back)
			}
		}
	}
}

func TestMutual(t *testing.T) {
	for _, l := range mayBe() {
		mutual(t, l)
	}
}

func TestComeAndGo(t *testing.T) {
	for seed := range 60 {
		r := rand.New(rand.NewSource(int64(seed)))
		var l []api.Edge
		m := map[pair]int{}
		for range 200 {
			p := pair{r.Intn(7) - 2, r.Intn(6) - 1}
			call, by := edges.Add, 1
			if r.Intn(2) == 0 {
				call, by = edges.Drop, -1
			}
			x, e := call(l, p[0], p[1])
			switch {
			case !able(p):
				sameList(t, "Add or Drop", l, p, x, nil, e, api.ErrArg)
				continue
			case m[p]+by < 0:
				sameList(t, "Drop", l, p, x, nil, e, api.ErrNone)
				continue
			}
			m[p] += by
			sameList(t, "Add or Drop", l, p, x, listed(m), e, api.OK)
			l = x
			counted(t, l)
		}
		mutual(t, l)
	}
}

// What holds of all

func TestChance(t *testing.T) {
	r := rand.New(rand.NewSource(110))
	often := []int{1, 1, 1, 2, 3, top - 1, top}
	odd := []int{0, -1, top + 1, math.MinInt, math.MaxInt}
	for range 20000 {
		m := map[pair]int{}
		for range r.Intn(9) {
			m[pair{r.Intn(6) - 1, r.Intn(5)}] = often[r.Intn(len(often))]
		}
		l := listed(m)
		if len(l) > 0 && r.Intn(4) == 0 {
			i, j := r.Intn(len(l)), r.Intn(len(l))
			switch r.Intn(4) {
			case 0:
				l[i], l[j] = l[j], l[i]
			case 1:
				l[i] = l[j]
			case 2:
				l[i].N = odd[r.Intn(len(odd))]
			default:
				l[i].From, l[i].To = r.Intn(8)-3, r.Intn(7)-2
			}
		}
		counted(t, l)
		asks(t, l, pair{r.Intn(8) - 2, r.Intn(7) - 1})
		asks(t, l, pair{r.Intn(6) - 1, r.Intn(5)})
		if e := edges.Check(l); (e == api.OK) != fits(l) || e != api.OK && e != api.ErrArg {
			t.Errorf("Check(%v): %d", l, e)
		}
	}
}

func TestUnchanged(t *testing.T) {
	for _, l := range append(mayBe(), mayNot()...) {
		// Room behind a list is its owner's, too.
		l = slices.Grow(slices.Clone(l), 3)
		past := l[:len(l)+3]
		was := slices.Clone(past)
		edges.Check(l)
		edges.Ends(l)
		for _, p := range pairsOf(l) {
			edges.Many(l, p[0], p[1])
			edges.Next(l, p[0])
			edges.Back(l, p[1])
			edges.Add(l, p[0], p[1])
			edges.Drop(l, p[0], p[1])
			if !slices.Equal(past, was) {
				t.Fatalf("%v are %v of %d", was, past, p)
			}
		}
	}
}

// spoil writes over all of a list, and over the room behind it.
func spoil[T any](l []T, v T) {
	l = l[:cap(l)]
	for i := range l {
		l[i] = v
	}
}

func TestNothingShared(t *testing.T) {
	bad := of(-9, -9, -9)
	for _, l := range mayBe() {
		for _, p := range pairsOf(l) {
			l := slices.Grow(slices.Clone(l), 4)
			past := l[:len(l)+4]
			was := slices.Clone(past)
			x, _ := edges.Add(l, p[0], p[1])
			again, _ := edges.Add(l, p[0], p[1])
			y, _ := edges.Drop(l, p[0], p[1])
			next, _ := edges.Next(l, p[0])
			back, _ := edges.Back(l, p[1])
			wasAgain, wasY := slices.Clone(again), slices.Clone(y)
			spoil(x, bad)
			spoil(next, -9)
			spoil(back, -9)
			if !slices.Equal(past, was) || !slices.Equal(again, wasAgain) || !slices.Equal(y, wasY) {
				t.Fatalf("what Add answers of %v, %d shares with others: %v, %v, %v", was, p, past, again, y)
			}
			spoil(y, bad)
			if !slices.Equal(past, was) || !slices.Equal(again, wasAgain) {
				t.Fatalf("what Drop answers of %v, %d shares with others: %v, %v", was, p, past, again)
			}
			spoil(l, bad)
			if !slices.Equal(again, wasAgain) {
				t.Fatalf("what Add answers of %v, %d shares with what was handed in: %v", was, p, again)
			}
		}
	}
}

func TestBranches(t *testing.T) {
	// Two go on from the same edges: neither is in the other's.
	l := added(t, []pair{{-1, 0}, {0, 1}, {1, 2}})
	for range 10 {
		x, _ := edges.Add(l, 5, 5)
		y, _ := edges.Add(l, 6, 6)
		z, _ := edges.Drop(l, 1, 2)
		w, _ := edges.Add(z, 2, 2)
		three := these(of(-1, 0, 1), of(0, 1, 1), of(1, 2, 1))
		if !slices.Equal(l, three) || !slices.Equal(x, append(slices.Clone(three), of(5, 5, 1))) || !slices.Equal(y, append(slices.Clone(three), of(6, 6, 1))) {
			t.Fatalf("%v, %v and %v", l, x, y)
		}
		if !slices.Equal(z, three[:2]) || !slices.Equal(w, append(slices.Clone(three[:2]), of(2, 2, 1))) {
			t.Fatalf("%v and %v", z, w)
		}
	}
}

func TestOfNothing(t *testing.T) {
	for _, l := range [][]api.Edge{nil, {}, make([]api.Edge, 0, 9)} {
		if e := edges.Check(l); e != api.OK {
			t.Errorf("Check(%#v): %d", l, e)
		}
		if n, e := edges.Ends(l); n != 0 || e != api.OK {
			t.Errorf("Ends(%#v): %d, %d", l, n, e)
		}
		for _, p := range []pair{{-1, 0}, {0, 0}, {3, 1}, {math.MaxInt, math.MaxInt}} {
			asks(t, l, p)
			if x, e := edges.Add(l, p[0], p[1]); !slices.Equal(x, these(of(p[0], p[1], 1))) || e != api.OK {
				t.Errorf("Add(%#v, %d): %v, %d", l, p, x, e)
			}
			if x, e := edges.Drop(l, p[0], p[1]); x != nil || e != api.ErrNone {
				t.Errorf("Drop(%#v, %d): %v, %d", l, p, x, e)
			}
		}
	}
}

func TestSameAgain(t *testing.T) {
	l := many(5, 5)
	var g sync.WaitGroup
	for range 8 {
		g.Go(func() {
			for range 10 {
				counted(t, l)
				for _, p := range pairsOf(four()) {
					asks(t, l, p)
				}
			}
		})
	}
	g.Wait()
}

func TestLong(t *testing.T) {
	const side = 300
	l := many(side, side)
	if e := edges.Check(l); e != api.OK {
		t.Fatalf("Check of %d edges: %d", len(l), e)
	}
	if n, e := edges.Ends(l); n != side || e != api.OK {
		t.Errorf("Ends of %d edges: %d, %d", len(l), n, e)
	}
	for _, p := range []pair{{-1, 0}, {0, 0}, {side / 2, side / 3}, {side - 1, side - 1}, {side, 0}, {-1, side}} {
		oneMore(t, l, p)
	}
	last := l[len(l)-1]
	l[len(l)-1] = l[0]
	if e := edges.Check(l); e != api.ErrArg {
		t.Errorf("Check of the first one again, last: %d", e)
	}
	l[len(l)-1] = last
	l[len(l)/2].N = 0
	if n, e := edges.Ends(l); n != 0 || e != api.ErrArg {
		t.Errorf("Ends of one that is there never, in the midst: %d, %d", n, e)
	}
}

// oneMore adds a pair to many edges, and drops it twice, and asks for it.
func oneMore(t *testing.T, l []api.Edge, p pair) {
	t.Helper()
	was := counts(l)[p]
	x, e := edges.Add(l, p[0], p[1])
	n, _ := edges.Many(x, p[0], p[1])
	if n != was+1 || e != api.OK || edges.Check(x) != api.OK {
		t.Errorf("%d, that is there %d times, added: %d, %d", p, was, n, e)
	}
	y, e := edges.Drop(x, p[0], p[1])
	if !slices.Equal(y, l) || e != api.OK {
		t.Errorf("%d added, and dropped: %d edges of %d, %d", p, len(y), len(l), e)
	}
	want := api.OK
	if was == 0 {
		want = api.ErrNone
	}
	z, e := edges.Drop(y, p[0], p[1])
	n, _ = edges.Many(z, p[0], p[1])
	if n != max(was-1, 0) || e != want {
		t.Errorf("%d, that is there %d times, dropped: %d, %d", p, was, n, e)
	}
}
