package memo_test

import (
	"fmt"
	"math"
	"math/rand"
	"reflect"
	"slices"
	"strings"
	"sync"
	"testing"

	"graftwood/api"
	"graftwood/memo"
	"graftwood/text"
)

// The texts that are asked here: manifests, one without requirements, one with a single one, two with more; and what is none.
const (
	a  = "module a"
	b  = "module b\ngo 1.21\nrequire c v1.0.0\n"
	c  = "module c\nrequire (\n\ta v1.0.0\n\tb v1.9.0\n\tb v1.9.0\n)\n"
	d  = "module d\nrequire a v1.0.0\nrequire c v1.1.0"
	no = "mox"     // ErrSyntax, 3
	so = "module " // ErrTruncated, 7
)

// pool are all of them, and an empty text, and some that are nearly the same.
var pool = []string{a, b, c, d, no, so, "", "\n", "mod", "module a\n", "module A", "module a // c", "module a b", "\xff", "module \"a\""}

// caps are rooms, far below 0 to far above any count.
var caps = []int{math.MinInt, -3, -1, 0, 1, 2, 3, 5, 7, 14, 15, 16, 1 << 31, math.MaxInt}

// mayNot are memos that may not be.
func mayNot() []api.Memo {
	l := []api.Memo{
		// more than Cap
		memoOf(0, a), memoOf(0, ""), memoOf(0, no), memoOf(-1, a), memoOf(math.MinInt, a), memoOf(math.MinInt, a, b), memoOf(-2, a, b), memoOf(0, a, b, c),
		memoOf(1, a, b), memoOf(1, b, no), memoOf(2, a, b, c), memoOf(3, a, b, c, d), memoOf(len(pool)-1, pool...),
		// a text twice
		memoOf(2, a, a), memoOf(9, a, a), memoOf(9, "", ""), memoOf(3, a, b, a), memoOf(9, b, a, a), memoOf(9, no, a, no), memoOf(9, a, b, c, d, b), memoOf(9, so, so, so),
	}
	// what layer 8 does not tell, in the first, in the midst, and in the last
	for i := range 3 {
		for _, k := range wrong() {
			m := memoOf(5, "module x", "module y\nrequire z v1.0.0", "mod")
			m.L[i] = k
			l = append(l, m)
		}
	}
	for _, k := range wrong() {
		l = append(l, api.Memo{Cap: 1, L: []api.Known{k}}, api.Memo{Cap: math.MaxInt, L: []api.Known{k}})
	}
	return l
}

// wrong is what is known of a text, but is not what layer 8 tells of it.
func wrong() []api.Known {
	var l []api.Known
	put := func(s string, turn func(k *api.Known)) {
		k := told(s)
		turn(&k)
		l = append(l, k)
	}
	for _, s := range []string{a, c, no, so, ""} {
		put(s, func(k *api.Known) { k.M.Module += "x" })
		put(s, func(k *api.Known) { k.M.Go += "1.2" })
		put(s, func(k *api.Known) { k.M.Reqs = append(k.M.Reqs, api.Node{Path: "b", Version: "v1.9.0"}) })
		put(s, func(k *api.Known) { k.M.Reqs = append(k.M.Reqs, api.Node{}) })
		put(s, func(k *api.Known) { k.At++ })
		put(s, func(k *api.Known) { k.At = -1 - k.At })
		put(s, func(k *api.Known) { k.At = math.MinInt })
		for _, e := range []api.Errno{api.ErrArg, api.ErrNone, api.ErrOther, api.ErrNeed, -1, 12, math.MaxInt} {
			put(s, func(k *api.Known) { k.E = e })
		}
	}
	put(a, func(k *api.Known) { k.M = api.Manifest{} })
	put(a, func(k *api.Known) { k.M.Module = "b" })
	put(a, func(k *api.Known) { k.E = api.ErrSyntax })
	put(a, func(k *api.Known) { k.At = len(a) })
	put(a, func(k *api.Known) { k.M, k.At, k.E = api.Manifest{}, len(a), api.ErrTruncated })
	put(a, func(k *api.Known) { k.Text = "module aa" })
	put(a, func(k *api.Known) { k.Text = no })
	put(b, func(k *api.Known) { k.M.Go = "" })
	put(b, func(k *api.Known) { k.M.Go = "1.21.0" })
	put(b, func(k *api.Known) { k.M.Reqs = nil })
	put(b, func(k *api.Known) { k.M.Reqs[0].Version = "v1.0.1" })
	put(b, func(k *api.Known) { k.M.Reqs[0].Path = "d" })
	put(c, func(k *api.Known) { k.M.Reqs = k.M.Reqs[:2] })
	put(c, func(k *api.Known) { slices.Reverse(k.M.Reqs) })
	put(no, func(k *api.Known) { k.At = 0 })
	put(no, func(k *api.Known) { k.E = api.ErrTruncated })
	put(no, func(k *api.Known) { k.E = api.OK })
	put(no, func(k *api.Known) { k.At, k.E = 0, api.OK })
	put(no, func(k *api.Known) { k.Text, k.At = "modu", 4 })
	put(so, func(k *api.Known) { k.E = api.ErrSyntax })
	put(so, func(k *api.Known) { k.M = alone("module") })
	put("", func(k *api.Known) { k.E = api.OK })
	put("", func(k *api.Known) { k.At, k.E = 1, api.ErrSyntax })
	return append(l, api.Known{}, api.Known{Text: "a"}, api.Known{M: alone("a")})
}

// alone is the value of a module alone.
func alone(module string) api.Manifest { return api.Manifest{Module: module} }

// mayBe are memos that may be.
func mayBe() []api.Memo {
	l := []api.Memo{
		{}, {L: []api.Known{}}, {Cap: 3, L: make([]api.Known, 0, 3)},
		memoOf(1, a), memoOf(1, b), memoOf(1, c), memoOf(1, ""), memoOf(1, no), memoOf(1, so), memoOf(2, a), memoOf(math.MaxInt, a),
		memoOf(2, a, b), memoOf(2, b, a), memoOf(2, no, so), memoOf(3, "", no), memoOf(3, a, b, c), memoOf(3, c, "", no), memoOf(4, a, b, c), memoOf(4, d, c, b, a),
		memoOf(len(pool), pool...), memoOf(len(pool)+1, pool...),
	}
	for _, many := range caps {
		l = append(l, memo.New(many))
	}
	// No requirement at all is a list that is nil, and one without elements.
	none := memoOf(2, a, no)
	none.L[0].M.Reqs, none.L[1].M.Reqs = []api.Node{}, []api.Node{}
	return append(l, none)
}

// P9.1

func TestCheck(t *testing.T) {
	for i, m := range mayBe() {
		if e := memo.Check(m); e != api.OK || !fits(m) {
			t.Errorf("Check of one that may be, %d: %+v: %d", i, m, e)
		}
	}
	for i, m := range mayNot() {
		if e := memo.Check(m); e != api.ErrArg || fits(m) {
			t.Errorf("Check of one that may not be, %d: %+v: %d", i, m, e)
		}
	}
}

func TestCheckRoom(t *testing.T) {
	for n := range len(pool) + 1 {
		for many := -2; many < len(pool)+3; many++ {
			want := api.ErrArg
			if n <= max(many, 0) {
				want = api.OK
			}
			if e := memo.Check(memoOf(many, pool[:n]...)); e != want {
				t.Errorf("Check of %d texts with room for %d: %d", n, many, e)
			}
		}
	}
}

func TestCheckChance(t *testing.T) {
	r := rand.New(rand.NewSource(91))
	bad, ok := wrong(), 0
	for range 20000 {
		m := api.Memo{Cap: r.Intn(9) - 1}
		for range r.Intn(6) {
			k := told(pool[r.Intn(len(pool))])
			if r.Intn(20) == 0 {
				k = bad[r.Intn(len(bad))]
			}
			m.L = append(m.L, k)
		}
		want := api.ErrArg
		if fits(m) {
			want, ok = api.OK, ok+1
		}
		if e := memo.Check(m); e != want {
			t.Fatalf("Check(%+v): %d, not %d", m, e, want)
		}
	}
	if ok < 2000 || ok > 18000 {
		t.Errorf("of 20000 memos %d may be", ok)
	}
}

func TestNew(t *testing.T) {
	for _, many := range caps {
		m := memo.New(many)
		if m.Cap != many || len(m.L) != 0 || memo.Check(m) != api.OK {
			t.Errorf("New(%d): %+v", many, m)
		}
	}
}

func TestSame(t *testing.T) {
	l := []api.Memo{
		{}, {Cap: 1}, {Cap: -1}, {Cap: math.MinInt}, {Cap: math.MaxInt},
		memoOf(1, a), memoOf(2, a), memoOf(0, a), memoOf(1, b), memoOf(1, c), memoOf(1, no), memoOf(1, so), memoOf(1, ""),
		memoOf(2, a, b), memoOf(2, b, a), memoOf(1, a, b), memoOf(2, a, a), memoOf(2, a, c), memoOf(2, a, b, c), memoOf(2, c, a, b), memoOf(2, a, b, b), memoOf(2, b, b),
	}
	// What differs in one part alone, be it the first one or the last.
	for _, k := range wrong()[:14] {
		l = append(l, api.Memo{Cap: 1, L: []api.Known{k}}, api.Memo{Cap: 2, L: []api.Known{told(b), k}}, api.Memo{Cap: 2, L: []api.Known{k, told(b)}})
	}
	l = append(l, api.Memo{Cap: 1, L: []api.Known{{Text: a}}}, api.Memo{Cap: 1, L: []api.Known{{}}}, api.Memo{Cap: 1, L: []api.Known{{}, {}}})
	for i, m := range l {
		for j, n := range l {
			if memo.Same(m, deep(n)) != (i == j) || equal(m, n) != (i == j) {
				t.Errorf("Same(%+v, %+v)", m, n)
			}
		}
	}
}

func TestSameParts(t *testing.T) {
	for _, s := range []string{a, b, c, no, ""} {
		for i, turn := range []func(m *api.Memo){
			func(m *api.Memo) { m.Cap++ }, func(m *api.Memo) { m.Cap = -m.Cap },
			func(m *api.Memo) { m.L[1].Text += " " },
			func(m *api.Memo) { m.L[1].M.Module += "x" },
			func(m *api.Memo) { m.L[1].M.Go += "1" },
			func(m *api.Memo) { m.L[1].M.Reqs = append(m.L[1].M.Reqs, api.Node{}) },
			func(m *api.Memo) { m.L[1].At-- },
			func(m *api.Memo) { m.L[1].E++ },
			func(m *api.Memo) { m.L[0], m.L[1] = m.L[1], m.L[0] },
			func(m *api.Memo) { m.L[1], m.L[2] = m.L[2], m.L[1] },
			func(m *api.Memo) { m.L = m.L[:2] }, func(m *api.Memo) { m.L = m.L[1:] }, func(m *api.Memo) { m.L = nil },
			func(m *api.Memo) { m.L = append(m.L, api.Known{}) },
		} {
			m := memoOf(3, "module x", s, "mod")
			n := deep(m)
			if !memo.Same(m, n) || !memo.Same(n, m) {
				t.Errorf("Same of %+v with itself", m)
			}
			turn(&n)
			if memo.Same(m, n) || memo.Same(n, m) {
				t.Errorf("Same of %+v, turned by %d", m, i)
			}
		}
	}
}

func TestSameOfNone(t *testing.T) {
	for _, many := range caps {
		l := []api.Memo{{Cap: many}, {Cap: many, L: []api.Known{}}, {Cap: many, L: make([]api.Known, 0, 9)}}
		for _, m := range l {
			for _, n := range l {
				if !memo.Same(m, n) {
					t.Errorf("Same(%#v, %#v)", m, n)
				}
			}
		}
	}
	for _, s := range []string{a, no, ""} {
		m, n := memoOf(1, s), memoOf(1, s)
		m.L[0].M.Reqs, n.L[0].M.Reqs = nil, []api.Node{}
		if !memo.Same(m, n) || !memo.Same(n, m) {
			t.Errorf("Same of %q: requirements nil, and none", s)
		}
	}
}

// P9.2

// asks asks a text of a memo that may be, and holds what it answers against the definition.
func asks(t *testing.T, m api.Memo, s string) api.Memo {
	t.Helper()
	n, v, at, e := memo.Parse(m, s)
	if got, want := (api.Known{Text: s, M: v, At: at, E: e}), told(s); !alike(got, want) {
		t.Errorf("Parse(%+v, %+v): %+v, not %+v", m, s, got, want)
	}
	if e != api.OK && !reflect.DeepEqual(v, api.Manifest{}) {
		t.Errorf("Parse(%+v, %+v): %+v beside %d", m, s, v, e)
	}
	want := memoOf(m.Cap, last(m.Cap, append(textsOf(m), s))...)
	if !equal(n, want) || !memo.Same(n, want) || memo.Check(n) != api.OK {
		t.Errorf("Parse(%+v, %+v): %+v, not %+v", m, s, n, want)
	}
	return n
}

// refuses asks a text of a memo that may not be.
func refuses(t *testing.T, m api.Memo, s string) {
	t.Helper()
	n, v, at, e := memo.Parse(m, s)
	if !equal(n, m) || !memo.Same(n, m) || !reflect.DeepEqual(v, api.Manifest{}) || at != 0 || e != api.ErrArg {
		t.Errorf("Parse(%+v, %+v): %+v, %+v, %d, %d", m, s, n, v, at, e)
	}
}

func TestExamples(t *testing.T) {
	for _, x := range []struct {
		many       int
		asked, are []string
	}{
		{0, []string{a}, nil}, {0, []string{a, b, a}, nil}, {1, []string{a, b}, []string{b}}, {2, []string{a, b, a, c}, []string{a, c}},
	} {
		m := memo.New(x.many)
		for _, s := range x.asked {
			m = asks(t, m, s)
		}
		if !slices.Equal(textsOf(m), x.are) || m.Cap != x.many {
			t.Errorf("%+v with room for %d: %+v", x.asked, x.many, m)
		}
	}
}

func TestParse(t *testing.T) {
	for _, x := range []struct {
		many  int
		are   []string
		ask   string
		wants []string
	}{
		// of nothing
		{0, nil, a, nil}, {0, nil, "", nil}, {-1, nil, c, nil}, {math.MinInt, nil, no, nil}, {1, nil, a, []string{a}},
		{2, nil, so, []string{so}}, {math.MaxInt, nil, "", []string{""}},
		// of one
		{1, []string{a}, a, []string{a}}, {1, []string{a}, b, []string{b}}, {1, []string{c}, no, []string{no}}, {1, []string{no}, no, []string{no}},
		{1, []string{""}, a, []string{a}}, {1, []string{a}, "", []string{""}}, {1, []string{""}, "", []string{""}},
		{2, []string{a}, a, []string{a}}, {2, []string{a}, c, []string{a, c}}, {math.MaxInt, []string{no}, a, []string{no, a}},
		// of two
		{2, []string{a, b}, a, []string{b, a}}, {2, []string{a, b}, b, []string{a, b}}, {2, []string{a, b}, c, []string{b, c}},
		{3, []string{a, b}, a, []string{b, a}}, {3, []string{a, b}, b, []string{a, b}}, {3, []string{a, b}, c, []string{a, b, c}},
		{2, []string{no, so}, no, []string{so, no}}, {2, []string{no, a}, so, []string{a, so}},
		// of more
		{3, []string{a, b, c}, a, []string{b, c, a}}, {3, []string{a, b, c}, b, []string{a, c, b}}, {3, []string{a, b, c}, c, []string{a, b, c}},
		{3, []string{a, b, c}, d, []string{b, c, d}}, {4, []string{a, b, c}, d, []string{a, b, c, d}}, {4, []string{a, b, c, d}, b, []string{a, c, d, b}},
		{4, []string{a, no, "", so}, "", []string{a, no, so, ""}}, {4, []string{a, no, "", so}, "mod", []string{no, "", so, "mod"}},
		// texts that are nearly the same
		{2, []string{"module a\n"}, a, []string{"module a\n", a}}, {2, []string{a}, "module A", []string{a, "module A"}}, {2, []string{"", "\n"}, "", []string{"\n", ""}},
	} {
		m := memoOf(x.many, x.are...)
		if n := asks(t, m, x.ask); n.Cap != x.many || !slices.Equal(textsOf(n), x.wants) {
			t.Errorf("Parse of %q with room for %d, %q: %q, not %q", x.are, x.many, x.ask, textsOf(n), x.wants)
		}
	}
}

func TestTold(t *testing.T) {
	for _, many := range []int{-1, 0, 1, 2, math.MaxInt} {
		for _, x := range []struct {
			s string
			v api.Manifest
			n int
			e api.Errno
		}{
			{a, alone("a"), 0, api.OK},
			{b, api.Manifest{Module: "b", Go: "1.21", Reqs: []api.Node{{Path: "c", Version: "v1.0.0"}}}, 0, api.OK},
			{d, api.Manifest{Module: "d", Reqs: []api.Node{{Path: "a", Version: "v1.0.0"}, {Path: "c", Version: "v1.1.0"}}}, 0, api.OK},
			{no, api.Manifest{}, 3, api.ErrSyntax}, {so, api.Manifest{}, 7, api.ErrTruncated}, {"", api.Manifest{}, 0, api.ErrTruncated},
		} {
			// Asked again it is remembered, if there is room, and told alike.
			m := memo.New(many)
			for range 3 {
				n, v, at, e := memo.Parse(m, x.s)
				if !text.Same(v, x.v) || at != x.n || e != x.e {
					t.Errorf("Parse of %q with room for %d: %q, %d, %d", x.s, many, v, at, e)
				}
				if k := (api.Known{Text: x.s, M: x.v, At: x.n, E: x.e}); many > 0 && (len(n.L) != 1 || !alike(n.L[0], k)) {
					t.Errorf("Parse of %q with room for %d: %+v", x.s, many, n)
				}
				m = n
			}
		}
	}
}

func TestParseEach(t *testing.T) {
	for _, m := range mayBe() {
		for _, s := range pool {
			asks(t, m, s)
		}
	}
}

func TestParseRefused(t *testing.T) {
	for _, m := range mayNot() {
		for _, s := range []string{a, b, no, "", "module x", "module y\nrequire z v1.0.0", "mod", "module zz"} {
			refuses(t, m, s)
		}
		for _, k := range m.L {
			refuses(t, m, k.Text)
		}
	}
}

// P9.3

func TestWhateverWasAsked(t *testing.T) {
	for _, many := range caps {
		r := rand.New(rand.NewSource(int64(many)))
		m := memo.New(many)
		var asked []string
		for range 300 {
			// Some texts are asked more often than others.
			s := pool[min(r.Intn(len(pool)), r.Intn(len(pool)))]
			m, asked = asks(t, m, s), append(asked, s)
			if m.Cap != many || !slices.Equal(textsOf(m), last(many, asked)) {
				t.Fatalf("room for %d, asked %q: %q", many, asked, textsOf(m))
			}
		}
	}
}

func TestAllOrders(t *testing.T) {
	// Every way to ask four times of three texts, with any room.
	for _, l := range []([]string){{a, c, no}, {"", b, so}} {
		for many := -1; many < 5; many++ {
			for i := range 81 {
				m := memo.New(many)
				var asked []string
				for n := i; len(asked) < 4; n /= 3 {
					asked = append(asked, l[n%3])
					m = asks(t, m, l[n%3])
				}
				if !slices.Equal(textsOf(m), last(many, asked)) {
					t.Errorf("room for %d, asked %q: %q", many, asked, textsOf(m))
				}
			}
		}
	}
}

func TestChanceTexts(t *testing.T) {
	r := rand.New(rand.NewSource(93))
	words := []string{"module ", "a", "b", "\n", "require ", "go ", "1.21", "v1.0.0", " ", "(", ")", "//", "\"", "\t"}
	for range 500 {
		m := memo.New(r.Intn(5))
		for range 20 {
			s := "module a\n"[:r.Intn(10)]
			for range r.Intn(4) {
				s += words[r.Intn(len(words))]
			}
			m = asks(t, m, s)
		}
	}
}

// What holds of all

func TestUnchanged(t *testing.T) {
	for _, m := range append(mayBe(), mayNot()...) {
		// Room behind a list is its owner's, too.
		m.L = slices.Grow(m.L, 2)
		past := m.L[:len(m.L)+2]
		was, wasPast := deep(m), slices.Clone(past)
		for _, s := range []string{a, c, no, "module zz", "module y\nrequire z v1.0.0"} {
			memo.Check(m)
			memo.Same(m, m)
			memo.Parse(m, s)
			if !reflect.DeepEqual(deep(m), was) || !reflect.DeepEqual(past, wasPast) {
				t.Fatalf("Parse of %+v, %+v: %+v is %+v", was, s, was, m)
			}
		}
	}
}

func TestNothingShared(t *testing.T) {
	for _, l := range [][]string{nil, {b}, {c}, {b, c}, {c, b}, {c, b, d}, {no, c}} {
		for _, many := range []int{0, 1, 2, 3, 9} {
			m := memoOf(many, l...)
			was := deep(m)
			n, v, _, _ := memo.Parse(m, c)
			wasN, wasV := deep(n), api.Manifest{Module: v.Module, Go: v.Go, Reqs: slices.Clone(v.Reqs)}
			spoil := func(reqs []api.Node) {
				for i := range reqs {
					reqs[i].Path = "spoilt"
				}
			}
			spoil(v.Reqs)
			if !equal(n, wasN) || !equal(m, was) {
				t.Errorf("the value shares with a memo: %q with room for %d", l, many)
			}
			copy(v.Reqs, wasV.Reqs)
			for i := range m.L {
				spoil(m.L[i].M.Reqs)
				m.L[i].Text = "spoilt"
			}
			if !equal(n, wasN) || !text.Same(v, wasV) {
				t.Errorf("what was handed in shares with what is answered: %q with room for %d", l, many)
			}
			for i := range n.L {
				spoil(n.L[i].M.Reqs)
				if !text.Same(v, wasV) {
					t.Errorf("the memo that is answered shares with the value: %q with room for %d", l, many)
				}
			}
		}
	}
}

func TestSameAgain(t *testing.T) {
	m := memoOf(5, a, c, no, "", b)
	var g sync.WaitGroup
	for range 8 {
		g.Go(func() {
			for range 20 {
				for _, s := range pool {
					asks(t, m, s)
				}
			}
		})
	}
	g.Wait()
}

func TestMany(t *testing.T) {
	const texts, size = 100, 60
	var l []string
	for i := range texts {
		l = append(l, fmt.Sprint("module m", i, "\n", strings.Repeat("require a v1.0.0\n", i%size)))
	}
	for _, many := range []int{1, texts - 1, texts, math.MaxInt} {
		m := memo.New(many)
		for _, s := range l {
			m, _, _, _ = memo.Parse(m, s)
		}
		if want := memoOf(many, last(many, l)...); !equal(m, want) {
			t.Errorf("%d texts with room for %d: %d", texts, many, len(m.L))
		}
		asks(t, m, l[texts/2])
		asks(t, m, strings.Repeat("\n", 20000)+"module a")
		asks(t, m, strings.Repeat("m", 20000))
	}
}
