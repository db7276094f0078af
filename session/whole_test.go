package session_test

import (
	"fmt"
	"maps"
	"math/rand"
	"reflect"
	"slices"
	"strings"
	"sync"
	"testing"

	"graftwood/api"
	"graftwood/session"
)

// P20.5

// pool are nodes of few paths, in more versions than one, and one ahead of a release.
var pool = nodes("a@v1.9.0 a@v1.10.0 a@v1.10.0-rc b b@v1.1.0 c d@v0.1.0 d@v0.2.0 e x")

// nonsense are steps that are refused, or change nothing, whatever there is, but for a Put of what there is.
func nonsense() []step {
	l := []step{raw("a@v1.9.0", "mox"), raw("a@v1.9.0", "module"), raw("a@v1.9.0", "module b\n"), raw("b", ""), raw("b", strings.Repeat("module b\n", 1000)), raw("none", "module none/")}
	l = append(l, step{kind: '>', n: of("a", "v1"), t: "module a"}, step{kind: '+', n: of("", "v1.0.0")}, step{kind: '~', n: of("a/", "v1.0.0")}, step{kind: '-', n: api.Node{}})
	return append(l, steps("-none ~none -none@v1.1.0 ~none@v0.0.0")...)
}

// chance is a step by chance.
func chance(r *rand.Rand) step {
	n := pool[r.Intn(len(pool))]
	switch r.Intn(8) {
	case 0:
		return step{kind: '-', n: n}
	case 1, 2:
		return step{kind: '+', n: n}
	case 3:
		return step{kind: '~', n: n}
	case 4:
		l := nonsense()
		return l[r.Intn(len(l))]
	}
	var l []api.Node
	for range r.Intn(5) {
		l = append(l, pool[r.Intn(len(pool))])
	}
	return step{kind: '>', n: n, t: printed(n.Path, l...)}
}

// narrow are limits that are reached now and then.
func narrow(r *rand.Rand) api.Limits {
	return api.Limits{Text: 60 + r.Intn(60), Manifests: r.Intn(8), Nodes: r.Intn(11), Edges: r.Intn(20)}
}

func TestChance(t *testing.T) {
	r := rand.New(rand.NewSource(20))
	for i := range 150 {
		l := wide()
		if i%2 == 1 {
			l = narrow(r)
		}
		var all []step
		for range 40 {
			all = append(all, chance(r))
		}
		after(t, session.New(l, memos[i%len(memos)]), fresh(l), all...)
	}
}

// anew is a session of what there is, made in an order by chance, with a memo by chance, and steps between that are undone, or refused.
func anew(t *testing.T, r *rand.Rand, p plain) api.Session {
	t.Helper()
	var all []step
	for n, text := range p.texts {
		all = append(all, step{kind: '>', n: n, t: text})
	}
	for n := range p.root {
		all = append(all, step{kind: '+', n: n})
	}
	r.Shuffle(len(all), func(i, j int) { all[i], all[j] = all[j], all[i] })
	s, q := session.New(p.limits, memos[r.Intn(len(memos))]), fresh(p.limits)
	for _, x := range all {
		for _, y := range between(r, q) {
			s, _, _ = y.done(s)
		}
		var e api.Errno
		if s, _, e = x.done(s); e != api.OK {
			t.Fatalf("%v of %v: %d", x, all, e)
		}
		q, _, _ = x.meant(q)
	}
	return s
}

// between are steps behind which all is what it was: refused ones, and ones that are undone, whether they fit or not.
func between(r *rand.Rand, p plain) []step {
	l := nonsense()
	l = []step{l[r.Intn(len(l))]}
	n := pool[r.Intn(len(pool))]
	if !p.root[n] && r.Intn(2) == 0 {
		l = append(l, step{kind: '+', n: n}, step{kind: '~', n: n})
	}
	other := step{kind: '>', n: n, t: printed(n.Path, pool[r.Intn(len(pool))], one("fresh"), n)}
	if text, has := p.texts[n]; has {
		return append(l, other, step{kind: '>', n: n, t: text})
	}
	return append(l, other, step{kind: '-', n: n})
}

// partly is what there is behind steps by chance.
func partly(r *rand.Rand, l api.Limits) plain {
	p := fresh(l)
	for range 25 {
		p, _, _ = chance(r).meant(p)
	}
	return p
}

func TestNoHistory(t *testing.T) {
	r := rand.New(rand.NewSource(205))
	for i := range 60 {
		l := wide()
		if i%2 == 1 {
			l = narrow(r)
		}
		p := partly(r, l)
		var made []api.Session
		want := p.tells()
		for range 4 {
			s := anew(t, r, p)
			same(t, "made anew", s, want)
			made = append(made, s)
		}
		// They answer the same to whatever comes behind.
		for range 12 {
			x := chance(r)
			q, at, e := x.meant(p)
			want := q.tells()
			for j, s := range made {
				y, n, f := x.done(s)
				if n != at || f != e {
					t.Fatalf("%v: %d, %d, not %d, %d", x, n, f, at, e)
				}
				same(t, fmt.Sprintf("%v behind the %d. one", x, j), y, want)
				made[j] = y
			}
			p = q
		}
	}
}

func TestUndone(t *testing.T) {
	r := rand.New(rand.NewSource(2050))
	for range 60 {
		p := partly(r, wide())
		s := anew(t, r, p)
		want := p.tells()
		for range 20 {
			for _, x := range between(r, p) {
				s, _, _ = x.done(s)
			}
			same(t, "undone", s, want)
		}
	}
}

// What holds of all calls.

// each hands on all lists within a value, be they within others.
func each(v reflect.Value, next func(l reflect.Value)) {
	switch v.Kind() {
	case reflect.Struct:
		for i := range v.NumField() {
			each(v.Field(i), next)
		}
	case reflect.Slice:
		for i := range v.Len() {
			each(v.Index(i), next)
		}
		next(v)
	}
}

// roomy is a value in memory of its own, with room behind each list, where something stands that is its owner's.
func roomy[T any](x T) T {
	v := reflect.ValueOf(&x).Elem()
	return unshared(v, func(l reflect.Value) reflect.Value {
		out := reflect.MakeSlice(l.Type(), l.Len()+3, l.Len()+3)
		reflect.Copy(out, l)
		for i := l.Len(); i < out.Len(); i++ {
			garble(out.Index(i))
		}
		return out.Slice(0, l.Len())
	}).Interface().(T)
}

// unshared is a value of which each list is what is made of it, those within others first.
func unshared(v reflect.Value, made func(l reflect.Value) reflect.Value) reflect.Value {
	out := reflect.New(v.Type()).Elem()
	out.Set(v)
	switch v.Kind() {
	case reflect.Struct:
		for i := range v.NumField() {
			out.Field(i).Set(unshared(v.Field(i), made))
		}
	case reflect.Slice:
		// A nil list is one without elements, but stays nil, as they are told apart here.
		in := reflect.Zero(v.Type())
		if !v.IsNil() {
			in = reflect.MakeSlice(v.Type(), v.Len(), v.Len())
		}
		for i := range v.Len() {
			in.Index(i).Set(unshared(v.Index(i), made))
		}
		out.Set(made(in))
	}
	return out
}

// garble lets all numbers and texts of a value be others, and all lists none.
func garble(v reflect.Value) {
	switch v.Kind() {
	case reflect.Struct:
		for i := range v.NumField() {
			garble(v.Field(i))
		}
	case reflect.Slice:
		v.SetZero()
	case reflect.String:
		v.SetString("garbled")
	default:
		v.SetInt(-77)
	}
}

// whole is a value in memory of its own.
func whole[T any](x T) T {
	return unshared(reflect.ValueOf(x), func(l reflect.Value) reflect.Value { return l }).Interface().(T)
}

// rooms are all lists of a value, with the room behind them, in memory of their own.
func rooms(x any) []any {
	var out []any
	v := reflect.New(reflect.TypeOf(x)).Elem()
	v.Set(reflect.ValueOf(x))
	each(v, func(l reflect.Value) {
		in := reflect.MakeSlice(l.Type(), l.Cap(), l.Cap())
		reflect.Copy(in, l.Slice(0, l.Cap()))
		out = append(out, in.Interface())
	})
	return out
}

// spoil writes over all lists of a value, and over the room behind them.
func spoil(x any) {
	v := reflect.New(reflect.TypeOf(x)).Elem()
	v.Set(reflect.ValueOf(x))
	each(v, func(l reflect.Value) {
		l = l.Slice(0, l.Cap())
		for i := range l.Len() {
			garble(l.Index(i))
		}
	})
}

// answers asks all that may be asked of a session, and does all that may be done, some of it refused.
func answers(s api.Session) ([]api.Session, [][]api.Node) {
	var done []api.Session
	for _, x := range append(steps("a>b,c a>c a> -a -b +a +z ~a ~b fresh>fresh,b b>a +d@v1.10.0 ~z -x -y"), nonsense()...) {
		y, _, _ := x.done(s)
		done = append(done, y)
	}
	for n, text := range s.Store.Texts {
		y, _, _ := session.Put(s, s.Store.Keys[n], text)
		done = append(done, y)
	}
	lists := [][]api.Node{session.Build(s), session.Missing(s)}
	for _, p := range asked {
		session.Selected(s, p)
		c, _ := session.Why(s, p)
		lists = append(lists, c)
	}
	return done, lists
}

func TestUnchanged(t *testing.T) {
	for _, done := range []string{"", "+a", "a>b,c b>d@v1.9.0 c>d@v1.10.0 d@v1.9.0>e,e x>y,b y>x,a +a +z", "a>b b>a +b", "a>b +a +z -a ~z z>a,b"} {
		for _, l := range []api.Limits{wide(), {Text: 1000, Manifests: 7, Nodes: 11, Edges: 14}} {
			proper, p := session.New(l, 3), fresh(l)
			proper, p = after(t, proper, p, steps(done)...)
			s := roomy(proper)
			was := rooms(s)
			first, firstLists := answers(s)
			if !reflect.DeepEqual(rooms(s), was) {
				t.Fatalf("%s: what was handed in is changed", done)
			}
			kept, keptLists := whole(first), whole(firstLists)
			// What is done to an answer is seen neither in what was handed in nor in other answers.
			again, againLists := answers(s)
			for _, x := range again {
				spoil(x)
			}
			spoil(againLists)
			if !reflect.DeepEqual(rooms(s), was) || !reflect.DeepEqual(first, kept) || !reflect.DeepEqual(firstLists, keptLists) {
				t.Fatalf("%s: an answer shares with others", done)
			}
			same(t, done, s, p.tells())
			spoil(s)
			if !reflect.DeepEqual(first, kept) || !reflect.DeepEqual(firstLists, keptLists) {
				t.Fatalf("%s: an answer shares with what was handed in", done)
			}
			// No two answers share, either: each is spoilt while those behind it are as they were.
			for i, x := range first {
				if !reflect.DeepEqual(x, kept[i]) {
					t.Fatalf("%s: the %d. answer shares with one ahead", done, i)
				}
				spoil(x)
			}
		}
	}
}

func TestManyFromOne(t *testing.T) {
	// From one session go many, each its own way, and none sees what is done to the others.
	r := rand.New(rand.NewSource(3))
	for range 20 {
		p := partly(r, wide())
		made := []api.Session{anew(t, r, p)}
		plains := []plain{p}
		for range 40 {
			i := r.Intn(len(made))
			x := chance(r)
			y, _, _ := x.done(made[i])
			q, _, _ := x.meant(plains[i])
			made, plains = append(made, y), append(plains, q)
		}
		for i, s := range made {
			same(t, fmt.Sprintf("the %d. of many", i), s, plains[i].tells())
		}
	}
}

func TestAtOnce(t *testing.T) {
	s, p := laid(t, wide(), "a>b,c b>d@v1.9.0 c>d@v1.10.0 d@v1.9.0>e,e x>y,b y>x,a +a +z")
	want := p.tells()
	var g sync.WaitGroup
	for i := range 8 {
		g.Go(func() {
			r := rand.New(rand.NewSource(int64(i)))
			y, q := s, p
			for range 20 {
				x := chance(r)
				y, _, _ = x.done(y)
				q, _, _ = x.meant(q)
			}
			if !reflect.DeepEqual(told(y), q.tells()) || !reflect.DeepEqual(told(s), want) {
				t.Error("at once: it is another one")
			}
		})
	}
	g.Wait()
}

func TestNothingIsKeptThatWent(t *testing.T) {
	l := caps(2, 4, 4)
	s, p := laid(t, l, "a>b +a")
	want := p.tells()
	for i := range 1000 {
		n, m := of(fmt.Sprintf("n%d", i), "v1.0.0"), of("n", fmt.Sprintf("v1.%d.0", i))
		s, _ = session.Need(s, n)
		s, _, _ = session.Put(s, n, printed(n.Path, m))
		s, _ = session.Free(s, n)
		s, _, _ = session.Put(s, n, printed(n.Path))
		var e api.Errno
		if s, e = session.Drop(s, n); e != api.OK {
			t.Fatalf("the %d. time: %d", i, e)
		}
	}
	same(t, "much came and went", s, want)
	if len(s.Names.L) > len(s.Use.Said) || len(s.Graph.Edges) != 2 || len(s.Memo.L) > s.Memo.Cap {
		t.Errorf("too much is kept: %v, %v, %v", s.Names, s.Graph, s.Memo)
	}
}

func TestManyInALine(t *testing.T) {
	const many = 200
	at := func(i int) api.Node { return of(fmt.Sprintf("m%03d", i), "v1.0.0") }
	var line []api.Node
	s := session.New(wide(), 5)
	for i := range many {
		line = append(line, at(i))
		// from the end on, each to the one ahead of it, too
		x := at(many - 1 - i)
		next := []api.Node{at((many - i) % many)}
		if i < many-1 {
			next = append(next, at(many-2-i))
		}
		s, _, _ = session.Put(s, x, printed(x.Path, next...))
	}
	listed(t, "not reached", s, "", "")
	s, _ = session.Need(s, at(0))
	if !slices.Equal(session.Build(s), line) || len(session.Missing(s)) != 0 {
		t.Fatalf("a line: %v, %v", session.Build(s), session.Missing(s))
	}
	if c, e := session.Why(s, at(many-1).Path); !slices.Equal(c, line) || e != api.OK {
		t.Errorf("Why of the last one: %v, %d", c, e)
	}
	x, _ := session.Drop(s, at(many/2))
	if !slices.Equal(session.Build(x), line[:many/2+1]) || !slices.Equal(session.Missing(x), line[many/2:many/2+1]) {
		t.Errorf("half a line: %v, %v", session.Build(x), session.Missing(x))
	}
	x, _ = session.Free(s, at(0))
	listed(t, "a circle that nothing leads to", x, "", "")
}

func TestManySideBySide(t *testing.T) {
	const many = 150
	var all, wanted []api.Node
	for i := range many {
		p := fmt.Sprintf("m%03d", i)
		all = append(all, of(p, "v1.9.0"), of(p, "v1.10.0"), of(p, "v1.10.0"))
		wanted = append(wanted, of(p, "v1.10.0"))
	}
	s, _ := session.Need(session.New(wide(), 1), of("a", "v1.0.0"))
	s, _, e := session.Put(s, of("a", "v1.0.0"), printed("a", all...))
	if e != api.OK || !slices.Equal(session.Build(s), append(nodes("a"), wanted...)) || len(session.Missing(s)) != 2*many {
		t.Fatalf("side by side: %d, %v", e, session.Build(s))
	}
	// Another manifest, of all of them by one of the versions, once, in another order.
	slices.Reverse(wanted)
	x, _, e := session.Put(s, of("a", "v1.0.0"), printed("a", wanted...))
	if e != api.OK || !slices.Equal(session.Build(x), session.Build(s)) || len(session.Missing(x)) != many || x.Use.Edges != many+1 {
		t.Errorf("once each: %d, %v", e, session.Build(x))
	}
	x, _, e = session.Put(x, of("a", "v1.0.0"), "module a")
	listed(t, "none of them", x, "a", "")
	if e != api.OK {
		t.Errorf("none of them: %d", e)
	}
}

func TestMemos(t *testing.T) {
	// Whatever is remembered, it is what layer 8 tells: all of the texts here are asked again and again.
	for _, many := range memos {
		s, p := session.New(wide(), many), fresh(wide())
		for range 2 {
			for _, x := range texts {
				s, p = after(t, s, p, raw("a", x.text), raw("b", x.text))
			}
			s, p = after(t, s, p, steps("a>b b>a +a a>c a>b a>c b>c a>b -a a>b ~a")...)
		}
		if s.Memo.Cap != many || len(s.Memo.L) > max(many, 0) {
			t.Errorf("with %d: %v", many, s.Memo)
		}
	}
}

func TestExamples(t *testing.T) {
	s, e := session.Need(session.New(wide(), 0), one("a"))
	listed(t, "a, alone", s, "a", "a")
	s, at, f := session.Put(s, one("a"), "module a\nrequire b v1.0.0")
	listed(t, "with its manifest", s, "a b", "b")
	if e != api.OK || f != api.OK || at != 0 {
		t.Errorf("a: %d, %d, %d", e, at, f)
	}
	l := wide()
	l.Text = 8
	if _, at, e := session.Put(session.New(l, 0), one("a"), "module a\n"); at != 0 || e != api.ErrLarge {
		t.Errorf("longer than may be: %d, %d", at, e)
	}
	// those of the whole, from the third on
	s, _ = session.Need(session.New(wide(), 3), one("a"))
	s, _, _ = session.Put(s, one("a"), printed("a", nodes("b c")...))
	s, _, _ = session.Put(s, one("b"), printed("b", one("d@v1.9.0")))
	s, _, _ = session.Put(s, one("c"), printed("c", one("d@v1.10.0")))
	picked(t, "both require a third one", s, "d", "v1.10.0", "a c d@v1.10.0", api.OK)
	s, _, _ = session.Put(s, one("c"), printed("c"))
	picked(t, "another manifest", s, "d", "v1.9.0", "a b d@v1.9.0", api.OK)
}

func TestChanceTellsSomething(t *testing.T) {
	// If nothing were reached, or missing, by chance, the tests by chance would be of no use.
	r := rand.New(rand.NewSource(7))
	counts := map[string]int{}
	for range 300 {
		p := partly(r, wide())
		counts["reached"] += len(p.reached())
		counts["missing"] += len(p.missing())
		counts["not reached"] += len(p.texts) - len(slices.DeleteFunc(slices.Collect(maps.Keys(p.texts)), func(n api.Node) bool { return !p.reached()[n] }))
		counts["lower"] += len(p.reached()) - len(p.build())
	}
	for _, what := range []string{"reached", "missing", "not reached", "lower"} {
		if counts[what] < 100 {
			t.Errorf("%s: %d in all", what, counts[what])
		}
	}
}
