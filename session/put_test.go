package session_test

import (
	"fmt"
	"math"
	"reflect"
	"strings"
	"testing"

	"graftwood/api"
	"graftwood/session"
)

// P20.2

// refused does what is refused with this error, and number, and holds that all that is told is the same behind it, and goes on the same.
func refused(t *testing.T, s api.Session, p plain, x step, at int, no api.Errno) {
	t.Helper()
	y, n, e := x.done(s)
	if n != at || e != no {
		t.Errorf("%.300q: %d, %d, not %d, %d", x, n, e, at, no)
	}
	// Nothing has changed, what is remembered neither.
	if !reflect.DeepEqual(y, s) {
		t.Errorf("%.300q, refused: %v is not %v", x, y, s)
	}
	want := p.tells()
	same(t, fmt.Sprintf("refused %.300q", x), y, want)
	same(t, fmt.Sprintf("handed in to %.300q", x), s, want)
	if _, n, e := x.done(y); n != at || e != no {
		t.Errorf("%.300q again: %d, %d, not %d, %d", x, n, e, at, no)
	}
}

// raw is a step that puts a text.
func raw(n, t string) step { return step{kind: '>', n: one(n), t: t} }

// some is a session with something of everything.
func some(t *testing.T, l api.Limits) (api.Session, plain) {
	t.Helper()
	return someWith(t, l, 2)
}

// someWith is the same with a memo of so many.
func someWith(t *testing.T, l api.Limits, many int) (api.Session, plain) {
	t.Helper()
	return laidWith(t, l, many, "a>b,c b>d@v1.9.0 c>d@v1.10.0 d@v1.9.0>e,e x>y,b y>x,a +a +z")
}

func TestPutOfWrongNodes(t *testing.T) {
	for _, l := range []api.Limits{wide(), {Text: 1 << 20, Manifests: 6, Nodes: 10, Edges: 13}} {
		s, p := some(t, l)
		for _, n := range wrong() {
			for _, text := range []string{"", "module a", "module a\n", "mox", "module b", printed("a", nodes("b c d e")...), strings.Repeat(" ", 1<<21)} {
				refused(t, s, p, step{kind: '>', n: n, t: text}, 0, api.ErrArg)
			}
			refused(t, s, p, step{kind: '-', n: n}, 0, api.ErrArg)
		}
	}
}

func TestPutOfLongTexts(t *testing.T) {
	text := "module a\nrequire b v1.0.0 // and a word of it"
	for _, long := range []int{len(text), len(text) + 1, len(text) + 1000, math.MaxInt} {
		l := wide()
		l.Text = long
		s, p := after(t, session.New(l, 1), fresh(l), steps("+a")...)
		s, p = after(t, s, p, raw("a", text))
		listed(t, "as long as may be", s, "a b", "b")
		if long < 1<<20 {
			more := text + strings.Repeat("!", long-len(text))
			s, p = after(t, s, p, raw("a", more))
			refused(t, s, p, raw("a", more+"!"), 0, api.ErrLarge)
			refused(t, s, p, raw("b", "module b //"+more), 0, api.ErrLarge)
		}
	}
	for _, x := range []struct{ limit, text string }{{"1234567", "module a"}, {"12345678", "module a\n"}, {"123456789", "module a\n\n"}} {
		l := wide()
		l.Text = len(x.limit)
		s, p := laid(t, l, "+a")
		refused(t, s, p, raw("a", x.text), 0, api.ErrLarge)
		l.Text++
		s, p = laid(t, l, "+a")
		after(t, s, p, raw("a", x.text))
	}
	// octets count, not runes
	l := wide()
	l.Text = len("module a//é")
	s, p := laid(t, l, "+a")
	after(t, s, p, raw("a", "module a//é"))
	l.Text--
	s, p = laid(t, l, "+a")
	refused(t, s, p, raw("a", "module a//é"), 0, api.ErrLarge)
}

func TestPutWithNoTextAtAll(t *testing.T) {
	// A limit of 0 leaves the text of nothing, which is none yet; one below 0 leaves none.
	for _, x := range []struct {
		limit int
		text  string
		e     api.Errno
	}{
		{0, "", api.ErrTruncated}, {0, "m", api.ErrLarge}, {0, "module a", api.ErrLarge}, {1, "m", api.ErrTruncated}, {1, "x", api.ErrSyntax},
		{-1, "", api.ErrLarge}, {-1, "module a", api.ErrLarge}, {math.MinInt, "", api.ErrLarge}, {math.MinInt, "mox", api.ErrLarge},
	} {
		l := wide()
		l.Text = x.limit
		at := 0
		if x.e == api.ErrTruncated || x.e == api.ErrSyntax {
			at = len(x.text)
		}
		s, p := laid(t, l, "+a")
		refused(t, s, p, raw("a", x.text), at, x.e)
	}
}

// texts are ones that are no manifest, with layer 8's number, and error.
var texts = []struct {
	text string
	at   int
	e    api.Errno
}{
	{"mox", 3, api.ErrSyntax}, {"x", 1, api.ErrSyntax}, {"module a b", 10, api.ErrSyntax}, {"module a\nmodule a", 10, api.ErrSyntax}, {"module a\nrequire b 1", 20, api.ErrSyntax},
	{"module a\nrequire b v1.0.0 c", 27, api.ErrSyntax}, {"module a\nrequire (\n)\n)", 22, api.ErrSyntax}, {"module a\x00", 9, api.ErrSyntax}, {"go 1.2", 1, api.ErrSyntax}, {"module a\nrequire b v1.0.0-01\n", 29, api.ErrSyntax},
	{"", 0, api.ErrTruncated}, {"mod", 3, api.ErrTruncated}, {"module", 6, api.ErrTruncated}, {"module ", 7, api.ErrTruncated}, {"module a/", 9, api.ErrTruncated}, {"module \"a", 9, api.ErrTruncated},
	{"module a\nrequire", 16, api.ErrTruncated}, {"module a\nrequire b", 18, api.ErrTruncated}, {"module a\nrequire b v1.0", 23, api.ErrTruncated}, {"module a\nrequire (", 18, api.ErrTruncated},
	{"module a\nrequire (\nb v1.0.0\n", 28, api.ErrTruncated}, {"// nothing\n\n", 12, api.ErrTruncated}, {"module a\ngo 1", 13, api.ErrTruncated}, {"module b/", 9, api.ErrTruncated}, {"module b\nx", 10, api.ErrSyntax},
}

func TestPutOfNoManifest(t *testing.T) {
	// Whatever else would be refused: the limits are reached, a has a manifest, or not.
	for _, l := range []api.Limits{wide(), {Text: 300, Manifests: 6, Nodes: 10, Edges: 13}} {
		for _, many := range memos {
			s, p := someWith(t, l, many)
			for _, x := range texts {
				refused(t, s, p, raw("a", x.text), x.at, x.e)
				refused(t, s, p, raw("a@v1.1.0", x.text), x.at, x.e)
				refused(t, s, p, raw("none", x.text), x.at, x.e)
			}
		}
	}
}

func TestPutOfOtherModules(t *testing.T) {
	for _, l := range []api.Limits{wide(), {Text: 300, Manifests: 6, Nodes: 10, Edges: 13}} {
		s, p := some(t, l)
		for _, x := range []struct{ n, text string }{
			{"a", "module b"}, {"a", "module A"}, {"a", "module a/b"}, {"a/b", "module a"}, {"a", "module aa"}, {"a", "module \"b\"\n"}, {"aa", "module a"},
			{"a", "module b // a\n"}, {"b", "module a\nrequire b v1.0.0"}, {"a", "module v1.0.0"}, {"a", "module require\nrequire a v1.0.0"},
			// a text that b has
			{"a", printed("b", one("d@v1.9.0"))}, {"a@v2.0.0", printed("b", nodes("e e e e e e e e e e e e e e e f g h")...)},
		} {
			refused(t, s, p, raw(x.n, x.text), 0, api.ErrOther)
		}
	}
	// Quotes, and comments, are no part of a path.
	s, p := some(t, wide())
	for _, text := range []string{"module \"a\"", " \t module   a // b", "// b\n\nmodule a\nrequire b v1.0.0\nrequire (\n)\n"} {
		s, p = after(t, s, p, raw("a", text), raw("a@v1.1.0", text))
	}
}

func TestPutAgain(t *testing.T) {
	for _, done := range []string{"a>b,c", "a>b,b +a", "a> +a b>a", "a>a +b b>a", "a>b b>a c>a,a +c"} {
		// The limits are just reached.
		s, p := laid(t, just(t, done), done)
		for n, text := range p.texts {
			y, at, e := session.Put(s, n, text)
			if at != 0 || e != api.OK {
				t.Errorf("%s: Put of %v again: %d, %d", done, n, at, e)
			}
			same(t, done, y, p.tells())
			// Again, from what came, and by way of another one.
			after(t, y, p, step{kind: '>', n: n, t: text}, step{kind: '-', n: n}, step{kind: '>', n: n, t: text}, step{kind: '>', n: n, t: text})
		}
	}
}

func TestPutOfAnotherText(t *testing.T) {
	for _, l := range [][]string{
		{"a>b", "a>c", "a>b", "a>", "a>b,c", "a>c", "a>c,d", "a>b,d", "a>b,b", "a>b", "a>b,b,b", "a>d,d", "a>a", "a>a,b", "a>"},
		{"a>b,c,d,e", "a>e,d,c,b", "a>c,d", "a>d,c,x,y", "a>a@v1.1.0", "a>a@v0.9.0", "a>a@v1.0.0"},
		{"a>x", "x>b", "a>b", "b>x", "a>x", "x>", "a>b", "b>c", "a>c", "c>a", "a>b"},
	} {
		for _, begun := range []string{"", "+a", "+b", "b>a,z c>z +b", "+a b>a b@v1.1.0>a,b", "x>a y>b,c z>y +x +y"} {
			s, p := laid(t, wide(), begun)
			for _, x := range l {
				s, p = after(t, s, p, steps(x)...)
			}
		}
	}
	// a text of the same value is another one
	s, p := laid(t, wide(), "+a a>b,c b>")
	for _, text := range []string{"module a\nrequire b v1.0.0\nrequire c v1.0.0", "module a\nrequire c v1.0.0\nrequire b v1.0.0\n", "module \"a\"\nrequire (\nb v1.0.0\n)\nrequire c v1.0.0 //", "module a\ngo 1.2\nrequire (\nb v1.0.0\nc v1.0.0\n)"} {
		s, p = after(t, s, p, raw("a", text))
		if got := s.Store.Texts[0]; got != text {
			t.Errorf("the manifest is %q, not %q", got, text)
		}
		listed(t, text, s, "a b c", "c")
	}
}

func TestDrop(t *testing.T) {
	for _, begun := range []string{"", "+a", "a>b", "b>a +b", "a>b,c b>c c>a +a", "a>a,a a@v1.1.0>a +a@v1.1.0"} {
		s, p := laid(t, wide(), begun)
		for _, n := range []string{"a", "b", "c", "a@v1.1.0", "a@v1.2.0", "none"} {
			// Twice, whether there was one or not, and back again.
			after(t, s, p, steps("-"+n+" -"+n+" "+n+">b,c -"+n+" -"+n+" "+n+"> "+n+">c -"+n+" -a -b")...)
		}
	}
	s, p := some(t, wide())
	for _, n := range []string{"d@v1.10.0", "d", "e", "z", "none", "a@v1.0.1", "a@v1.0.0-a", "a/b"} {
		refused(t, s, p, step{kind: '-', n: one(n)}, 0, api.ErrNone)
	}
	y, e := session.Drop(s, one("a"))
	if _, f := session.Drop(y, one("a")); e != api.OK || f != api.ErrNone {
		t.Errorf("Drop of a, twice: %d, %d", e, f)
	}
	listed(t, "without a's", y, "a z", "a z")
}

func TestAnswersOfPut(t *testing.T) {
	s, _ := some(t, wide())
	for _, x := range []struct{ done, build, missing string }{
		{"c>d@v1.10.0", "a b c d@v1.10.0 e z", "d@v1.10.0 e z"}, {"c>", "a b c d@v1.9.0 e z", "e z"}, {"a>c", "a c d@v1.10.0 z", "d@v1.10.0 z"},
		{"a>b", "a b d@v1.9.0 e z", "e z"}, {"a>x", "a b d@v1.9.0 e x y z", "e z"}, {"d@v1.9.0>", "a b c d@v1.10.0 z", "d@v1.10.0 z"},
		{"d@v1.10.0>a@v1.1.0", "a@v1.1.0 b c d@v1.10.0 e z", "a@v1.1.0 e z"}, {"z>x", "a b c d@v1.10.0 e x y z", "d@v1.10.0 e"}, {"y>e", "a b c d@v1.10.0 e z", "d@v1.10.0 e z"},
	} {
		y, _, e := steps(x.done)[0].done(s)
		if e != api.OK {
			t.Errorf("%s: %d", x.done, e)
		}
		listed(t, x.done, y, x.build, x.missing)
	}
	listed(t, "the one handed in", s, "a b c d@v1.10.0 e z", "d@v1.10.0 e z")
}
