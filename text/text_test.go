package text_test

import (
	"math/rand"
	"reflect"
	"slices"
	"strings"
	"sync"
	"testing"

	"graftwood/api"
	"graftwood/grammar"
	"graftwood/text"
)

// many is how many octets, or lines, there are where there are very many of them here.
const many = 20000

// node is one of a path and a version with an @ between.
func node(s string) api.Node {
	p, v, _ := strings.Cut(s, "@")
	return api.Node{Path: p, Version: v}
}

// of is a value.
func of(module, goes string, reqs ...string) api.Manifest {
	m := api.Manifest{Module: module, Go: goes}
	for _, r := range reqs {
		m.Reqs = append(m.Reqs, node(r))
	}
	return m
}

// texts are manifests, and their values.
var texts = []struct {
	s string
	m api.Manifest
}{
	// a module alone
	{"module a", of("a", "")}, {"module a\n", of("a", "")}, {"module a\n\n", of("a", "")}, {"module golang.org/x/mod", of("golang.org/x/mod", "")},
	{"module \"a\"", of("a", "")}, {"module\t\"a.b/c\"\t\n", of("a.b/c", "")}, {" \tmodule \t a \t", of("a", "")}, {"module -~_/a..b", of("-~_/a..b", "")},
	{"\n\n \n\t\nmodule a", of("a", "")}, {"// c\nmodule a", of("a", "")}, {"//\n\t // c\nmodule a // b", of("a", "")}, {"module a //", of("a", "")},
	{"module \"a\" // \"b\"", of("a", "")}, {"module \"a\"\t//\"b\"", of("a", "")}, {"module v1.0.0", of("v1.0.0", "")}, {"module 1.21", of("1.21", "")},
	// with a go
	{"module a\ngo 1.21", of("a", "1.21")}, {"module a\ngo 1.21.0\n", of("a", "1.21.0")}, {"module a\n\n \tgo \t0.0\t// 1.21\n", of("a", "0.0")},
	{"module a\ngo 10.200.3000 //", of("a", "10.200.3000")}, {"module \"go\"\ngo 1.2", of("go", "1.2")},
	{"module a\nrequire b v1.0.0\ngo 1.21", of("a", "1.21", "b@v1.0.0")}, {"module a\nrequire (\n)\ngo 1.21\nrequire b v1.0.0", of("a", "1.21", "b@v1.0.0")},
	// requirements line by line
	{"module a\nrequire b v1.0.0", of("a", "", "b@v1.0.0")}, {"module a\nrequire \"b\" v1.0.0", of("a", "", "b@v1.0.0")},
	{"module a\n \trequire \t b \t v1.0.0 \t\n", of("a", "", "b@v1.0.0")}, {"module a\nrequire\t\"b/c\"\tv1.0.0-rc.1\t// d", of("a", "", "b/c@v1.0.0-rc.1")},
	{"module a\nrequire c v1.0.0\nrequire b v1.0.0\n", of("a", "", "c@v1.0.0", "b@v1.0.0")},
	{"module a\nrequire b v1.10.0\n\n// d\nrequire b v1.9.0", of("a", "", "b@v1.10.0", "b@v1.9.0")},
	{"module a\nrequire b v0.0.0-20261118123456-0123456789ab", of("a", "", "b@v0.0.0-20261118123456-0123456789ab")},
	{"module a\nrequire a v1.0.0", of("a", "", "a@v1.0.0")},
	// in blocks, of none, one and more lines
	{"module a\nrequire (\n)", of("a", "")}, {"module a\nrequire (\n\n// b v1.0.0\n \t\n)\n", of("a", "")},
	{"module a\nrequire (\nb v1.0.0\n)", of("a", "", "b@v1.0.0")},
	{"module a\nrequire (\n\t\"b\" v1.0.0\n)", of("a", "", "b@v1.0.0")}, {"module a\n\trequire\t(\t\n\tb\tv1.0.0\t\n\t)\t\n", of("a", "", "b@v1.0.0")},
	{"module a\nrequire (\n\tc v1.0.0\n\tb v1.0.0\n\td v0.0.1\n)\n", of("a", "", "c@v1.0.0", "b@v1.0.0", "d@v0.0.1")},
	{"module a\nrequire ( // (\n\n \"b\"\tv1.0.0 // c v1.0.0\n // )\n\td  v1.0.0\n ) // )\n", of("a", "", "b@v1.0.0", "d@v1.0.0")},
	{"module a\nrequire (\n)\nrequire (\n)\nrequire (\nb v1.0.0\n)\nrequire (\nc v1.0.0\n)", of("a", "", "b@v1.0.0", "c@v1.0.0")},
	// both in one text
	{"module a\nrequire b v1.0.0\nrequire (\nc v1.0.0\nd v1.0.0\n)\ngo 1.21\nrequire a v1.0.0",
		of("a", "1.21", "b@v1.0.0", "c@v1.0.0", "d@v1.0.0", "a@v1.0.0")},
	{"// c\nmodule \"a/b\" // d\n\ngo 1.21\nrequire c v1.0.0\nrequire (\n\td v1.0.0 // e\n\t\"go\" v0.0.1-x\n)\nrequire c v1.0.0",
		of("a/b", "1.21", "c@v1.0.0", "d@v1.0.0", "go@v0.0.1-x", "c@v1.0.0")},
	// a path that is spelled as a keyword
	{"module module", of("module", "")}, {"module go\ngo 1.21", of("go", "1.21")}, {"module require\nrequire go v1.0.0", of("require", "", "go@v1.0.0")},
	{"module \"module\"\nrequire \"module\" v1.0.0\nrequire require v1.0.0", of("module", "", "module@v1.0.0", "require@v1.0.0")},
	{"module a\nrequire (\nmodule v1.0.0\ngo v1.0.0\nrequire v1.0.0\n\"module\" v2.0.0\n\"go\" v2.0.0\n\"require\" v2.0.0\n)\ngo 1.2",
		of("a", "1.2", "module@v1.0.0", "go@v1.0.0", "require@v1.0.0", "module@v2.0.0", "go@v2.0.0", "require@v2.0.0")},
	{"module a\nrequire v1.0.0 v1.0.0\nrequire (\nv1.0.0 v2.0.0\n)", of("a", "", "v1.0.0@v1.0.0", "v1.0.0@v2.0.0")},
	// a requirement twice
	{"module a\nrequire b v1.0.0\nrequire b v1.0.0", of("a", "", "b@v1.0.0", "b@v1.0.0")},
	{"module a\nrequire (\nc v1.0.0\nb v1.0.0\nc v1.0.0\n)\nrequire b v1.0.0", of("a", "", "c@v1.0.0", "b@v1.0.0", "c@v1.0.0", "b@v1.0.0")},
	// a comment that holds what looks like something
	{"// module b\nmodule a\n// module c\n// go 1.21\n// require b v1.0.0\n// require (\n// b v1.0.0\n// )", of("a", "")},
	{"module a // go 1.21\ngo 1.22 // require b v1.0.0\nrequire c v1.0.0 // d v1.0.0\nrequire (\n//b v1.0.0\nb v2.0.0 // )\n) // e v1.0.0",
		of("a", "1.22", "c@v1.0.0", "b@v2.0.0")},
	{"//module b\nmodule a\n\t//require b v1.0.0", of("a", "")}, {"module a //\"b\n//\"\nrequire b v1.0.0 // \"", of("a", "", "b@v1.0.0")},
	// any octets in a comment
	{"// \xff\x80\x00\r\xc3\nmodule a // \xc3\xa9 \xe2\x80\xa8\ngo 1.21 //\xfe\x20\x09\x85\nrequire b v1.0.0 // \xe2\x80", of("a", "1.21", "b@v1.0.0")},
	{"module a\nrequire ( //\xff\nb v1.0.0 // \xa0c v1.0.0\xff\n// \xc2\xa0\n) // \x80", of("a", "", "b@v1.0.0")},
}

// parses holds Parse of a manifest against its value.
func parses(t *testing.T, s string, want api.Manifest) {
	t.Helper()
	m, n, e := text.Parse(s)
	if m.Module != want.Module || m.Go != want.Go || !slices.Equal(m.Reqs, want.Reqs) || n != 0 || e != api.OK {
		t.Errorf("Parse(%q): %q, %d, %d, not %q", s, m, n, e, want)
	}
}

// refuses holds Parse of what is no manifest against layer 7.
func refuses(t *testing.T, s string) {
	t.Helper()
	wantN, wantE := grammar.Judge(s)
	m, n, e := text.Parse(s)
	if m.Module != "" || m.Go != "" || len(m.Reqs) != 0 || n != wantN || e != wantE || e == api.OK {
		t.Errorf("Parse(%q): %q, %d, %d, not %d, %d", s, m, n, e, wantN, wantE)
	}
}

// either holds Parse of a text against its value, or layer 7.
func either(t *testing.T, s string) {
	t.Helper()
	if _, e := grammar.Judge(s); e != api.OK {
		refuses(t, s)
	} else {
		parses(t, s, value(s))
	}
}

// values gives values that may be, by chance, and a way to lay them out.
func values(seed int64, n int, f func(m api.Manifest, l *layout)) {
	l := &layout{r: rand.New(rand.NewSource(seed))}
	paths := []string{"a", "b", "a/b", "golang.org/x/mod", "module", "go", "require", "v1.0.0", "1.21", "-", "~", "_.a", "a...b", "a..b/-", "A/B/C"}
	versions := []string{"v0.0.0", "v1.0.0", "v1.9.0", "v1.10.0", "v1.0.0-0", "v1.0.0-rc.1", "v1.0.0--", "v1.0.0-01a.v.2", "v10.20.30"}
	for range n {
		m := api.Manifest{Module: l.one(paths...), Go: l.one("", "", "1.21", "0.0", "1.2.3", "10.0.100")}
		for range l.r.Intn(6) {
			m.Reqs = append(m.Reqs, api.Node{Path: l.one(paths...), Version: l.one(versions...)})
		}
		f(m, l)
	}
}

// P8.1

func TestExamples(t *testing.T) {
	parses(t, "module \"a\"", of("a", ""))
	if s, e := text.Print(of("a", "")); s != "module a\n" || e != api.OK {
		t.Errorf("Print of a: %q, %d", s, e)
	}
	if m, n, e := text.Parse("mod"); !reflect.DeepEqual(m, api.Manifest{}) || n != 3 || e != api.ErrTruncated {
		t.Errorf("Parse of mod: %q, %d, %d", m, n, e)
	}
}

func TestParse(t *testing.T) {
	for _, c := range texts {
		parses(t, c.s, c.m)
		// An octet 10 behind, or a comment behind that, says nothing; spaces and lines of nothing ahead don't.
		for _, behind := range []string{"\n", "\n\n", "\n// require b v1.0.0", "\n \t//\n"} {
			parses(t, c.s+behind, c.m)
		}
		parses(t, " \t\n//x\n\t"+c.s, c.m)
	}
}

func TestTables(t *testing.T) {
	for _, c := range texts {
		if m := value(c.s); !slices.Equal(m.Reqs, c.m.Reqs) || m.Module != c.m.Module || m.Go != c.m.Go {
			t.Errorf("%q: %q, not %q", c.s, m, c.m)
		}
	}
}

// errors are texts that are no manifests, with layer 7's error and its number.
var errors = []struct {
	s string
	n int
	e api.Errno
}{
	{"", 0, api.ErrTruncated}, {"\n", 1, api.ErrTruncated}, {"mod", 3, api.ErrTruncated}, {"module", 6, api.ErrTruncated}, {"module ", 7, api.ErrTruncated},
	{"module \"a", 9, api.ErrTruncated}, {"// c", 4, api.ErrTruncated}, {"module a\ngo 1", 13, api.ErrTruncated}, {"module a.", 9, api.ErrTruncated},
	{"module a\nrequire b", 18, api.ErrTruncated}, {"module a\nrequire b v1.0.0\nrequire (", 35, api.ErrTruncated},
	{"module a\nrequire (\nb v1.0.0\n", 28, api.ErrTruncated}, {"module a\nrequire b v1.0.0-01", 28, api.ErrTruncated}, {"module a /", 10, api.ErrTruncated},
	{"module a\nrequire (\nb v1.0.0\n// )", 32, api.ErrTruncated},
	{"mox", 3, api.ErrSyntax}, {"module \n", 8, api.ErrSyntax}, {"x", 1, api.ErrSyntax}, {"module a b", 10, api.ErrSyntax}, {"module a\nmodule a", 10, api.ErrSyntax},
	{"module \"\"", 9, api.ErrSyntax}, {"module a// c", 10, api.ErrSyntax}, {"go 1.21\nmodule a", 1, api.ErrSyntax}, {"module a\ngo 1.21\ngo 1.21", 18, api.ErrSyntax},
	{"module a\ngo 1\n", 14, api.ErrSyntax}, {"module a\ngo 1.2.3.4", 18, api.ErrSyntax}, {"module a\nrequire b\n", 19, api.ErrSyntax},
	{"module a\nrequire b v1.0.0-01\n", 29, api.ErrSyntax}, {"module a\n)", 10, api.ErrSyntax}, {"module a\nrequire (\nrequire (", 28, api.ErrSyntax},
	{"module a\nrequire (\ngo 1.21\n)", 23, api.ErrSyntax}, {"module a\nb v1.0.0", 10, api.ErrSyntax}, {"module a\r\n", 9, api.ErrSyntax}, {"\xff", 1, api.ErrSyntax},
	{"module \xc3\xa9", 8, api.ErrSyntax}, {"module a\u00a0", 9, api.ErrSyntax}, {"module a\nrequire b v1.0.0 v1.0.0", 27, api.ErrSyntax},
	{"module a\nrequire b \"v1.0.0\"", 20, api.ErrSyntax}, {"module a\nreplace b v1.0.0", 12, api.ErrSyntax}, {"module (\na\n)", 8, api.ErrSyntax},
	{"module a\nrequire b v1.0.0\nrequire (\nc v1.0.0\n)\nx", 48, api.ErrSyntax}, {"module a@v1.0.0", 9, api.ErrSyntax},
}

func TestErrors(t *testing.T) {
	for _, c := range errors {
		if m, n, e := text.Parse(c.s); !reflect.DeepEqual(m, api.Manifest{}) || n != c.n || e != c.e {
			t.Errorf("Parse(%q): %q, %d, %d, not %d, %d", c.s, m, n, e, c.n, c.e)
		}
		refuses(t, c.s)
		// What is behind an octet that no manifest has there plays no part.
		if c.e == api.ErrSyntax {
			refuses(t, c.s+"\nmodule a\n")
		}
	}
}

func TestBeginnings(t *testing.T) {
	for _, c := range texts {
		for i := range len(c.s) {
			either(t, c.s[:i])
			either(t, c.s[:i]+"x"+c.s[i:])
			either(t, c.s[:i]+"\n"+c.s[i:])
			either(t, c.s[:i]+" //"+c.s[i:])
			either(t, c.s[:i]+c.s[i+1:])
		}
	}
}

func TestParseChance(t *testing.T) {
	values(81, 20000, func(m api.Manifest, l *layout) {
		s := l.of(m)
		parses(t, s, m)
		parses(t, s, value(s))
	})
}

func TestLong(t *testing.T) {
	var reqs []string
	for i := range many {
		reqs = append(reqs, strings.Repeat("b", i%7+1)+"@v1.0.0")
	}
	long := strings.Repeat("a/", many) + "a"
	for _, m := range []api.Manifest{
		of(long, ""), of("a", "1"+strings.Repeat("0", many)+".1"), of("a", "", long+"@v1.0.0-"+strings.Repeat("0.", many)+"0"), of("a", "1.21", reqs...),
	} {
		l := &layout{r: rand.New(rand.NewSource(82))}
		parses(t, l.of(m), m)
		prints(t, m)
	}
	parses(t, strings.Repeat("\n", many)+"module a // "+strings.Repeat("/", many)+strings.Repeat("\nrequire (\n)", many), of("a", ""))
	refuses(t, strings.Repeat("\n", many))
	refuses(t, "module a\nrequire (\n"+strings.Repeat("b v1.0.0\n", many))
}

// mayBe are values that may be, besides those of texts.
var mayBe = []api.Manifest{
	of("a", "0.0"), of("a", "0.0.0"), of("a", "1.21.99999999999999999999"), of("a..a", ""), of("a", "", "b@v0.0.0-0"), of("module", "1.2", "go@v1.0.0", "go@v1.0.0"),
	{Module: "a", Reqs: []api.Node{}},
}

// mayNot are values that may not.
var mayNot = []api.Manifest{
	{}, of("", "1.21"), of("", "", "b@v1.0.0"),
	of("a b", ""), of("a/", ""), of("/a", ""), of(".a", ""), of("a.", ""), of("..a", ""), of("a//b", ""),
	of("\"a\"", ""), of("(", ""), of("//", ""), of("a\n", ""), of(" a", ""),
	of("a\nrequire b v1.0.0", ""), of("a@v1.0.0", ""), of("é", ""), of("\xff", ""), of("a\x00", ""),
	of("a", "1"), of("a", "1.2.3.4"), of("a", "1."), of("a", ".1"), of("a", "1.02"), of("a", "01.2"), of("a", " 1.2"), of("a", "1.2\n"), of("a", "v1.2"),
	of("a", "1.2rc1"), of("a", "1.2-a"), of("a", " "), of("a", "-1.2"), of("a", "1..2"), of("a", "go1.2"), of("a", "1.2 // c"), of("a", "a"),
	of("a", "", "b@"), of("a", "", "@v1.0.0"), of("a", "", "@"), of("a", "", "b@v1"), of("a", "", "b@v1.0"), of("a", "", "b@1.0.0"), of("a", "", "b@v1.0.0-01"),
	of("a", "", "b@v1.0.0-"), of("a", "", "b/@v1.0.0"), of("a", "", "(@v1.0.0"), of("a", "", "\"b\"@v1.0.0"), of("a", "", "b@v1.0.0\n"), of("a", "", "b@v1.0.0+c"),
	of("a", "", "b c@v1.0.0"), of("a", "", "b@v1.0.0 // c"), of("a", "1.21", "b@v01.0.0"), of("a", "", "b@v1.0.0@"),
	of("a", "", "b@v1.0.0", "c@"), of("a", "", "b@v1.0.0", "@v1.0.0", "c@v1.0.0"), of("a", "1.21", "b@", "c@v1.0.0"), of("a", "", "b@v1.0.0", ".@v1.0.0"),
	// none of it
	of("/", "1", "/@1"),
}

func TestMay(t *testing.T) {
	ask := func(m api.Manifest, want bool) {
		if got := text.May(m); got != want {
			t.Errorf("May(%q): %t", m, got)
		}
	}
	for _, c := range texts {
		ask(c.m, true)
	}
	for _, m := range mayBe {
		ask(m, true)
	}
	for _, m := range mayNot {
		ask(m, false)
	}
	values(83, 2000, func(m api.Manifest, l *layout) {
		ask(m, true)
		// One part of it that may not be is enough.
		bad := m
		switch i := l.r.Intn(len(m.Reqs) + 2); i {
		case 0:
			bad.Module = l.one("", "a/", "a b", ".")
		case 1:
			bad.Go = l.one("1", "1.2.3.4", "1.02", "a")
		default:
			bad.Reqs = slices.Clone(m.Reqs)
			bad.Reqs[i-2] = node(l.one("b@", "@v1.0.0", "b@v1", "b.@v1.0.0"))
		}
		ask(bad, false)
	})
}

func TestMayOctets(t *testing.T) {
	for c := range 256 {
		o := string([]byte{byte(c)})
		part := strings.Contains("0123456789abcdefghijklmnopqrstuvwxyzABCDEFGHIJKLMNOPQRSTUVWXYZ-_~./", o)
		word := strings.Contains("0123456789abcdefghijklmnopqrstuvwxyzABCDEFGHIJKLMNOPQRSTUVWXYZ-.", o)
		digit := c >= '0' && c <= '9'
		if text.May(of("a"+o+"b", "")) != part || text.May(api.Manifest{Module: "a", Reqs: []api.Node{{Path: "a" + o + "b", Version: "v1.0.0"}}}) != part {
			t.Errorf("octet %d in paths", c)
		}
		if text.May(of("a", "1.2"+o+"3")) != (digit || c == '.') {
			t.Errorf("octet %d in a go", c)
		}
		if text.May(api.Manifest{Module: "a", Reqs: []api.Node{{Path: "a", Version: "v1.0.0-a" + o + "b"}}}) != word {
			t.Errorf("octet %d in a version", c)
		}
	}
}

func TestSame(t *testing.T) {
	l := []api.Manifest{
		{}, of("a", ""), of("b", ""), of("", "1.21"), of("a", "1.21"), of("a", "1.21.0"), of("", "", "b@v1.0.0"), of("a", "", "b@v1.0.0"), of("a", "1.21", "b@v1.0.0"),
		of("a", "", "b@v1.0.1"), of("a", "", "c@v1.0.0"), of("a", "", "b@v1.0.0", "b@v1.0.0"), of("a", "", "b@v1.0.0", "c@v1.0.0"), of("a", "", "c@v1.0.0", "b@v1.0.0"),
		of("a", "", "b@v1.0.0", "c@v1.0.0", "c@v1.0.0"), of("a", "", "@"), of("a", "", "@", "@"), of("\xff", ""), of("", "\xff"), of("A", ""), of("a ", ""),
		of("\"a\"", ""), of("a", "", "b@"), of("a", "", "@b"), of("a1.21", ""), of("", "a"),
	}
	for i, a := range l {
		for j, b := range l {
			b.Reqs = slices.Clone(b.Reqs)
			if text.Same(a, b) != (i == j) {
				t.Errorf("Same(%q, %q)", a, b)
			}
		}
	}
}

func TestSameOfNone(t *testing.T) {
	for _, m := range []api.Manifest{{}, of("a", ""), of("a", "1.21")} {
		none := m
		none.Reqs = []api.Node{}
		room := m
		room.Reqs = make([]api.Node, 0, 10)
		for _, n := range []api.Manifest{none, room} {
			if !text.Same(m, n) || !text.Same(n, m) || !text.Same(n, n) {
				t.Errorf("Same(%q, %q)", m, n)
			}
		}
	}
}

// P8.2

// prints holds Print of a value that may be against what it must be, and what follows of it.
func prints(t *testing.T, m api.Manifest) {
	t.Helper()
	s, e := text.Print(m)
	if s != printed(m) || e != api.OK {
		t.Errorf("Print(%q): %q, %d", m, s, e)
	}
	if n, e := grammar.Judge(s); n != 0 || e != api.OK {
		t.Errorf("Print(%q): %q: %d, %d", m, s, n, e)
	}
	parses(t, s, m)
	again, n, e := text.Parse(s)
	if !text.Same(again, m) || n != 0 || e != api.OK {
		t.Errorf("Print(%q): %q", m, s)
	}
	if p, e := text.Print(again); p != s || e != api.OK {
		t.Errorf("Print(%q): %q, and then %q, %d", m, s, p, e)
	}
}

func TestPrint(t *testing.T) {
	for _, c := range []struct {
		m api.Manifest
		s string
	}{
		{of("a", ""), "module a\n"},
		{of("a/b", "1.21"), "module a/b\ngo 1.21\n"},
		{of("a", "1.21.0"), "module a\ngo 1.21.0\n"},
		{of("a", "", "b@v1.0.0"), "module a\nrequire b v1.0.0\n"},
		{of("a", "1.21", "b@v1.0.0"), "module a\ngo 1.21\nrequire b v1.0.0\n"},
		{of("a", "", "c@v1.0.0", "b@v1.0.0"), "module a\nrequire (\n\tc v1.0.0\n\tb v1.0.0\n)\n"},
		{of("a", "0.0", "b@v1.0.0", "b@v1.0.0", "a@v0.0.1-x.0"), "module a\ngo 0.0\nrequire (\n\tb v1.0.0\n\tb v1.0.0\n\ta v0.0.1-x.0\n)\n"},
		{of("module", "1.2", "go@v1.0.0"), "module module\ngo 1.2\nrequire go v1.0.0\n"},
		{of("go", "1.2", "require@v1.0.0", "module@v1.0.0"), "module go\ngo 1.2\nrequire (\n\trequire v1.0.0\n\tmodule v1.0.0\n)\n"},
		{api.Manifest{Module: "a", Reqs: []api.Node{}}, "module a\n"},
	} {
		if s, e := text.Print(c.m); s != c.s || e != api.OK {
			t.Errorf("Print(%q): %q, %d, not %q", c.m, s, e, c.s)
		}
		prints(t, c.m)
	}
}

func TestPrintRefused(t *testing.T) {
	for _, m := range mayNot {
		if s, e := text.Print(m); s != "" || e != api.ErrArg {
			t.Errorf("Print(%q): %q, %d", m, s, e)
		}
	}
}

// P8.3

func TestPrintAgain(t *testing.T) {
	for _, c := range texts {
		m, _, _ := text.Parse(c.s)
		prints(t, m)
	}
	for _, m := range mayBe {
		prints(t, m)
	}
	values(84, 10000, func(m api.Manifest, l *layout) {
		prints(t, m)
		// However it was laid out, it is printed alike.
		laid, _, _ := text.Parse(l.of(m))
		if s, e := text.Print(laid); s != printed(m) || e != api.OK {
			t.Errorf("Print(%q): %q, %d", laid, s, e)
		}
	})
}

func TestParsedMayBe(t *testing.T) {
	values(85, 5000, func(m api.Manifest, l *layout) {
		if laid, _, e := text.Parse(l.of(m)); e != api.OK || !text.May(laid) {
			t.Errorf("May(%q)", laid)
		}
	})
}

// TestUnchanged: no call changes what it was handed, and what it answers hangs on nothing that comes behind.
func TestUnchanged(t *testing.T) {
	values(86, 1000, func(m api.Manifest, l *layout) {
		// What is behind the list's end is the caller's, too.
		all := append(slices.Clone(m.Reqs), node("x@y"))
		m.Reqs = all[:len(all)-1]
		was := slices.Clone(all)
		s, _ := text.Print(m)
		text.May(m)
		text.Same(m, m)
		one, _, _ := text.Parse(s)
		two, _, _ := text.Parse(s)
		for i := range one.Reqs {
			one.Reqs[i] = api.Node{}
		}
		if !slices.Equal(all, was) || !text.Same(two, m) {
			t.Errorf("%q is changed", m)
		}
	})
}

// TestSameAgain: no order of questions, and nobody who asks at the same time, changes an answer.
func TestSameAgain(t *testing.T) {
	var l []string
	var first []api.Manifest
	values(87, 3000, func(m api.Manifest, lay *layout) {
		l = append(l, lay.of(m))
		first = append(first, m)
	})
	var all sync.WaitGroup
	for range 4 {
		all.Go(func() {
			for i := len(l) - 1; i >= 0; i-- {
				m, n, e := text.Parse(l[i])
				s, _ := text.Print(m)
				if !text.Same(m, first[i]) || n != 0 || e != api.OK || s != printed(first[i]) {
					t.Errorf("%q: %q, %d, %d, and %q", l[i], m, n, e, s)
				}
			}
		})
	}
	all.Wait()
}
