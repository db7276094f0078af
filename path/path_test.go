package path_test

import (
	"math/rand"
	"regexp"
	"slices"
	"strings"
	"testing"

	"graftwood/api"
	"graftwood/path"
)

// many is how many octets, or elements, a text of very many of them has here.
const many = 100000

// good are paths; pairs and threes of them are gone through.
var good = []string{
	"a", "b", "A", "0", "00", "-", "_", "~", "~a", "_b", "-c", "a-", "a..b", "a.b", "a.b.c", "a...b", "-.-", "0.0", "ab", "abc",
	"a-b", "a_b", "a~b", "a/b", "a/b/c", "a/b/c/d", "a/bc", "ab/c", "a/B", "a/a", "a/a/a", "b/a", "a.b/c", "a/b.c", "a/b.c/d",
	"a.b/c.d/e.f", "golang.org", "golang.org/x", "golang.org/x/mod", "golang.org/x/modest", "golang.org/xmod", "v1.2.3", "a/v2",
	"~a/_b/-c", "-/-/-", "0/1/2", "ABCXYZabcxyz0123456789-._~z",
}

// wrong are texts that are no paths.
var wrong = []string{
	"", ".", "..", "...", "/", "//", "///", "/.", "./", "./.", "../..", ".a", "a.", ".a.", "..a", "a..", "a/", "/a", "/a/", "a//b",
	"a//", "//a", "a/b/", "/a/b", "a//b/c", "a/b//c", "a/.", "a/..", "./a", "../a", "a/./b", "a/../b", "a/.b", "a/b.", "a./b",
	".a/b", "a/b./c", "a/.b/c", "a/b/.c", "a/b/c.", "a/./", " ", "a b", " a", "a ", "a/ /b", "a/ b", "a /b", "\t", "a\tb", "\n",
	"a\n", "a\nb", "a/b\n", "\"a\"", "a\"", "(a)", "a(b", "a)", "a+b", "a@b", "a@v1.0.0", "a,b", "a:b", "a;b", "a\\b", "a*", "a=b",
	"a!b", "a#b", "a$b", "a%b", "a&b", "a'b", "a<b", "a>b", "a?b", "a[b", "a]b", "a^b", "a`b", "a{b", "a|b", "a}b", "\x00",
	"a\x00", "\x00a", "a\x00b", "\x7f", "a\x7f", "\x80", "a\x80", "\xff", "a\xff", "\xffa", "a\xffb", "a/\xff/b", "é", "aé", "éa",
	"aéb", "a/é", "é/a", "a\u0301", "٣", "a/٣", "\ufeffa", "a\ufffd", "日本", "a/日本", "😀", "a😀b",
	// A slash and a dot, written by too many octets, or other ones that look like them.
	"a\xc0\xafb", "\xc0\xae", "a\xc0\xaeb", "a\xe0\x80\xafb", "a／b", "a．b", "a∕b", "a․b",
	strings.Repeat("/", many), strings.Repeat(".", many), strings.Repeat("a/", many), strings.Repeat("./", many),
	strings.Repeat("a", many) + ".", "." + strings.Repeat("a", many), strings.Repeat("a/", many) + ".a",
	strings.Repeat("é", many), strings.Repeat("\xff", many),
}

// sorts are one text of each sort of what may be in an element's place.
var sorts = []string{
	"", "a", "b", "Z", "0", "-", "_", "~", "a.b", "a..b", ".", "..", ".a", "a.", "/", "a/", "/a", "a/b", "//", "./a", "a b", " ",
	"\n", "a\n", "+", "a+b", "\x00", "a\x00", "\x7f", "\x80", "\xff", "é", "aé", "a\ufffd", "日本",
}

// short is a text, cut where it is too long to be shown.
func short(s string) string {
	if len(s) > 60 {
		return s[:60] + ".."
	}
	return s
}

// element is the chapter's words on what an element is, as a pattern.
const element = `[0-9A-Za-z_~-]([0-9A-Za-z._~-]*[0-9A-Za-z_~-])?`

// oneElement is the pattern of an element, and nothing more.
func oneElement() *regexp.Regexp { return regexp.MustCompile(`\A` + element + `\z`) }

// onePath is the pattern of a path, and nothing more.
func onePath() *regexp.Regexp { return regexp.MustCompile(`\A` + element + `(/` + element + `)*\z`) }

// each calls f with each text of at most n octets out of octets.
func each(octets string, n int, f func(s string)) {
	var grow func(s string)
	grow = func(s string) {
		f(s)
		if len(s) < n {
			for i := range len(octets) {
				grow(s + octets[i:i+1])
			}
		}
	}
	grow("")
}

// around are texts with one within them, at each kind of place of a path.
func around(one string) []string {
	return []string{
		one, one + "a", "a" + one, "a" + one + "b", one + one, "a" + one + one + "b", "a/" + one, one + "/a", "a/" + one + "/b",
		"a/b" + one, "a/" + one + "b", "a" + one + "/b", "a/b" + one + "c/d",
	}
}

// made are paths out of chance's elements, from one beginning.
func made(n int) []string {
	chance := rand.New(rand.NewSource(4))
	elements := []string{"a", "b", "ab", "a.b", "a-", "A", "0", "~"}
	l := make([]string, n)
	for i := range l {
		var of []string
		for range 1 + chance.Intn(4) {
			of = append(of, elements[chance.Intn(len(elements))])
		}
		l[i] = strings.Join(of, "/")
	}
	return l
}

// P4.1

func TestMayOfPaths(t *testing.T) {
	more := []string{
		strings.Repeat("a", many), strings.Repeat("a/", many) + "a", "a" + strings.Repeat(".", many) + "a",
		strings.Repeat("a.b/", many) + "~",
	}
	for _, s := range append(more, good...) {
		if !path.May(s) {
			t.Errorf("May(%q): false", short(s))
		}
	}
}

func TestMayOfWrong(t *testing.T) {
	for _, s := range wrong {
		if path.May(s) {
			t.Errorf("May(%q): true", short(s))
		}
	}
}

func TestMayOfEachShortText(t *testing.T) {
	f := onePath()
	ask := func(s string) {
		if path.May(s) != f.MatchString(s) {
			t.Errorf("May(%q): %v", s, path.May(s))
		}
	}
	each("a./", 9, ask)
	each("aZ09-._~/", 4, ask)
	each("a./ \n\x00\xc3\xa9\xff", 4, ask)
}

func TestMayOfEachOctet(t *testing.T) {
	f := onePath()
	for c := range 256 {
		for _, s := range around(string([]byte{byte(c)})) {
			if path.May(s) != f.MatchString(s) {
				t.Errorf("May(%q): %v", s, path.May(s))
			}
		}
	}
}

func TestMayOfRunes(t *testing.T) {
	// Among these are all whose last eight bits are a letter's, a digit's, a mark's or a slash's.
	for r := rune(128); r < 0x3000; r++ {
		for _, s := range around(string(r)) {
			if path.May(s) {
				t.Errorf("May(%q): true", s)
			}
		}
	}
}

func TestElements(t *testing.T) {
	for s, want := range map[string][]string{
		"a": {"a"}, "a/b": {"a", "b"}, "a.b/c": {"a.b", "c"}, "a/b.c/d": {"a", "b.c", "d"}, "a..b": {"a..b"}, "a/a/a": {"a", "a", "a"},
		"golang.org/x/mod": {"golang.org", "x", "mod"}, "~a/_b/-c": {"~a", "_b", "-c"}, "0": {"0"}, "-/-": {"-", "-"},
	} {
		if got, e := path.Elements(s); !slices.Equal(got, want) || e != api.OK {
			t.Errorf("Elements(%s): %q, %d", s, got, e)
		}
	}
	if got, e := path.Elements(strings.Repeat("a/", many) + "b"); len(got) != many+1 || got[0] != "a" || got[many] != "b" || e != api.OK {
		t.Errorf("Elements of very many: %d of them, %d", len(got), e)
	}
}

func TestElementsOfWrong(t *testing.T) {
	for _, s := range wrong {
		if got, e := path.Elements(s); got != nil || e != api.ErrArg {
			t.Errorf("Elements(%q): %.60q, %d", short(s), got, e)
		}
	}
}

func TestJoin(t *testing.T) {
	for want, l := range map[string][]string{
		"a": {"a"}, "a/b": {"a", "b"}, "a.b/c": {"a.b", "c"}, "a/b.c/d": {"a", "b.c", "d"}, "a..b": {"a..b"}, "a/a/a": {"a", "a", "a"},
		"golang.org/x/mod": {"golang.org", "x", "mod"}, "~a/_b/-c": {"~a", "_b", "-c"}, "0": {"0"}, "-/-": {"-", "-"},
	} {
		if got, e := path.Join(l); got != want || e != api.OK {
			t.Errorf("Join(%q): %q, %d", l, got, e)
		}
	}
	if got, e := path.Join(slices.Repeat([]string{"a"}, many)); got != strings.Repeat("a/", many-1)+"a" || e != api.OK {
		t.Errorf("Join of very many: %s, %d", short(got), e)
	}
}

func TestJoinOfNone(t *testing.T) {
	for i, l := range [][]string{nil, {}, good[:0]} {
		if got, e := path.Join(l); got != "" || e != api.ErrArg {
			t.Errorf("Join of none %d: %q, %d", i, got, e)
		}
	}
}

// joins holds Join against what its words say: of elements, and of at least one.
func joins(t *testing.T, f *regexp.Regexp, l ...string) {
	t.Helper()
	want, e := strings.Join(l, "/"), api.OK
	for _, s := range l {
		if !f.MatchString(s) {
			want, e = "", api.ErrArg
		}
	}
	was := slices.Clone(l)
	if got, ge := path.Join(l); got != want || ge != e {
		t.Errorf("Join(%q): %q, %d", l, got, ge)
	}
	if !slices.Equal(l, was) {
		t.Errorf("Join changed its list: %q, which was %q", l, was)
	}
}

func TestJoinOfEachSort(t *testing.T) {
	f := oneElement()
	for _, x := range sorts {
		joins(t, f, x)
		joins(t, f, x, "a", "b")
		joins(t, f, "a", x, "b")
		joins(t, f, "a", "b", x)
		for _, y := range sorts {
			joins(t, f, x, y)
			joins(t, f, "a", x, y, "b")
		}
	}
	each("a./", 6, func(s string) { joins(t, f, s) })
	for c := range 256 {
		one := string([]byte{byte(c)})
		joins(t, f, one)
		joins(t, f, "a"+one)
		joins(t, f, one+"a")
		joins(t, f, "a"+one+"b")
	}
}

// P4.2

func TestWithin(t *testing.T) {
	for _, c := range []struct {
		p, q string
		want bool
	}{
		{"a", "a", true}, {"a", "a/b", true}, {"a", "a/b/c", true}, {"a/b", "a/b", true}, {"a/b", "a/b/c", true},
		{"golang.org/x", "golang.org/x/mod", true}, {"a", "a/a", true}, {"a.b", "a.b/c", true}, {"~", "~/~", true},
		{"a", "ab", false}, {"a", "a.b", false}, {"a", "a-", false}, {"a", "ab/a", false}, {"a/b", "a/bc", false},
		{"a/b", "a/b.c", false}, {"a/b", "a/bc/b", false}, {"golang.org/x/mod", "golang.org/x/modest", false},
		{"ab", "a", false}, {"a/b", "a", false}, {"a/b/c", "a/b", false}, {"a/a", "a", false}, {"a/b", "b/a", false},
		{"b", "a/b", false}, {"b", "a", false}, {"a", "b", false}, {"a", "b/a", false}, {"a", "A", false}, {"a", "A/b", false},
		{"a/b", "a/c", false}, {"a/b", "c/b", false}, {"a/b/c", "a/x/c", false}, {"a/b/c", "a/x/c/d", false},
	} {
		if path.Within(c.p, c.q) != c.want {
			t.Errorf("Within(%s, %s): %v", c.p, c.q, !c.want)
		}
	}
}

func TestWithinOfWrong(t *testing.T) {
	for _, s := range wrong {
		// A text that is no path may go on as one, as a. does in a.b, and still isn't within it.
		for _, q := range []string{s, s + "/b", s + "b", "a", "a/b", "", "/", "a/"} {
			if path.Within(s, q) {
				t.Errorf("Within(%q, %q): true", short(s), short(q))
			}
		}
		for _, p := range []string{"a", "a/b", "", "/", "a/"} {
			if path.Within(p, s) || path.Within(p, p+"/"+s) {
				t.Errorf("Within(%q, %q), or behind it: true", p, short(s))
			}
		}
	}
	for _, c := range [][2]string{{"a", "a/"}, {"a", "a//b"}, {"a", "a/.b"}, {"a", "a/b."}, {"a", "a/b/+"}, {"a", "a/é"}, {"a/", "a/b"}, {"", "a"}} {
		if path.Within(c[0], c[1]) {
			t.Errorf("Within(%q, %q): true", c[0], c[1])
		}
	}
}

func TestWithinOfManyElements(t *testing.T) {
	l := strings.Repeat("a/", many) + "a"
	for i, c := range []struct {
		p, q string
		want bool
	}{
		{l, l, true}, {l, l + "/a", true}, {l, l + "a", false}, {l, l[:len(l)-1] + "b", false}, {l + "/a", l, false}, {"a", l, true},
		{l, "a", false}, {l, l + "/", false}, {l, l + "/.", false}, {l + "/", l + "/a", false},
	} {
		if path.Within(c.p, c.q) != c.want {
			t.Errorf("Within of very many %d: %v", i, !c.want)
		}
	}
}

func TestWithinIsByElements(t *testing.T) {
	f := onePath()
	var l []string
	each("ab./", 4, func(s string) { l = append(l, s) })
	for _, p := range l {
		for _, q := range l {
			want := f.MatchString(p) && f.MatchString(q) && strings.HasPrefix(q+"/", p+"/")
			if path.Within(p, q) != want {
				t.Errorf("Within(%q, %q): %v", p, q, !want)
			}
		}
	}
}

// P4.3

func TestTakenApartIsJoinedAgain(t *testing.T) {
	check := func(s string) {
		l, e := path.Elements(s)
		back, eb := path.Join(l)
		if e == api.OK && (back != s || eb != api.OK) || e != api.OK && (back != "" || eb != api.ErrArg) {
			t.Errorf("%q, taken apart and joined: %q, %d, %d", short(s), short(back), e, eb)
		}
	}
	for _, l := range [][]string{good, wrong, made(400)} {
		for _, s := range l {
			check(s)
		}
	}
	each("a./", 7, check)
}

func TestJoinedIsTakenApartAgain(t *testing.T) {
	for _, x := range sorts {
		for _, y := range sorts {
			l := []string{x, y, "c"}
			p, e := path.Join(l)
			if e != api.OK {
				continue
			}
			if back, eb := path.Elements(p); !slices.Equal(back, l) || eb != api.OK || !path.May(p) {
				t.Errorf("%q, joined and taken apart: %q, %d", l, back, eb)
			}
		}
	}
}

func TestWithinItself(t *testing.T) {
	for _, p := range append(made(400), good...) {
		if !path.Within(p, p) || !path.Within(p, p+"/a") || path.Within(p+"/a", p) || path.Within(p, p+"a") {
			t.Errorf("Within of %s and itself, or of what goes on behind it", p)
		}
	}
}

func TestWithinGoesOnAmongThree(t *testing.T) {
	l := slices.Concat(made(80), good, []string{"", "a/", "/", "a//b"})
	for _, p := range l {
		for _, q := range l {
			if path.Within(p, q) && path.Within(q, p) && p != q {
				t.Errorf("%q and %q are within one another", p, q)
			}
			for _, r := range l {
				if path.Within(p, q) && path.Within(q, r) && !path.Within(p, r) {
					t.Errorf("it does not go on: %q, %q, %q", p, q, r)
				}
			}
		}
	}
}

func TestElementsAnswersANewList(t *testing.T) {
	l, _ := path.Elements("a/b")
	m, _ := path.Elements("a/b")
	l[0] = "x"
	if again, _ := path.Elements("a/b"); m[0] != "a" || again[0] != "a" {
		t.Errorf("one answer's elements are another one's: %q, %q", m, again)
	}
}
