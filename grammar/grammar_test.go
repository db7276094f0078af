package grammar_test

import (
	"math/rand"
	"slices"
	"strings"
	"sync"
	"testing"

	"graftwood/api"
	"graftwood/grammar"
)

// many is how many octets, or lines, there are where there are very many of them here.
const many = 20000

// manifests are texts that are some.
var manifests = []string{
	// a module alone
	"module a", "module a\n", "module a\n\n\n", "module golang.org/x/mod\n", "module a/b/c", "module a..b", "module -/~/_", "module 1.21", "module v1.0.0",
	"module module", "module go", "module require", "module m", "module a-", "module mod/v2\n",
	// quotes
	"module \"a\"", "module \"a\"\n", "module \"a.b/c\" \n", "module \"a\" // \"b\"", "module\t\"a\"\t", "module   \"module\"",
	// spaces and octet 9
	" module a", "\tmodule a", " \t \tmodule a", "module \t a", "module\ta", "module a ", "module a\t", "module a \t \n", "  module  a  \n  ",
	"\t\n \nmodule a\n\t\n ",
	// comments and blank lines
	"// c\nmodule a", "//\nmodule a", "  // c\n\n\t//\nmodule a", "\n\n\nmodule a", "module a // c", "module a //", "module a\t//c", "module a\n// c",
	"module a\n//",
	"module a\n \t// c\n", "module a // c // d", "module a ///", "module a // \"(\x00\xff\r é", "/// c\nmodule a",
	"// module b\nmodule a\n// module c\n// go 1.21",
	"//\x00\x01\xff\xfe\r\nmodule a\n//\x80", "// )\nmodule a\n// require (", "module a // go 1.21\ngo 1.22",
	// a go
	"module a\ngo 1.21", "module a\ngo 1.21\n", "module a\ngo 1.21.0", "module a\ngo 0.0", "module a\ngo 0.0.0 // c", "module a\n\n\tgo\t1.21.13\t\n",
	"module a\n  go   10.20  // c\n",
	"module a\nrequire b v1.0.0\ngo 1.21\nrequire c v1.0.0", "module a\nrequire (\n)\ngo 1.21", "module a\n// c\n\ngo 1.21\n\n// d",
	// requirements line by line
	"module a\nrequire b v1.0.0", "module a\nrequire b v1.0.0\n", "module a\nrequire b v1.0.0\nrequire c v0.0.1\n", "module a\nrequire b v1.0.0\nrequire b v1.0.0",
	"module a\nrequire \"b\" v1.0.0", "module a\nrequire \"b/c.d\"\tv1.0.0-rc.1\t// c", " module a\n\trequire\tb\tv1.0.0\t\n \trequire  b  v1.0.0  // indirect\n",
	"module a\nrequire b v1.0.0-0a", "module a\nrequire b v1.0.0-01a.0.-", "module a\nrequire b v0.0.0-20261118123456-0123456789ab", "module a\nrequire a v1.0.0",
	"module a\nrequire require v1.0.0", "module a\nrequire module v1.0.0\nrequire go v1.0.0", "module a\nrequire v1.0.0 v1.0.0",
	"module a\n\nrequire b v1.0.0\n\n\n// c\nrequire c v1.0.0\n",
	"module a\ngo 1.21\nrequire b v1.0.0 //\n", "module a\nrequire \"require\" v1.0.0", "module a\nrequire 1.21 v1.21.0",
	// blocks
	"module a\nrequire (\n)", "module a\nrequire (\n)\n", "module a\nrequire (\n\n\t\n// c\n)", "module a\nrequire (\nb v1.0.0\n)",
	"module a\nrequire (\n\tb v1.0.0\n\tc v1.0.0\n\tb v1.0.0\n)\n",
	"module a\nrequire ( // c\n\tb v1.0.0 // d\n\n\t// e\n\t\"c\"\tv0.0.1\n) // f\n", "module a\n \trequire \t( \t\n \tb \tv1.0.0 \t\n \t) \t\n",
	"module a\nrequire\t(\t//\n)\t//",
	"module a\nrequire (\n)\nrequire (\n)\nrequire (\nb v1.0.0\n)\nrequire b v1.0.0", "module a\nrequire (\ngo v1.0.0\nmodule v1.0.0\nrequire v1.0.0\n)",
	"module a\nrequire (\n\"go\" v1.0.0\n\"require\" v1.0.0\nv1.0.0 v1.0.0\n)\ngo 1.21", "module a\nrequire (\n// )\n)",
	"module a\nrequire (\nb v1.0.0 // )\n)", "module a\nrequire (\n\"b\" v1.0.0\n )",
	"module a\nrequire (\n)\n//", "module a\nrequire ( //(\n)\ngo 1.21\nrequire ( \n) // )",
	// all of it
	"// c\n\n \tmodule \"a/b\" // d\n\ngo 1.21\nrequire b v1.0.0 \nrequire (\n\tc v1.0.0-a // x\n\n\"d\"\tv0.0.1\n) // e\nrequire (\n)\nrequire e v1.0.0-0\n",
}

// truncated are texts that live, and are no manifests.
var truncated = []string{
	// no module
	"", " ", "\t", "\n", "\n\n", " \t\n\t ", "// c", "//", "// c\n", " //", "// module a", "// module a\n \n//",
	"m", "mo", "modul", "module", "module ", "module\t", "module \t ", " m", "\nm", "// c\n\tmodule ",
	// a word that is none yet
	"module a.", "module a..", "module a/", "module a/b.", "module a.b/", "module golang.org/x/", "module \"a.", "module \"a/",
	// a quote that is not closed
	"module \"", "module \"a", "module \"a/b", "module a\nrequire \"", "module a\nrequire \"b", "module a\nrequire (\n\"", "module a\nrequire (\n\"b",
	// one slash alone
	"/", " /", "\n/", "// c\n\t/", "module a /", "module a\t/", "module \"a\" /", "module a\n/", "module a\n /", "module a\ngo 1.21 /",
	"module a\nrequire b v1.0.0 /",
	"module a\nrequire ( /", "module a\nrequire (\n/", "module a\nrequire (\nb v1.0.0 /", "module a\nrequire (\n) /", "module a\nrequire (\n)\n/",
	// keywords
	"module a\ng", "module a\ngo", "module a\nr", "module a\nre", "module a\nrequir", "module a\nrequire", "module a\n\tg", "module a\n// c\n r",
	// a go that is none yet
	"module a\ngo ", "module a\ngo\t", "module a\ngo 1", "module a\ngo 0", "module a\ngo 12", "module a\ngo 1.", "module a\ngo 1.21.", "module a\ngo 0.0.",
	// a requirement that is none yet
	"module a\nrequire ", "module a\nrequire b", "module a\nrequire b.", "module a\nrequire b/", "module a\nrequire b ", "module a\nrequire b\t",
	"module a\nrequire \"b\"", "module a\nrequire \"b\" ",
	"module a\nrequire b v", "module a\nrequire b v1", "module a\nrequire b v1.", "module a\nrequire b v1.0", "module a\nrequire b v1.0.",
	"module a\nrequire b v1.0.0-",
	"module a\nrequire b v1.0.0-a.", "module a\nrequire b v1.0.0-01", "module a\nrequire b v1.0.0-a.00",
	// a block that does not end
	"module a\nrequire (", "module a\nrequire ( ", "module a\nrequire ( // )", "module a\nrequire (\n", "module a\nrequire (\n\n \t",
	"module a\nrequire (\n// )", "module a\nrequire (\n// )\n",
	"module a\nrequire (\nb", "module a\nrequire (\nb ", "module a\nrequire (\nb v1", "module a\nrequire (\nb v1.0.0", "module a\nrequire (\nb v1.0.0 ",
	"module a\nrequire (\nb v1.0.0 // )",
	"module a\nrequire (\nb v1.0.0\n", "module a\nrequire (\nb v1.0.0-01", "module a\nrequire (\n\"b\"", "module a\nrequire (\n\"b\" ",
	"module a\nrequire (\n)\nrequire (", "module a\nrequire (\n)\nrequire (\n",
	"module a\nrequire (\ngo", "module a\nrequire (\nrequire", "module a\nrequire (\nrequire ", "module a\nrequire (\nmodule v1.0.0\n",
}

// dead are texts that do not live: what of each does, and what is behind that.
var dead = []struct{ lives, behind string }{
	// no content begins so
	{"", "x"}, {"", "odule a"}, {"", "M"}, {"", "Module a"}, {"", "\"a\""}, {"", "(\n)"}, {"", ")"}, {"", "\r\n"}, {"", "\x00"}, {"", "\xff"},
	{"", "\ufeffmodule a"}, {"", "é"}, {"", "\v"}, {"", "\f"},
	{"mo", "x"}, {"mod", "\n"}, {"mo", " dule a"}, {"modul", "a"}, {" \t", "a"}, {"// c\n", "a v1.0.0"}, {"", "\u00a0module a"},
	{"module a\n", "x"}, {"module a\n", "b v1.0.0"}, {"module a\n", "\"b\" v1.0.0"}, {"module a\n", "exclude b v1.0.0"},
	{"module a\nre", "place b => c v1.0.0"}, {"module a\nre", "tract v1.0.0"},
	{"module a\n", "toolchain go1.21"}, {"module a\ng", "1.21"}, {"module a\n", "Go 1.21"}, {"module a\n", "G"}, {"module a\nrequir", "\n"},
	{"module a\nrequire", "s b v1.0.0"}, {"module a\n", "v1.0.0"}, {"module a\n", "1.21"},
	// a module twice, none, or behind something else
	{"module a\n", "module b"}, {"module a\n", "module a"}, {"module a\n", "m"}, {"module a\n\n// c\n ", "module a"}, {"module a\ngo 1.21\n", "module a"},
	{"module a\nrequire (\n)\n", "module a"}, {"module a\nrequire b v1.0.0\n", "module a"},
	{"", "go 1.21"}, {"", "g"}, {"", "go 1.21\nmodule a"}, {"", "require a v1.0.0"}, {"", "r"}, {"", "require (\n)"}, {"// c\n\n", "require (\n)\nmodule a"},
	{"\n \t", "go 1.21\nmodule a"}, {"// module a\n", "go 1.21"},
	// a module's path
	{"module", "a"}, {"module", "\n"}, {"module", "/"}, {"module", "// c"}, {"module", "\"a\""}, {"module", "("}, {"module ", "\n"}, {"module \t", "\n"},
	{"module ", "// c"}, {"module ", "/a"}, {"module ", ".a"}, {"module ", "(a)"}, {"module ", "(\na\n)"},
	{"module ", ")"}, {"module ", "'a'"}, {"module ", "`a`"}, {"module ", "@"}, {"module ", "é"}, {"module a", "@v1.0.0"}, {"module a/", "/b"},
	{"module a/", "/ c"}, {"module a.", "/b"}, {"module a/", ".b"}, {"module a.", " "},
	{"module a.", "\n"}, {"module a.", "\t"}, {"module a/", "\n"}, {"module a/", " "}, {"module a", "\"b\""}, {"module a", "\""}, {"module a", "("},
	{"module a", ")"}, {"module a", "\r\n"}, {"module a", "\x00"}, {"module a", "é"}, {"module a", "+b"},
	{"module a ", "b"}, {"module a ", "v1.0.0"}, {"module a\t", "\"b\""}, {"module a ", "("}, {"module a ", ")"}, {"module a ", "\r\n"},
	{"module a ", "# c"}, {"module a ", "; go 1.21"}, {"module a ", "\x00"}, {"module a \t ", "a"},
	// quotes: an empty one, and one with a space within
	{"module \"", "\""}, {"module \"", " \""}, {"module \"", " a\""}, {"module \"a", " \""}, {"module \"a", " b\""}, {"module \"a", "\tb\""},
	{"module \"a", "\n"}, {"module \"", "\n"}, {"module \"a.", "\""}, {"module \"a/", "\""}, {"module \"", ".a\""}, {"module \"", "/a\""},
	{"module \"a/", "/b\""}, {"module \"a", "\\\"\""}, {"module \"a", "("}, {"module \"", "(\""}, {"module \"a\"", "b"}, {"module \"a\"", "\"b\""},
	{"module \"a\"", "\""}, {"module \"a\"", "// c"}, {"module \"a\"", "/b"}, {"module \"a\"", "."}, {"module \"a\"", "("},
	{"module \"a\" ", "b"}, {"module \"a\" ", "\""}, {"module \"a\" ", "\"b\""}, {"module \"a\"", "\r"}, {"module \"a", "\x00\""},
	// comments
	{"/", "\n"}, {"/", " /"}, {"/", "* c */"}, {"/", "m"}, {" /", "\n"}, {"// c\n/", "\n"}, {"module a /", "\n"}, {"module a /", " /"}, {"module a /", "a"},
	{"module a /", "* c */"}, {"module a\n/", "\n"}, {"module a\n /", " "}, {"module a // c\n", "x"}, {"module a // c\n// d\n", "x"},
	{"// c\n", "d"}, {"module a\n/", "\x00/"}, {"module a\ngo 1.21 /", "\n"},
	// a go: twice, in a block, of one number or of four
	{"module a\ngo 1.21\n", "go 1.21"}, {"module a\ngo 1.21\n", "g"}, {"module a\ngo 1.21\nrequire b v1.0.0\n", "go 1.22"},
	{"module a\nrequire (\n)\ngo 1.21\n\n// c\n\t", "go 1.21"}, {"module a\ngo 1.21.0\nrequire (\n)\n", "go 1.21"},
	{"module a\nrequire (\ngo ", "1.21"}, {"module a\ngo 1.21\nrequire (\ngo ", "1.21"}, {"module a\ngo 1", "\n"}, {"module a\ngo 1", " "},
	{"module a\ngo 1", "\t// c"}, {"module a\ngo 0", "\n"}, {"module a\ngo 12", "\n"}, {"module a\ngo 1.2.3", ".4"}, {"module a\ngo 1.2.0", ".0"},
	{"module a\ngo", "\n"}, {"module a\ngo", "1.21"}, {"module a\ngo", "/"}, {"module a\ngo", "o 1.21"}, {"module a\ngo ", "\n"}, {"module a\ngo ", "// c"},
	{"module a\ngo 1.", "\n"}, {"module a\ngo 1.", " "}, {"module a\ngo 1.", ".2"}, {"module a\ngo 1.2.", "\n"}, {"module a\ngo 1.2.", " "},
	{"module a\ngo 1.21", "rc1"}, {"module a\ngo 1.0", "2"}, {"module a\ngo 0", "1.2"}, {"module a\ngo 1.21.0", "0"}, {"module a\ngo ", "\"1.21\""},
	{"module a\ngo ", "v1.21.0"}, {"module a\ngo ", "(\n"}, {"module a\ngo ", "go1.21"}, {"module a\ngo ", ".1"}, {"module a\ngo 1.21 ", "1.22"},
	{"module a\ngo 1.21", "// c"}, {"module a\ngo 1.21", "/"}, {"module a\ngo 1.21", "\r\n"}, {"module a\ngo 1.21", "\""}, {"module a\ngo 1.21", ")"},
	{"module a\ngo 1.21 ", ")"},
	// a requirement without its version, or with two
	{"module a\nrequire b", "\n"}, {"module a\nrequire b ", "\n"}, {"module a\nrequire b ", "// c"}, {"module a\nrequire b \t", "/"},
	{"module a\nrequire \"b\"", "\n"}, {"module a\nrequire \"b\" ", "\n"}, {"module a\nrequire \"b\" ", "// c"},
	{"module a\nrequire b v1.0.0 ", "v1.0.0"}, {"module a\nrequire b v1.0.0\t", "v1.0.1"}, {"module a\nrequire b v1.0.0 ", "c v1.0.0"},
	{"module a\nrequire b v1.0.0 ", "c"}, {"module a\nrequire (\nb v1.0.0 ", "v1.0.0"}, {"module a\nrequire (\nb", "\n"}, {"module a\nrequire (\nb ", "\n)"},
	{"module a\nrequire", "\n"}, {"module a\nrequire", "("}, {"module a\nrequire", "\"b\" v1.0.0"}, {"module a\nrequire", "b v1.0.0"},
	{"module a\nrequire", "/"}, {"module a\nrequire ", "\n"}, {"module a\nrequire ", "// c"}, {"module a\nrequire ", ")"},
	{"module a\nrequire ", ".b v1.0.0"},
	{"module a\nrequire b ", "1.0.0"}, {"module a\nrequire b ", "c"}, {"module a\nrequire b ", "(\n"}, {"module a\nrequire b", "("},
	{"module a\nrequire b ", ")"}, {"module a\nrequire b", "@v1.0.0"}, {"module a\nrequire b ", "\"v1.0.0\""}, {"module a\nrequire b ", "V1.0.0"},
	{"module a\nrequire b ", ">=v1.0.0"},
	{"module a\nrequire b v1.0", "\n"}, {"module a\nrequire b v1", " "}, {"module a\nrequire b v1.0.0-", "\n"}, {"module a\nrequire b v1.0.0-01", "\n"},
	{"module a\nrequire b v1.0.0-01", " "}, {"module a\nrequire b v1.0.0-01", ".a"}, {"module a\nrequire b v1.0.0", "+incompatible"},
	{"module a\nrequire b v1.0.0", "// c"},
	{"module a\nrequire b v1.0.0", "/"}, {"module a\nrequire b v1.0.0", "\r\n"}, {"module a\nrequire b v1.0.0", "\""}, {"module a\nrequire b v1.0.0 ", "("},
	{"module a\nrequire b v1.0.0 ", "=> c v1.0.0"}, {"module a\nrequire b v0", "1.0.0"}, {"module a\nrequire b v1.0.0", ".0"},
	{"module a\nrequire b/", " v1.0.0"},
	{"module a\nrequire b.", " v1.0.0"}, {"module a\nrequire \"", "\" v1.0.0"}, {"module a\nrequire \"b", " c\" v1.0.0"},
	{"module a\nrequire \"b\"", "v1.0.0"}, {"module a\nrequire \"b\"", "\"v1.0.0\""}, {"module a\nrequire \"", "(\" v1.0.0"},
	{"module a\nrequire \"b", " v1.0.0\""}, {"module a\nrequire \"b\" ", "\"v1.0.0\""}, {"module a\nrequire \"b\" ", "("},
	// blocks: what is behind one's begin, one that ends twice, one in another one, a ")" with something behind
	{"module a\nrequire (", "b v1.0.0"}, {"module a\nrequire ( ", "b v1.0.0\n)"}, {"module a\nrequire ( ", "\"b\" v1.0.0"}, {"module a\nrequire (", ")"},
	{"module a\nrequire ( ", ")"}, {"module a\nrequire (", "// c"}, {"module a\nrequire (", "/"}, {"module a\nrequire (", "("},
	{"module a\nrequire ( ", "("}, {"module a\nrequire (", "\r\n"},
	{"module a\nrequire (\n)", ")"}, {"module a\nrequire (\n) ", ")"}, {"module a\nrequire (\n)\n", ")"},
	{"module a\nrequire (\nb v1.0.0\n)\n\n// c\n\t", ")"}, {"module a\n", ")"}, {"module a\ngo 1.21\n", ")"}, {"module a\n", "("},
	{"module a\nrequire (\n", "("}, {"module a\nrequire (\n ", "(\n)"}, {"module a\nrequire (\nrequire ", "("}, {"module a\nrequire (\nrequire ", "(\n)\n)"},
	{"module a\nrequire (\nrequire ", "b v1.0.0"}, {"module a\nrequire (\nrequire", "("}, {"module a\nrequire (\nmodule ", "b"},
	{"module a\nrequire (\nb ", "("}, {"module a\nrequire (\nb v1.0.0 ", "("},
	{"module a\nrequire (\n)", "b v1.0.0"}, {"module a\nrequire (\n) ", "b"}, {"module a\nrequire (\n)", "// c"}, {"module a\nrequire (\n)", "/"},
	{"module a\nrequire (\n) ", "("}, {"module a\nrequire (\n)", "("}, {"module a\nrequire (\n)", "\r\n"}, {"module a\nrequire (\n)", "\""},
	{"module a\nrequire (\n) ", "require (\n)"}, {"module a\nrequire (\n) /", "\n"},
	{"module a\nrequire (\nb v1.0.0", ")"}, {"module a\nrequire (\nb v1.0.0 ", ")"}, {"module a\nrequire (\nb", ")"}, {"module a\nrequire (\nb ", ")"},
	{"module a\nrequire (\nb ", "// c"}, {"module a\nrequire (\nb v1.0.0", "// c"}, {"module a\nrequire (\nb v1.0.0", "\r\n"},
	{"module a\nrequire (\nb v1.0.0-01", "\n)"}, {"module a\nrequire (\n\"b\"", "v1.0.0"}, {"module a\nrequire (\n\"b\"", "\n"},
	{"module a\nrequire (\n\"", "\" v1.0.0"}, {"module a\nrequire (\n\"b", " c\" v1.0.0"}, {"module a\nrequire (\n/", "b"},
	{"module a\nrequire (\n/", "\n)"}, {"module a\nrequire (\n", ".b v1.0.0"}, {"module a\nrequire (\n// )\n", "\x00"},
	{"module a\nrequire (\n)\n", "b v1.0.0"}, {"module a\nrequire (\n", "\r\n)"}, {"module a\nrequire (\ngo", "\n"},
}

// show is a text, cut where it is too long to be shown.
func show(s string) string {
	if len(s) > 100 {
		return s[:50] + ".." + s[len(s)-40:]
	}
	return s
}

// is holds Judge of a text against what it must answer.
func is(t *testing.T, s string, n int, e api.Errno) {
	t.Helper()
	if gotN, gotE := grammar.Judge(s); gotN != n || gotE != e {
		t.Errorf("Judge(%q): %d, %d, not %d, %d", show(s), gotN, gotE, n, e)
	}
}

// agrees holds Judge of a text against the definition.
func agrees(t *testing.T, s string) {
	t.Helper()
	n, e := judge(s)
	is(t, s, n, e)
}

// mends holds Rest of a text against what Judge says of it, and of what is one octet shorter than what does not live.
func mends(t *testing.T, s string) {
	t.Helper()
	n, e := grammar.Judge(s)
	rest, restE := grammar.Rest(s)
	if e == api.ErrSyntax {
		if rest != "" || restE != api.ErrSyntax {
			t.Errorf("Rest(%q): %q, %d", show(s), show(rest), restE)
		}
		s = s[:n-1]
		rest, restE = grammar.Rest(s)
	}
	if restE != api.OK || (rest == "") != manifest(s) || !manifest(s+rest) {
		t.Errorf("Rest(%q): %q, %d", show(s), show(rest), restE)
	}
	is(t, s+rest, 0, api.OK)
}

// each asks f about each text of n octets or fewer of some, behind a beginning.
func each(begin, octets string, n int, f func(s string)) {
	f(begin)
	for i := range len(octets) {
		if n > 0 {
			each(begin+octets[i:i+1], octets, n-1, f)
		}
	}
}

// chance gives texts that are of the tables with a few octets, or pieces, put in, changed, or taken out.
func chance(n int, f func(s string)) {
	r := rand.New(rand.NewSource(71))
	all := slices.Concat(manifests, truncated)
	pieces := []string{
		"module", "go", "require", "a", "b/c", "\"b\"", "v1.0.0", "1.21", "(", ")", "//", "/", "\"", " ", "\t", "\n", "\n\n", " // c\n", "\nrequire (\n", "\n)\n",
		"\nrequire b v1.0.0\n", "\ngo 1.21\n", "0", "1", ".", "-", "\r", "\x00", "\xff", "x", "module a\n",
	}
	for range n {
		s := all[r.Intn(len(all))]
		for range r.Intn(4) {
			i := r.Intn(len(s) + 1)
			j := min(len(s), i+r.Intn(3))
			p := pieces[r.Intn(len(pieces))]
			switch r.Intn(3) {
			case 0:
				s = s[:i] + p + s[i:]
			case 1:
				s = s[:i] + p + s[j:]
			case 2:
				s = s[:i] + s[j:]
			}
		}
		f(s)
	}
}

// places are the beginnings of a text.
func places(s string) []string {
	var l []string
	for i := range len(s) + 1 {
		l = append(l, s[:i])
	}
	return l
}

// TestTables holds the tests' own lists against the definition.
func TestTables(t *testing.T) {
	for _, s := range manifests {
		if !manifest(s) {
			t.Errorf("%q is no manifest", s)
		}
	}
	for _, s := range truncated {
		if manifest(s) || !lives(s) {
			t.Errorf("%q is one, or does not live", s)
		}
	}
	for _, c := range dead {
		if !lives(c.lives) || lives(c.lives+c.behind[:1]) {
			t.Errorf("%q and %q are cut elsewhere", c.lives, c.behind)
		}
	}
}

// P7.1

func TestExamples(t *testing.T) {
	is(t, "module a", 0, api.OK)
	is(t, "mox", 3, api.ErrSyntax)
	is(t, "module a\nrequire (", 18, api.ErrTruncated)
}

func TestManifests(t *testing.T) {
	for _, s := range manifests {
		is(t, s, 0, api.OK)
	}
}

func TestTruncated(t *testing.T) {
	for _, s := range truncated {
		is(t, s, len(s), api.ErrTruncated)
	}
}

func TestDead(t *testing.T) {
	for _, c := range dead {
		is(t, c.lives+c.behind, len(c.lives)+1, api.ErrSyntax)
		is(t, c.lives+c.behind[:1], len(c.lives)+1, api.ErrSyntax)
		// What is behind that plays no part, be it a manifest.
		is(t, c.lives+c.behind+"\nmodule a\n", len(c.lives)+1, api.ErrSyntax)
		n, e := grammar.Judge(c.lives)
		if manifest(c.lives) && (n != 0 || e != api.OK) || !manifest(c.lives) && (n != len(c.lives) || e != api.ErrTruncated) {
			t.Errorf("Judge(%q): %d, %d", c.lives, n, e)
		}
	}
}

func TestAllOctets(t *testing.T) {
	// Each kind of place is in these.
	for _, s := range []string{
		"\n // c\n \tmodule a.b/c // d\n\ngo 1.21.0 \nrequire b v1.0.0-01a.b // e\n",
		"module \"a\" \ngo 10.0\n\trequire \"b.c\"\tv0.10.0\n",
		"module a\nrequire ( // c\n\n \tb/c v1.0.0-0.a \n\"d\"  v1.2.3 // e\n // f\n ) \n\nrequire (\n)",
	} {
		t.Run("", func(t *testing.T) {
			t.Parallel()
			for _, p := range places(s) {
				for c := range 256 {
					agrees(t, p+string([]byte{byte(c)}))
				}
			}
		})
	}
}

func TestShort(t *testing.T) {
	for _, c := range []struct {
		octets string
		n      int
		begins []string
	}{
		{"module a\n/\".", 3, []string{"", "module", "// c", "\t", "modul"}},
		{"a/ \n\".()", 4, []string{"module a", "module \"a", "module ", "module a\nrequire b", "module a\nrequire \"b", "module a\nrequire "}},
		{"grm)( \n/", 4, []string{"module a\n", "module a\ngo 1.21\n", "module a\nrequire (\n", "module a\nrequire (\n)\n"}},
		{"01. \n/)", 4, []string{"module a\ngo", "module a\ngo ", "module a\ngo 1.2", "module a\nrequire (\ngo "}},
		{"01.-a\n/)", 4, []string{"module a\nrequire b v1.0.", "module a\nrequire (\nb v1.0.0-"}},
		{"()/ \n\"b", 4, []string{"module a\nrequire (", "module a\nrequire (\n", "module a\nrequire (\n)", "module a\nrequire (\nrequire "}},
	} {
		for _, s := range c.begins {
			t.Run("", func(t *testing.T) {
				t.Parallel()
				each(s, c.octets, c.n, func(s string) { agrees(t, s) })
			})
		}
	}
}

func TestChance(t *testing.T) {
	chance(5000, func(s string) { agrees(t, s) })
}

// long are texts of many octets, or lines, that are manifests.
var long = []string{
	"module " + strings.Repeat("a", many),
	"module \"" + strings.Repeat("a/", many) + "a\"",
	"module a" + strings.Repeat(".", many) + "a",
	strings.Repeat("\n", many) + "module a",
	strings.Repeat(" ", many) + "module" + strings.Repeat("\t", many) + "a" + strings.Repeat(" ", many),
	"module a // " + strings.Repeat("/", many),
	strings.Repeat("// c\n", many) + "module a",
	"module a\ngo 1" + strings.Repeat("0", many) + ".2" + strings.Repeat("1", many) + ".0",
	"module a\n" + strings.Repeat("require b v1.0.0\n", many/10),
	"module a\nrequire (\n" + strings.Repeat("\tb v1.0.0 // c\n", many/10) + ")",
	"module a\n" + strings.Repeat("require (\n)\n", many/10),
	"module a\nrequire b v1.0.0-" + strings.Repeat("0", many) + "a",
	"module a\nrequire b v1.0.0-" + strings.Repeat("0.", many) + "0",
}

func TestLong(t *testing.T) {
	for _, s := range long {
		is(t, s, 0, api.OK)
		is(t, s+"\nx", len(s)+2, api.ErrSyntax)
		is(t, s+"\n/", len(s)+2, api.ErrTruncated)
		mends(t, s)
		mends(t, s+"\nx")
		mends(t, s+"\n/")
	}
	s := "module a\nrequire (\n" + strings.Repeat("b v1.0.0\n", many/10)
	is(t, s, len(s), api.ErrTruncated)
	is(t, s+"b v1.0.0-"+strings.Repeat("0", many)+"\n", len(s)+9+many+1, api.ErrSyntax)
	mends(t, s)
}

// P7.2

func TestRestOfManifests(t *testing.T) {
	for _, s := range manifests {
		if rest, e := grammar.Rest(s); rest != "" || e != api.OK {
			t.Errorf("Rest(%q): %q, %d", s, rest, e)
		}
		for _, p := range places(s) {
			mends(t, p)
		}
	}
}

func TestRestOfTruncated(t *testing.T) {
	for _, s := range truncated {
		if rest, e := grammar.Rest(s); rest == "" || e != api.OK {
			t.Errorf("Rest(%q): %q, %d", s, rest, e)
		}
		mends(t, s)
	}
}

func TestRestOfDead(t *testing.T) {
	for _, c := range dead {
		for _, s := range []string{c.lives + c.behind[:1], c.lives + c.behind, c.lives + c.behind + "\nmodule a\n"} {
			if rest, e := grammar.Rest(s); rest != "" || e != api.ErrSyntax {
				t.Errorf("Rest(%q): %q, %d", s, rest, e)
			}
		}
		mends(t, c.lives)
	}
}

func TestRestChance(t *testing.T) {
	chance(20000, func(s string) { mends(t, s) })
}

func TestRestShort(t *testing.T) {
	for _, s := range []string{"", "module a\n", "module a\nrequire ", "module a\nrequire b v1.0.0-", "module a\nrequire (\n", "module a\ngo "} {
		each(s, "mgr01.av-/ \n\"()", 3, func(s string) { mends(t, s) })
	}
}

// P7.3

// lasts asks of each beginning of a text what Judge said of it: that it lives, up to the one that does not; and of those behind, the same.
func lasts(t *testing.T, s string) {
	t.Helper()
	n, e := grammar.Judge(s)
	for _, p := range places(s) {
		pn, pe := grammar.Judge(p)
		if pe == api.ErrSyntax && (e != api.ErrSyntax || pn != n) || (pe == api.ErrSyntax) != (e == api.ErrSyntax && len(p) >= n) {
			t.Errorf("Judge(%q): %d, %d, but of %q %d, %d", s, n, e, p, pn, pe)
		}
	}
}

func TestOctetByOctet(t *testing.T) {
	for _, s := range slices.Concat(manifests, truncated) {
		lasts(t, s)
	}
	for _, c := range dead {
		lasts(t, c.lives+c.behind+"\n // c\n")
	}
	chance(2000, func(s string) { lasts(t, s) })
}

func TestBehindManifests(t *testing.T) {
	ask := func(s string) {
		for _, b := range []string{"\n", "\n// c", "\n//", "\n \t// (\x00\xff\"", "\n\n", "\n// c\n", " ", "\n "} {
			is(t, s+b, 0, api.OK)
		}
	}
	for _, s := range manifests {
		// A space, a line's end, and comments behind these.
		ask(s)
	}
	chance(5000, func(s string) {
		if _, e := grammar.Judge(s); e == api.OK {
			ask(s)
		}
	})
}

// TestSameAgain: no order of questions, and nobody who asks at the same time, changes an answer.
func TestSameAgain(t *testing.T) {
	type answer struct {
		n    int
		e    api.Errno
		rest string
		r    api.Errno
	}
	ask := func(s string) answer {
		n, e := grammar.Judge(s)
		rest, r := grammar.Rest(s)
		return answer{n, e, rest, r}
	}
	var texts []string
	chance(3000, func(s string) { texts = append(texts, s) })
	var first []answer
	for _, s := range texts {
		first = append(first, ask(s))
	}
	var all sync.WaitGroup
	for range 4 {
		all.Go(func() {
			for i := len(texts) - 1; i >= 0; i-- {
				if a := ask(texts[i]); a != first[i] {
					t.Errorf("%q: %v, and then %v", texts[i], first[i], a)
				}
			}
		})
	}
	all.Wait()
}
