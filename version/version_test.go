package version_test

import (
	"cmp"
	"math/big"
	"math/rand"
	"regexp"
	"slices"
	"strings"
	"testing"

	"graftwood/api"
	"graftwood/version"
)

// many is how many digits a number of very many of them has here.
const many = 100000

// nines is a number of very many digits.
var nines = strings.Repeat("9", many)

// rising are versions in order, each another one; pairs and threes of them are gone through.
var rising = []string{
	"v0.0.0--", "v0.0.0", "v0.0.1", "v0.0.2", "v0.0.9", "v0.0.10", "v0.1.0", "v0.9.0", "v0.9.10", "v0.10.0", "v0.10.9",
	"v1.0.0-0", "v1.0.0-0.0", "v1.0.0-0.0.0", "v1.0.0-0.1", "v1.0.0-0.a", "v1.0.0-1", "v1.0.0-1.0", "v1.0.0-2",
	"v1.0.0-2.a", "v1.0.0-9", "v1.0.0-10", "v1.0.0-10.0", "v1.0.0-99", "v1.0.0-100", "v1.0.0-18446744073709551615",
	"v1.0.0-18446744073709551616", "v1.0.0-18446744073709551617", "v1.0.0-99999999999999999999",
	"v1.0.0-100000000000000000000", "v1.0.0--", "v1.0.0--.0", "v1.0.0---", "v1.0.0--1", "v1.0.0--2", "v1.0.0--a",
	"v1.0.0-0-", "v1.0.0-00-", "v1.0.0-00a", "v1.0.0-01a", "v1.0.0-0a", "v1.0.0-10a", "v1.0.0-1a", "v1.0.0-9a",
	"v1.0.0-A", "v1.0.0-A.0", "v1.0.0-A.a", "v1.0.0-RC", "v1.0.0-Z", "v1.0.0-a", "v1.0.0-a.0", "v1.0.0-a.0.0",
	"v1.0.0-a.2", "v1.0.0-a.10", "v1.0.0-a.-", "v1.0.0-a.a", "v1.0.0-a.a.0", "v1.0.0-a.b", "v1.0.0-a-", "v1.0.0-a-b",
	"v1.0.0-a0", "v1.0.0-a10", "v1.0.0-a2", "v1.0.0-aa", "v1.0.0-alpha", "v1.0.0-alpha.1", "v1.0.0-alpha.beta",
	"v1.0.0-b", "v1.0.0-beta.2", "v1.0.0-beta.11", "v1.0.0-rc.1", "v1.0.0-z", "v1.0.0", "v1.0.1-0", "v1.0.1", "v1.0.9",
	"v1.0.10-a", "v1.0.10", "v1.2.0-a", "v1.2.0", "v1.2.3", "v1.10.0-0", "v1.10.0", "v1.10.2", "v2.0.0-a.b.c.d.e.f",
	"v2.0.0-a.b.c.d.e.g", "v2.0.0", "v9.9.9", "v10.0.0-0", "v10.0.0", "v10.1.0", "v18446744073709551615.0.0",
	"v18446744073709551616.0.0", "v18446744073709551616.0.1", "v18446744073709551617.0.0", "v99999999999999999999.0.0",
	"v100000000000000000000.0.0",
}

// wrong are texts that are no version's.
var wrong = []string{
	"", "v", "vv", "V", "V1.2.3", "1.2.3", "v1", "v1.", "v1.2", "v1.2.", "v1.2.3.", "v1.2.3.4", "v.1.2.3", "v..", "v...",
	"v1..3", "v.2.3", "v1.2.-a", "v1.-2.3", "v-1.2.3", "v1-a.2.3", "v1.2-a.3", "v1.2-3", "v1-2-3", "v1-a", "v1.2-a", "v-",
	"v--", "-", ".", "..", "v1.2.3-", "v1.2.3-.", "v1.2.3-.a", "v1.2.3-a.", "v1.2.3-a..b", "v1.2.3-..", "v1.2.3-a.b.",
	"v01.2.3", "v1.02.3", "v1.2.03", "v00.0.0", "v0.00.0", "v0.0.00", "v1.2.3-00", "v1.2.3-01", "v1.2.3-007",
	"v1.2.3-a.01", "v1.2.3-01.a", "v1.2.3-a.00.b", "v1.2.3-" + strings.Repeat("0", many), "v1.2.3-0" + nines,
	"v1.2.3+b", "v1.2.3-a+b", "v1.2.3+", "v1.2.3_a", "v1.2.3~a", "v1.2.3/a", "v1.2.3-a_b", "v1.2.3-a~b", "v1.2.3-_",
	"v1.2.3-~", "v1.2.3-a/b", "v1.2.3-a b", "v1.2.3-a\tb", "v1.2.3-a\n", "v1.2.3\n", "v1.2.3 ", " v1.2.3", "\nv1.2.3",
	"v 1.2.3", "v1. 2.3", "v1.2.x", "vx.2.3", "v1.x.3", "va.b.c", "v1.2.3a", "v1.2.a3", "v+1.2.3", "v1.2.+3", "v0x1.2.3",
	"v1_0.2.3", "v1,2,3", "v1.2.3-\x00", "v1.2.3\x00", "v1.2.3-\xff", "v1.2.3-a\x80", "v1.2.3-é", "v1.2.3-٣", "v1.٣.3",
	"v１.2.3", "v1.2.3–a", "v1.2.3-a\"", "v1.2.3-(a)", "v1.2.3 v1.2.3", "v1.2.3v1.2.3", "vv1.2.3", "x1.2.3", "xv1.2.3",
	"v" + strings.Repeat("0", many) + ".0.0", "v0" + nines + ".0.0", "v" + nines, "v" + nines + "." + nines,
	strings.Repeat(".", many), "v" + strings.Repeat(".", many), "v1.2.3-" + strings.Repeat(".", many),
}

// sorts are one text of each sort of what may be in a version's place for a part.
var sorts = []string{
	"", "0", "1", "10", nines, "01", "00", "0a", "00a", "a", "Z", "-", "--", "-1", "1-", "a-b", ".", "a.b", "1.2", "1-a", "_",
	"a_b", "~", "+", "a+b", "/", " ", "1 ", " a", "\n", "a\n", "é", "\x00", "a\x00", "\xff", "v", "v1", "v1.2.3",
}

// short is a text, cut where it is too long to be shown.
func short(s string) string {
	if len(s) > 60 {
		return s[:60] + ".."
	}
	return s
}

// form is the chapter's words on what a version's text is, as a pattern.
func form() *regexp.Regexp {
	number := `(0|[1-9][0-9]*)`
	word := `(` + number + `|[0-9]*[A-Za-z-][0-9A-Za-z-]*)`
	return regexp.MustCompile(`\Av` + number + `\.` + number + `\.` + number + `(-` + word + `(\.` + word + `)*)?\z`)
}

// each calls f with each text of at most n octets out of octets.
func each(octets string, n int, f func(s string)) {
	var grow func(s string)
	grow = func(s string) {
		f(s)
		if len(s) < n {
			for _, c := range []byte(octets) {
				grow(s + string(c))
			}
		}
	}
	grow("")
}

// bigOf is a text's number, or nil.
func bigOf(s string) *big.Int {
	if s == "" || strings.Trim(s, "0123456789") != "" {
		return nil
	}
	n, _ := new(big.Int).SetString(s, 10)
	return n
}

// orderOf is the chapter's order of two versions, by numbers of any length.
func orderOf(a, b string) int {
	coreA, preA, moreA := strings.Cut(a[1:], "-")
	coreB, preB, moreB := strings.Cut(b[1:], "-")
	numbersB := strings.Split(coreB, ".")
	for i, n := range strings.Split(coreA, ".") {
		if c := bigOf(n).Cmp(bigOf(numbersB[i])); c != 0 {
			return c
		}
	}
	switch {
	case !moreA && !moreB:
		return 0
	case !moreA:
		return 1
	case !moreB:
		return -1
	}
	wordsA, wordsB := strings.Split(preA, "."), strings.Split(preB, ".")
	for i := range min(len(wordsA), len(wordsB)) {
		if c := orderOfWords(wordsA[i], wordsB[i]); c != 0 {
			return c
		}
	}
	return cmp.Compare(len(wordsA), len(wordsB))
}

// orderOfWords is the chapter's order of two words.
func orderOfWords(a, b string) int {
	m, n := bigOf(a), bigOf(b)
	switch {
	case m != nil && n != nil:
		return m.Cmp(n)
	case m != nil:
		return -1
	case n != nil:
		return 1
	}
	return strings.Compare(a, b)
}

// same tells whether two have the same parts.
func same(v, w api.Version) bool {
	return v.Major == w.Major && v.Minor == w.Minor && v.Patch == w.Patch && slices.Equal(v.Pre, w.Pre)
}

// ahead is what stands ahead of the word at place i.
func ahead(i int) string {
	if i == 0 {
		return "-"
	}
	return "."
}

// made are versions out of chance's parts, from one beginning.
func made(n int) []string {
	chance := rand.New(rand.NewSource(3))
	numbers := []string{"0", "1", "2", "9", "10", "11", "99", "100", "18446744073709551616"}
	words := append([]string{"a", "A", "b", "ab", "a-", "-", "--", "-1", "0a", "01a", "10a", "a1", "a10", "a2", "z", "Z"}, numbers...)
	l := make([]string, n)
	for i := range l {
		s := "v1." + numbers[chance.Intn(2)] + "." + numbers[chance.Intn(len(numbers))]
		for k := range chance.Intn(4) {
			s += ahead(k) + words[chance.Intn(len(words))]
		}
		l[i] = s
	}
	return l
}

// P3.1

func TestMayOfVersions(t *testing.T) {
	more := []string{
		"v1.2.3", "v0.0.0", "v0.0.0-0", "v1.0.0--", "v1.0.0---", "v1.0.0-00a", "v1.0.0-01a", "v1.0.0-0-", "v1.0.0-1-1",
		"v1.0.0-a.1.-.0", "v1.2.3-v1.2.3", "v10.20.30-x-y.7", "v1.2.3-ABCXYZabcxyz0123456789-", "v" + nines + ".0.0",
		"v0." + nines + ".0", "v0.0." + nines, "v0.0.0-" + nines, "v0.0.0-" + strings.Repeat("0", many) + "a",
		"v0.0.0-" + strings.Repeat("a.", many) + "a",
	}
	for _, s := range append(more, rising...) {
		if !version.May(s) {
			t.Errorf("May(%q): false", short(s))
		}
	}
}

func TestMayOfWrong(t *testing.T) {
	for _, s := range wrong {
		if version.May(s) {
			t.Errorf("May(%q): true", short(s))
		}
	}
}

func TestMayOfEachShortText(t *testing.T) {
	f := form()
	ask := func(s string) {
		if version.May(s) != f.MatchString(s) {
			t.Errorf("May(%q): %v", s, version.May(s))
		}
	}
	each("v01.-", 8, ask)
	each("v01a.-", 4, func(s string) { ask("v1.0.0" + s) })
	each("09aZ.-_~+", 4, func(s string) { ask("v1.0.0-" + s) })
	each("01a.-", 5, func(s string) { ask("v1." + s + ".0") })
}

func TestMayOfEachOctet(t *testing.T) {
	f := form()
	for c := range 256 {
		one := string([]byte{byte(c)})
		for _, s := range []string{
			one, one + "1.2.3", "v" + one + ".2.3", "v1" + one + "2.3", "v1.2" + one + ".3", "v1.2.3" + one, "v1.2.3" + one + "a",
			"v1.2.3-" + one, "v1.2.3-" + one + "a", "v1.2.3-a" + one, "v1.2.3-a" + one + "b", "v1.2.3-1" + one + "2",
			"v1.2.3-0" + one, "v1.2.3-a.0" + one,
		} {
			if version.May(s) != f.MatchString(s) {
				t.Errorf("May(%q): %v", s, version.May(s))
			}
		}
	}
}

func TestSplit(t *testing.T) {
	for _, c := range []struct {
		s    string
		want api.Version
	}{
		{"v1.2.3", api.Version{Major: "1", Minor: "2", Patch: "3"}},
		{"v0.0.0", api.Version{Major: "0", Minor: "0", Patch: "0"}},
		{"v10.200.3000", api.Version{Major: "10", Minor: "200", Patch: "3000"}},
		{"v1.2.3-a", api.Version{Major: "1", Minor: "2", Patch: "3", Pre: []string{"a"}}},
		{"v1.20.3-a-b.0.x", api.Version{Major: "1", Minor: "20", Patch: "3", Pre: []string{"a-b", "0", "x"}}},
		{"v1.2.3--", api.Version{Major: "1", Minor: "2", Patch: "3", Pre: []string{"-"}}},
		{"v1.2.3----.--", api.Version{Major: "1", Minor: "2", Patch: "3", Pre: []string{"---", "--"}}},
		{"v1.2.3--1.01a", api.Version{Major: "1", Minor: "2", Patch: "3", Pre: []string{"-1", "01a"}}},
		{"v1.2.3-v4.5.6-b", api.Version{Major: "1", Minor: "2", Patch: "3", Pre: []string{"v4", "5", "6-b"}}},
		{"v" + nines + ".1" + nines + ".2" + nines + "-" + nines, api.Version{
			Major: nines, Minor: "1" + nines, Patch: "2" + nines, Pre: []string{nines}}},
	} {
		if got, e := version.Split(c.s); !same(got, c.want) || e != api.OK {
			t.Errorf("Split(%s): %.60q, %d", short(c.s), got, e)
		}
	}
}

func TestSplitOfWrong(t *testing.T) {
	for _, s := range wrong {
		if got, e := version.Split(s); !same(got, api.Version{}) || got.Pre != nil || e != api.ErrArg {
			t.Errorf("Split(%q): %.60q, %d", short(s), got, e)
		}
	}
}

func TestJoin(t *testing.T) {
	for want, v := range map[string]api.Version{
		"v1.2.3":                      {Major: "1", Minor: "2", Patch: "3"},
		"v0.0.0":                      {Major: "0", Minor: "0", Patch: "0", Pre: []string{}},
		"v1.2.3-a":                    {Major: "1", Minor: "2", Patch: "3", Pre: []string{"a"}},
		"v1.20.3-a-b.0.x":             {Major: "1", Minor: "20", Patch: "3", Pre: []string{"a-b", "0", "x"}},
		"v1.2.3--.--.01a":             {Major: "1", Minor: "2", Patch: "3", Pre: []string{"-", "--", "01a"}},
		"v7.8." + nines + "-" + nines: {Major: "7", Minor: "8", Patch: nines, Pre: []string{nines}},
	} {
		if got, e := version.Join(v); got != want || e != api.OK {
			t.Errorf("Join of the parts of %s: %s, %d", short(want), short(got), e)
		}
	}
}

// joins holds Join against what its words say: parts whose text is a version's, and one of these parts.
func joins(t *testing.T, v api.Version) {
	t.Helper()
	text := "v" + v.Major + "." + v.Minor + "." + v.Patch
	for i, w := range v.Pre {
		text += ahead(i) + w
	}
	want, e := "", api.ErrArg
	if back, ok := version.Split(text); ok == api.OK && same(back, v) {
		want, e = text, api.OK
	}
	before := slices.Clone(v.Pre)
	if got, ge := version.Join(v); got != want || ge != e {
		t.Errorf("Join of the parts of %q: %q, %d", short(text), short(got), ge)
	}
	if !slices.Equal(v.Pre, before) {
		t.Errorf("Join changed the words: %.60q", v.Pre)
	}
}

func TestJoinOfEachSortOfParts(t *testing.T) {
	for _, x := range sorts {
		joins(t, api.Version{Major: x, Minor: "2", Patch: "3"})
		joins(t, api.Version{Major: "1", Minor: x, Patch: "3"})
		joins(t, api.Version{Major: "1", Minor: "2", Patch: x})
		joins(t, api.Version{Major: "1", Minor: "2", Patch: x, Pre: []string{"a"}})
		joins(t, api.Version{Major: "1", Minor: "2", Patch: "3", Pre: []string{x}})
		for _, y := range sorts {
			joins(t, api.Version{Major: "1", Minor: "2", Patch: "3", Pre: []string{x, y}})
			joins(t, api.Version{Major: x, Minor: y, Patch: "3", Pre: []string{"a"}})
			joins(t, api.Version{Major: "1", Minor: "2", Patch: x, Pre: []string{y}})
		}
	}
}

func TestJoinOfWrong(t *testing.T) {
	for i, v := range []api.Version{
		{}, {Pre: []string{"a"}}, {Major: "1"}, {Minor: "1"}, {Patch: "1"}, {Major: "1", Minor: "2"}, {Minor: "2", Patch: "3"},
		{Major: "01", Minor: "2", Patch: "3"}, {Major: "1", Minor: "02", Patch: "3"}, {Major: "1", Minor: "2", Patch: "03"},
		// The texts of these would be versions, though not of these parts.
		{Major: "1", Minor: "2", Patch: "3-a"},
		{Major: "1", Minor: "2", Patch: "3-a", Pre: []string{"b"}}, {Major: "1", Minor: "2", Patch: "3", Pre: []string{"a.b"}},
		{Major: "1", Minor: "2", Patch: "3", Pre: []string{"a", "b.0", "c"}}, {Major: "1.2", Minor: "3-a", Patch: "4"},
		{Major: "1", Minor: "2.3-a", Patch: "4"}, {Major: "1", Minor: "2.3-a", Patch: "b", Pre: []string{"c"}},
		{Major: "1.2.3-a", Minor: "b", Patch: "c"},
		// The texts of these would be none.
		{Major: "1", Minor: "2-a", Patch: "3"}, {Major: "1-a", Minor: "2", Patch: "3"},
		{Major: "1.1", Minor: "2", Patch: "3"}, {Major: "v1", Minor: "2", Patch: "3"}, {Major: "-1", Minor: "2", Patch: "3"},
		{Major: "1", Minor: "2", Patch: "3", Pre: []string{""}}, {Major: "1", Minor: "2", Patch: "3", Pre: []string{"a", ""}},
		{Major: "1", Minor: "2", Patch: "3", Pre: []string{"", "a"}}, {Major: "1", Minor: "2", Patch: "3", Pre: []string{"01"}},
		{Major: "1", Minor: "2", Patch: "3", Pre: []string{"a_b"}}, {Major: "1", Minor: "2", Patch: "3", Pre: []string{"a", "b", "~"}},
		{Major: "1", Minor: "2", Patch: "", Pre: []string{"a"}}, {Major: "1", Minor: "", Patch: "3", Pre: []string{"a"}},
	} {
		if got, e := version.Join(v); got != "" || e != api.ErrArg {
			t.Errorf("Join of wrong parts %d: %q, %d", i, got, e)
		}
	}
}

// P3.2

func TestCmp(t *testing.T) {
	for i, a := range rising {
		for j, b := range rising {
			if got, e := version.Cmp(a, b); got != cmp.Compare(i, j) || e != api.OK {
				t.Errorf("Cmp(%s, %s): %d, %d", a, b, got, e)
			}
		}
	}
}

func TestCmpOfManyDigits(t *testing.T) {
	less, noughts := nines[1:]+"8", strings.Repeat("0", many)
	up := []string{
		"v0.0.0-a." + less, "v0.0.0-a." + nines, "v0.0.0-a.1" + noughts, "v0.0.0-a.1" + noughts + "a", "v0.0." + less,
		"v0.0." + nines, "v0.0.1" + noughts, "v0." + less + ".0", "v0." + nines + ".0-0", "v0." + nines + ".0",
		"v0.1" + noughts + ".0", "v9.0.0", "v" + less + ".1.1", "v" + nines + ".0.0-" + nines, "v" + nines + ".0.0",
		"v1" + noughts + ".0.0",
	}
	for i, a := range up {
		for j, b := range up {
			if got, e := version.Cmp(a, b); got != cmp.Compare(i, j) || e != api.OK {
				t.Errorf("Cmp of %d and %d: %d, %d", i, j, got, e)
			}
		}
	}
}

func TestCmpOfManyWords(t *testing.T) {
	fewer := "v1.0.0-" + strings.Repeat("a.", many) + "a"
	for i, b := range []string{fewer + ".0", fewer + "a", fewer[:len(fewer)-1] + "b", "v1.0.0-b", "v1.0.0"} {
		if got, e := version.Cmp(fewer, b); got != -1 || e != api.OK {
			t.Errorf("Cmp of many words and %d: %d, %d", i, got, e)
		}
		if got, e := version.Cmp(b, fewer); got != 1 || e != api.OK {
			t.Errorf("Cmp of %d and many words: %d, %d", i, got, e)
		}
	}
}

func TestCmpOfWrong(t *testing.T) {
	for _, s := range wrong {
		for _, good := range []string{"v0.0.0", "v1.2.3", "v1.2.3-a", "v9.9.9"} {
			if got, e := version.Cmp(s, good); got != 0 || e != api.ErrArg {
				t.Errorf("Cmp(%q, %s): %d, %d", short(s), good, got, e)
			}
			if got, e := version.Cmp(good, s); got != 0 || e != api.ErrArg {
				t.Errorf("Cmp(%s, %q): %d, %d", good, short(s), got, e)
			}
		}
		for _, other := range []string{s, "", "1.2.3", "v1.2.3-01"} {
			if got, e := version.Cmp(s, other); got != 0 || e != api.ErrArg {
				t.Errorf("Cmp(%q, %q): %d, %d", short(s), other, got, e)
			}
		}
	}
}

func TestMax(t *testing.T) {
	for _, c := range []struct {
		l    []string
		want string
	}{
		{[]string{"v0.0.0-0"}, "v0.0.0-0"}, {[]string{"v1.2.3"}, "v1.2.3"}, {[]string{"v1.2.3", "v1.2.3"}, "v1.2.3"},
		{[]string{"v1.9.0", "v1.10.0"}, "v1.10.0"}, {[]string{"v1.10.0", "v1.9.0"}, "v1.10.0"},
		{[]string{"v1.0.0-a", "v1.0.0", "v0.9.9"}, "v1.0.0"}, {[]string{"v1.0.0-a", "v1.0.0-2", "v1.0.0-10"}, "v1.0.0-a"},
		{[]string{"v1.0.0-2", "v1.0.0-10", "v1.0.0-9"}, "v1.0.0-10"}, {[]string{"v1.0.0-a.0", "v1.0.0-a"}, "v1.0.0-a.0"},
		{[]string{"v1." + nines + ".0", "v1.1" + nines + ".0", "v1.2.0"}, "v1.1" + nines + ".0"},
	} {
		before := slices.Clone(c.l)
		if got, e := version.Max(c.l...); got != c.want || e != api.OK {
			t.Errorf("Max(%s): %s, %d", short(strings.Join(c.l, ", ")), short(got), e)
		}
		if !slices.Equal(c.l, before) {
			t.Errorf("Max changed its arguments: %.60q", c.l)
		}
	}
}

func TestMaxOfNone(t *testing.T) {
	for i, l := range [][]string{nil, {}, rising[:0]} {
		if got, e := version.Max(l...); got != "" || e != api.ErrNone {
			t.Errorf("Max of none %d: %q, %d", i, got, e)
		}
	}
}

func TestMaxOfWrong(t *testing.T) {
	for _, s := range wrong {
		for i, l := range [][]string{
			{s}, {s, s}, {s, "v1.0.0"}, {"v1.0.0", s}, {"v0.0.0-0", s, "v9.0.0"}, {"v9.0.0", s, "v0.0.0"}, {"v9.0.0", "v0.0.0", s},
		} {
			if got, e := version.Max(l...); got != "" || e != api.ErrArg {
				t.Errorf("Max of %q, %d: %q, %d", short(s), i, got, e)
			}
		}
	}
}

func TestMaxInWhateverOrder(t *testing.T) {
	chance := rand.New(rand.NewSource(1))
	for n := 1; n <= len(rising); n++ {
		l := slices.Clone(rising[:n])
		chance.Shuffle(n, func(i, j int) { l[i], l[j] = l[j], l[i] })
		if got, e := version.Max(l...); got != rising[n-1] || e != api.OK {
			t.Errorf("Max of the first %d: %s, %d", n, got, e)
		}
	}
}

// P3.3

func TestSameVersionIsSameText(t *testing.T) {
	l := made(400)
	for _, a := range l {
		for _, b := range l {
			got, e := version.Cmp(a, b)
			if e != api.OK || (got == 0) != (a == b) {
				t.Errorf("Cmp(%s, %s): %d, %d", a, b, got, e)
			}
		}
	}
}

func TestOrderIsThatOfTheWords(t *testing.T) {
	l := made(400)
	for _, a := range l {
		for _, b := range l {
			if got, e := version.Cmp(a, b); got != orderOf(a, b) || e != api.OK {
				t.Errorf("Cmp(%s, %s): %d, %d, not %d", a, b, got, e, orderOf(a, b))
			}
		}
	}
}

func TestOrderGoesOneWayAmongThree(t *testing.T) {
	l := append(made(60), rising...)
	held := map[[2]string]int{}
	for _, a := range l {
		for _, b := range l {
			held[[2]string{a, b}], _ = version.Cmp(a, b)
		}
	}
	for _, a := range l {
		for _, b := range l {
			if held[[2]string{a, b}] != -held[[2]string{b, a}] {
				t.Errorf("Cmp of %s and %s, turned about: %d, %d", a, b, held[[2]string{a, b}], held[[2]string{b, a}])
			}
			for _, c := range l {
				if held[[2]string{a, b}] <= 0 && held[[2]string{b, c}] <= 0 && held[[2]string{a, c}] > 0 {
					t.Errorf("order goes round: %s, %s, %s", a, b, c)
				}
			}
		}
	}
}

func TestMaxIsBehindNone(t *testing.T) {
	l := made(300)
	for n := 1; n <= len(l); n++ {
		last, e := version.Max(l[:n]...)
		if e != api.OK || !slices.Contains(l[:n], last) {
			t.Fatalf("Max of the first %d: %s, %d", n, last, e)
		}
		for _, s := range l[:n] {
			if c, _ := version.Cmp(last, s); c < 0 {
				t.Errorf("Max of the first %d: %s, which comes ahead of %s", n, last, s)
			}
		}
	}
}

func TestSplitIsJoinedAgain(t *testing.T) {
	check := func(s string) {
		v, e := version.Split(s)
		back, eb := version.Join(v)
		if e == api.OK && (back != s || eb != api.OK) || e != api.OK && (back != "" || eb != api.ErrArg) {
			t.Errorf("%q, split and joined: %q, %d, %d", short(s), short(back), e, eb)
		}
	}
	for _, l := range [][]string{rising, wrong, made(400), {"v" + nines + ".0." + nines + "-" + nines + ".a." + nines}} {
		for _, s := range l {
			check(s)
		}
	}
	each("0a.-", 6, func(s string) { check("v1.0.0" + s) })
}

func TestSplitAnswersNewWords(t *testing.T) {
	v, _ := version.Split("v1.2.3-a.b")
	w, _ := version.Split("v1.2.3-a.b")
	v.Pre[0] = "x"
	if again, _ := version.Split("v1.2.3-a.b"); w.Pre[0] != "a" || again.Pre[0] != "a" {
		t.Errorf("one answer's words are another one's: %q, %q", w.Pre, again.Pre)
	}
}
