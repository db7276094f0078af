package octet_test

import (
	"math"
	"slices"
	"strings"
	"testing"

	"graftwood/api"
	"graftwood/octet"
)

// classOf is the chapter's list of classes, bound by bound.
func classOf(c int) int {
	switch {
	case c >= 48 && c <= 57:
		return api.DigitC
	case c >= 65 && c <= 90, c >= 97 && c <= 122:
		return api.LetterC
	case c == 45, c == 46, c == 95, c == 126:
		return api.MarkC
	case c == 47:
		return api.SlashC
	case c == 32, c == 9:
		return api.SpaceC
	case c == 10:
		return api.LineC
	case c == 34:
		return api.QuoteC
	case c == 40:
		return api.OpenC
	case c == 41:
		return api.ShutC
	}
	return api.OtherC
}

// allClasses are the classes that there are.
var allClasses = []int{
	api.OtherC, api.DigitC, api.LetterC, api.MarkC, api.SlashC,
	api.SpaceC, api.LineC, api.QuoteC, api.OpenC, api.ShutC,
}

// noClasses are numbers that are no class, beside the bounds, and far off; some are one modulo 256.
var noClasses = []int{-1, 10, 11, 99, 255, 256, 257, 258, -254, -256, math.MinInt, math.MaxInt}

// texts are what is held against one another: each pair of them is gone through.
var texts = []string{
	"", "a", "b", "ab", "abc", "abd", "ac", "A", "Z", "\x00", "\x00\x00", "a\x00", "\x7f", "\x80", "\xff", "\xff\xff",
	"a\xff", "é", "v1.9.0", "v1.10.0", "/", "//", "a/b", strings.Repeat("a", 300), strings.Repeat("a", 300) + "b",
}

// P1.1

func TestClassOfEachOctet(t *testing.T) {
	for c := range 256 {
		if got := octet.Class(byte(c)); got != classOf(c) {
			t.Errorf("Class(%d): %d, not %d", c, got, classOf(c))
		}
	}
}

func TestClassBesideBounds(t *testing.T) {
	for c, want := range map[byte]int{
		8: 0, 9: 5, 10: 6, 11: 0, 13: 0, 31: 0, 32: 5, 33: 0, 34: 7, 35: 0, 39: 0, 40: 8, 41: 9, 42: 0, 43: 0, 44: 0,
		45: 3, 46: 3, 47: 4, 48: 1, 57: 1, 58: 0, 64: 0, 65: 2, 90: 2, 91: 0, 94: 0, 95: 3, 96: 0, 97: 2, 122: 2,
		123: 0, 125: 0, 126: 3, 127: 0, 128: 0, 255: 0, 0: 0,
	} {
		if got := octet.Class(c); got != want {
			t.Errorf("Class(%d): %d, not %d", c, got, want)
		}
	}
}

func TestInOneClass(t *testing.T) {
	for c := range 256 {
		for _, k := range allClasses {
			if got := octet.In(byte(c), k); got != (classOf(c) == k) {
				t.Errorf("In(%d, %d): %v", c, k, got)
			}
		}
	}
}

func TestInSeveralClasses(t *testing.T) {
	for _, c := range []struct {
		c       byte
		classes []int
		want    bool
	}{
		{'a', []int{api.DigitC, api.LetterC}, true},
		{'a', []int{api.LetterC, api.DigitC}, true},
		{'a', []int{api.LetterC, api.LetterC}, true},
		{'a', []int{api.DigitC, api.MarkC}, false},
		{'+', []int{api.OtherC}, true},
		{'+', []int{api.DigitC, api.LetterC}, false},
		{'a', append([]int{api.LetterC}, noClasses...), true},
		{'a', append(slices.Clone(noClasses), api.LetterC), true},
	} {
		if got := octet.In(c.c, c.classes...); got != c.want {
			t.Errorf("In(%q, %v): %v", c.c, c.classes, got)
		}
	}
}

func TestInNoClasses(t *testing.T) {
	for c := range 256 {
		if octet.In(byte(c)) || octet.In(byte(c), []int{}...) {
			t.Errorf("In(%d) of no classes", c)
		}
		if octet.In(byte(c), noClasses...) {
			t.Errorf("In(%d) of classes that there are not", c)
		}
	}
}

func TestAll(t *testing.T) {
	for _, c := range []struct {
		s       string
		classes []int
		want    bool
	}{
		{"", nil, true},
		{"", []int{}, true},
		{"", noClasses, true},
		{"", []int{api.DigitC}, true},
		{"a", nil, false},
		{"+", nil, false},
		{"\x00", nil, false},
		{"a", noClasses, false},
		{"+", noClasses, false},
		{"+\x00\xff", []int{api.OtherC}, true},
		{"é", []int{api.OtherC}, true},
		{"a1b2", []int{api.DigitC, api.LetterC}, true},
		{"a1b2", []int{api.LetterC, api.DigitC, api.DigitC}, true},
		{"a1b2", append([]int{api.DigitC, api.LetterC}, noClasses...), true},
		{"a1b2", append(slices.Clone(noClasses), api.DigitC, api.LetterC), true},
		{"a1b2", []int{api.DigitC}, false},
		{" a1", []int{api.DigitC, api.LetterC}, false},
		{"a 1", []int{api.DigitC, api.LetterC}, false},
		{"a1 ", []int{api.DigitC, api.LetterC}, false},
		{"0123456789", []int{api.DigitC}, true},
		{"-._~", []int{api.MarkC}, true},
		{"/ \t\n\"()", []int{api.SlashC, api.SpaceC, api.LineC, api.QuoteC, api.OpenC, api.ShutC}, true},
	} {
		if got := octet.All(c.s, c.classes...); got != c.want {
			t.Errorf("All(%q, %v): %v", c.s, c.classes, got)
		}
	}
}

func TestAllIsInOfEach(t *testing.T) {
	for c := range 256 {
		s := string([]byte{byte(c)})
		for _, k := range append(slices.Clone(allClasses), noClasses...) {
			if octet.All(s, k) != octet.In(byte(c), k) {
				t.Errorf("All(%q, %d): %v", s, k, octet.All(s, k))
			}
		}
		if !octet.All(s, allClasses...) {
			t.Errorf("All(%q) of all classes", s)
		}
	}
}

func TestClassesStayAsTheyAre(t *testing.T) {
	l := []int{api.ShutC, 77, api.LetterC, -1, api.LetterC}
	was := slices.Clone(l)
	octet.In('a', l...)
	octet.All("a b", l...)
	if !slices.Equal(l, was) {
		t.Errorf("classes were changed: %v", l)
	}
}

// P1.2

// cmpOf tells by numbers, octet by octet, which text comes ahead.
func cmpOf(a, b string) int { return slices.Compare([]byte(a), []byte(b)) }

func TestCmp(t *testing.T) {
	for _, c := range []struct {
		a, b string
		want int
	}{
		{"", "", 0}, {"", "a", -1}, {"a", "", 1}, {"", "\x00", -1}, {"ab", "abc", -1}, {"abc", "ab", 1}, {"ab", "ab", 0},
		{"abd", "abc", 1}, {"abz", "ac", -1}, {"\xff", "a", 1}, {"\x7f", "\x80", -1}, {"Z", "a", -1}, {"a", "A", 1},
		{"v1.10.0", "v1.9.0", -1}, {"b", "aa", 1}, {"a", "a\x00", -1}, {"é", "z", 1},
	} {
		if got := octet.Cmp(c.a, c.b); got != c.want {
			t.Errorf("Cmp(%q, %q): %d", c.a, c.b, got)
		}
	}
	for _, a := range texts {
		for _, b := range texts {
			if got := octet.Cmp(a, b); got != cmpOf(a, b) {
				t.Errorf("Cmp(%q, %q): %d", a, b, got)
			}
		}
	}
}

func TestCommon(t *testing.T) {
	for _, c := range []struct {
		a, b string
		want int
	}{
		{"", "", 0}, {"", "a", 0}, {"a", "", 0}, {"a", "a", 1}, {"ab", "abc", 2}, {"abc", "ab", 2}, {"abc", "abd", 2},
		{"abc", "xbc", 0}, {"axc", "abc", 1}, {"a\x00", "a\x00\x00", 2}, {"é", "è", 1}, {"\xff", "\xfe", 0},
		{strings.Repeat("a", 300), strings.Repeat("a", 299) + "b", 299},
	} {
		if got := octet.Common(c.a, c.b); got != c.want {
			t.Errorf("Common(%q, %q): %d", c.a, c.b, got)
		}
	}
}

func TestCommonIsTheMost(t *testing.T) {
	for _, a := range texts {
		for _, b := range texts {
			n := octet.Common(a, b)
			if n < 0 || n > len(a) || n > len(b) || a[:n] != b[:n] {
				t.Fatalf("Common(%q, %q): %d", a, b, n)
			}
			if n < len(a) && n < len(b) && a[n] == b[n] {
				t.Errorf("Common(%q, %q): %d is too few", a, b, n)
			}
		}
	}
}

func TestParts(t *testing.T) {
	for _, c := range []struct {
		s    string
		sep  byte
		want []string
	}{
		{"", '/', []string{""}},
		{"a", '/', []string{"a"}},
		{"/", '/', []string{"", ""}},
		{"//", '/', []string{"", "", ""}},
		{"a//b", '/', []string{"a", "", "b"}},
		{"/a", '/', []string{"", "a"}},
		{"a/", '/', []string{"a", ""}},
		{"a/b//", '/', []string{"a", "b", "", ""}},
		{"a/b.c", '.', []string{"a/b", "c"}},
		{"a\x00b", 0, []string{"a", "b"}},
		{"a\xffb\xff", 0xff, []string{"a", "b", ""}},
		{"\xc3\xa9", 0xa9, []string{"\xc3", ""}},
		{"\xc3\xa9", 0xc3, []string{"", "\xa9"}},
		{"\ufffd", 0xff, []string{"\ufffd"}},
		{"one\ntwo", '\n', []string{"one", "two"}},
	} {
		if got := octet.Parts(c.s, c.sep); !slices.Equal(got, c.want) {
			t.Errorf("Parts(%q, %q): %q", c.s, c.sep, got)
		}
	}
}

// P1.3

func TestEachOctetHasOneClass(t *testing.T) {
	for c := range 256 {
		n := 0
		for _, k := range allClasses {
			if octet.In(byte(c), k) {
				n++
			}
		}
		if n != 1 {
			t.Errorf("octet %d is of %d classes", c, n)
		}
	}
}

func TestPartsPutTogether(t *testing.T) {
	for _, s := range texts {
		for sep := range 256 {
			one := string([]byte{byte(sep)})
			l := octet.Parts(s, byte(sep))
			if strings.Join(l, one) != s || len(l) != strings.Count(s, one)+1 {
				t.Errorf("Parts(%q, %q): %q", s, one, l)
			}
			for _, p := range l {
				if strings.IndexByte(p, byte(sep)) >= 0 {
					t.Errorf("Parts(%q, %q): a part has sep: %q", s, one, p)
				}
			}
		}
	}
}

func TestOrder(t *testing.T) {
	for _, a := range texts {
		for _, b := range texts {
			ab := octet.Cmp(a, b)
			if ab != -octet.Cmp(b, a) || (ab == 0) != (a == b) {
				t.Errorf("Cmp(%q, %q): %d, turned about %d", a, b, ab, octet.Cmp(b, a))
			}
			for _, c := range texts {
				if ab <= 0 && octet.Cmp(b, c) <= 0 && octet.Cmp(a, c) > 0 {
					t.Errorf("order goes round: %q, %q, %q", a, b, c)
				}
			}
		}
	}
}

func TestOrderIsThatOfNoQuestions(t *testing.T) {
	up, down := slices.Clone(texts), slices.Clone(texts)
	slices.Reverse(down)
	slices.SortFunc(up, octet.Cmp)
	slices.SortFunc(down, octet.Cmp)
	if !slices.Equal(up, down) {
		t.Errorf("sorted from two beginnings: %q, %q", up, down)
	}
}
