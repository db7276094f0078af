package word_test

import (
	"math"
	"math/rand"
	"regexp"
	"slices"
	"strings"
	"sync"
	"testing"

	"graftwood/api"
	"graftwood/path"
	"graftwood/version"
	"graftwood/word"
)

// many is how many octets there are where there are very many of them here.
const many = 20000

// kinds are the kinds that there are.
var kinds = []int{api.PathW, api.VersionW, api.GoW}

// names are theirs.
var names = []string{"path", "version", "go"}

// noKinds are kinds that there are not, some of them those of an octet's value, or of a kind's when they are cut.
var noKinds = []int{-1, -2, -3, -100, math.MinInt, math.MinInt + 1, 3, 4, 7, 99, 100, 255, 256, 257, 258, 1 << 32, 1<<32 + 1, 1<<32 + 2, math.MaxInt}

// noStates are states that no kind has.
var noStates = []int{-1, -2, -3, -14, -100, -256, math.MinInt, math.MinInt + 1, 100, 101, 127, 128, 255, 256, 257, 1000, 1 << 32, 1<<32 + 1, math.MaxInt}

// wholes tell words of each kind by their pattern, written out, not by a layer below.
var wholes = []*regexp.Regexp{
	regexp.MustCompile(`^[0-9A-Za-z_~-]([0-9A-Za-z._~-]*[0-9A-Za-z_~-])?(/[0-9A-Za-z_~-]([0-9A-Za-z._~-]*[0-9A-Za-z_~-])?)*\z`),
	regexp.MustCompile(`^v(0|[1-9][0-9]*)\.(0|[1-9][0-9]*)\.(0|[1-9][0-9]*)` +
		`(-(0|[1-9][0-9]*|[0-9]*[A-Za-z-][0-9A-Za-z-]*)(\.(0|[1-9][0-9]*|[0-9]*[A-Za-z-][0-9A-Za-z-]*))*)?\z`),
	regexp.MustCompile(`^(0|[1-9][0-9]*)\.(0|[1-9][0-9]*)(\.(0|[1-9][0-9]*))?\z`),
}

// behind are texts of each kind one of which, behind any text that lives, makes it a word.
var behind = [][]string{
	{"", "a"},
	{"", "0", ".0", "0.0", ".0.0", "0.0.0", "v0.0.0", "a"},
	{"", "0", ".0", "0.0"},
}

// octets are some of each kind that tell places apart, and some that have no place in a word.
var octets = []string{"aZ09.-_~/ ", "v0190aZ.-_/", "0129.-va/"}

// begins are texts that live, from which all short texts are looked at.
var begins = [][]string{
	{"", "a", "a/", "a.b", "golang.org/x/", "a..", "-", "~/_"},
	{"", "v", "v0.", "v10", "v0.0.", "v1.20.30", "v0.0.0-", "v1.2.3-a.", "v1.2.3-0", "v1.2.3-rc.0", "v1.2.3-01", "v1.2.3-9", "v0.0.0---"},
	{"", "1", "0", "10.", "1.21", "1.0.", "1.21.0", "0.0.0", "1.21.1"},
}

// words are words of each kind.
var words = [][]string{
	{
		"a", "Z", "0", "9", "-", "_", "~", "ab", "a.b", "a..b", "a...b", "a/b", "a/b/c", "a.b/c.d", "golang.org/x/mod", "-/-", "~/_",
		"gopkg.in/yaml.v3", "v1.0.0", "1.21", "007", "a.0", "0.a", "a-.b", "a.-b", "A/B", "example.com/~u/p_q-r.s", "-.-", "a/b..c/d",
		"__.__", "1/2/3/4/5/6/7/8/9/0", strings.Repeat("a", many), strings.Repeat("a/", many) + "a", "a" + strings.Repeat(".", many) + "a",
	},
	{
		"v0.0.0", "v1.0.0", "v1.20.3", "v10.20.30", "v0.0.10", "v9.9.9", "v100.0.0", "v1.0.0-a", "v1.0.0-0", "v1.0.0-9", "v1.0.0-10",
		"v1.0.0-a.b", "v1.0.0-0.0", "v1.0.0-rc.1", "v1.0.0-01a", "v1.0.0-01a.x", "v1.0.0-00-", "v1.0.0--", "v1.0.0---", "v1.0.0--.-",
		"v1.0.0-0a", "v1.0.0-0-", "v1.0.0-0.a.0.b", "v1.0.0-Z", "v1.0.0-a-b", "v1.0.0-1a", "v1.0.0-1-", "v1.0.0-v1.0.0",
		"v0.0.0-20261118123456-0123456789ab", "v1.0.0-a0", "v1.0.0-a00.b00", "v1.0.0-1.01x", "v1.0.0-0-1.10", "v1.0.0--0",
		"v" + strings.Repeat("9", many) + ".0." + strings.Repeat("1", many), "v1.0.0-" + strings.Repeat("0", many) + "a",
		"v1.0.0-" + strings.Repeat("0.", many) + "0", "v1.0.0-" + strings.Repeat("-", many) + ".1" + strings.Repeat("0", many),
	},
	{
		"1.21", "1.21.0", "0.0", "0.0.0", "1.0", "10.10.10", "1.2", "1.20.30", "9.9", "0.1", "1.0.1", "100.200.300", "0.10.0",
		strings.Repeat("9", many) + ".0", "1." + strings.Repeat("1", many) + "." + strings.Repeat("2", many), "0.0.1" + strings.Repeat("0", many),
	},
}

// live are texts that are no words, and how much of them lives.
var live = [][]struct {
	s string
	n int
}{
	{
		{"", 0}, {".", 0}, {"/", 0}, {"..", 0}, {"//", 0}, {" ", 0}, {"@", 0}, {"\n", 0}, {"\x00", 0}, {"é", 0}, {"\xff", 0}, {"\"a\"", 0}, {"(", 0},
		{".a", 0}, {"/a", 0}, {"./a", 0}, {"../a", 0}, {"...a", 0}, {"a.", 2}, {"a..", 3}, {"a/", 2}, {"a./b", 2}, {"a../b", 3}, {"a/.b", 2}, {"a/./b", 2},
		{"a/../b", 2}, {"a//b", 2}, {"a//", 2}, {"a///b", 2}, {"a/b.", 4}, {"a/b/", 4}, {"a/b./c", 4}, {"a/b/.c", 4}, {"a.b..", 5}, {"a..b.", 5},
		{"a b", 1}, {"a\tb", 1}, {"a\n", 1}, {"a@v1.0.0", 1}, {"a\"", 1}, {"a(", 1}, {"a+b", 1}, {"a,b", 1}, {"a:b", 1}, {"a\\b", 1}, {"aé", 1},
		{"a/é", 2}, {"a\xff", 1}, {"a\x00", 1}, {"ａ", 0}, {"a.é", 2}, {"a . b", 1}, {"a.b c.d", 3}, {"a/b.c//", 6},
		{strings.Repeat("a/", many), 2 * many}, {strings.Repeat("a/", many) + ".", 2 * many}, {"a" + strings.Repeat(".", many), many + 1},
		{"a" + strings.Repeat(".", many) + "/a", many + 1}, {"/" + strings.Repeat("a", many), 0}, {strings.Repeat("a", many) + " a", many},
	},
	{
		{"", 0}, {"v", 1}, {"V1.0.0", 0}, {"1.0.0", 0}, {" v1.0.0", 0}, {"-", 0}, {"vv1.0.0", 1}, {"v.0.0", 1}, {"v-1.0.0", 1}, {"v1", 2}, {"v1.", 3},
		{"v1.0", 4}, {"v1.0.", 5}, {"v1..0", 3}, {"v1.0..", 5}, {"v1-a", 2}, {"v1.0-a", 4}, {"v1.-", 3}, {"v1.0.-", 5}, {"va.0.0", 1}, {"v1.a.0", 3},
		{"v1.0.a", 5}, {"v1a.0.0", 2}, {"v1.0a.0", 4}, {"v1.0.0a", 6}, {"v00.0.0", 2}, {"v01.0.0", 2}, {"v0.00.0", 4}, {"v0.01.0", 4}, {"v0.0.00", 6},
		{"v0.0.01", 6}, {"v1.0.0.", 6}, {"v1.0.0.0", 6}, {"v1.0.0+a", 6}, {"v1.0.0-a+b", 8}, {"v1.0.0 ", 6}, {"v1.0.0\n", 6}, {"v1.0.0/", 6},
		{"v1.0.0-", 7}, {"v1.0.0-.", 7}, {"v1.0.0-.a", 7}, {"v1.0.0-a.", 9}, {"v1.0.0-a..b", 9}, {"v1.0.0-a.b.", 11}, {"v1.0.0-00", 9}, {"v1.0.0-01", 9},
		{"v1.0.0-01.", 9}, {"v1.0.0-01.a", 9}, {"v1.0.0-000", 10}, {"v1.0.0-0123", 11}, {"v1.0.0-0123.a", 11}, {"v1.0.0-a.01", 11},
		{"v1.0.0-a.01.b", 11}, {"v1.0.0-0.00", 11}, {"v1.0.0-0.00.0", 11}, {"v1.0.0-a_b", 8}, {"v1.0.0-_", 7}, {"v1.0.0-~", 7}, {"v1.0.0-a/b", 8},
		{"v1.0.0-01_", 9}, {"v1.0.0-0_", 8}, {"v1.0.0-a b", 8}, {"v1.0.0-é", 7}, {"v1.0.0-a\xff", 8}, {"v1.0.0-a\x00", 8}, {"v1.0.0-a@", 8}, {"v1.0.0-1.", 9},
		{"v1.0.0-ａ", 7}, {"v1.0.0-a.b c.d", 10},
		{"v" + strings.Repeat("9", many), many + 1}, {"v0" + strings.Repeat("9", many), 2}, {"v1.0.0-" + strings.Repeat("0", many), many + 7},
		{"v1.0.0-" + strings.Repeat("0", many) + ".a", many + 7}, {"v1.0.0-" + strings.Repeat("a.", many), 2*many + 7},
		{"v1.0.0-" + strings.Repeat("a.", many) + ".", 2*many + 7}, {"v1.0.0." + strings.Repeat("0", many), 6},
	},
	{
		{"", 0}, {".", 0}, {".1", 0}, {"-1", 0}, {"v1.2", 0}, {"a", 0}, {" 1.2", 0}, {"1", 1}, {"0", 1}, {"12", 2}, {"1.", 2}, {"1..", 2}, {"1..2", 2},
		{"1.2.", 4}, {"1.2..", 4}, {"1.2..3", 4}, {"1.2.3.", 5}, {"1.2.3.4", 5}, {"00", 1}, {"01", 1}, {"01.2", 1}, {"00.0", 1}, {"1.02", 3}, {"1.00", 3},
		{"1.0.", 4}, {"1.2.00", 5}, {"1.2.03", 5}, {"1.21.00", 6}, {"0.0.00", 5}, {"0.0.01", 5}, {"1.2rc1", 3}, {"1.2-a", 3}, {"1.2.3-a", 5},
		{"1.21rc2", 4}, {"1.2 ", 3}, {"1.2\n", 3}, {"1.2/", 3}, {"1,2", 1}, {"1.a", 2}, {"1.2.a", 4}, {"1.+2", 2}, {"1.é", 2}, {"1.2\xff", 3}, {"1.2\x00", 3},
		{"１.2", 0}, {"0.0.0.", 5}, {"0.0.0.0", 5}, {"0.0.0-", 5}, {"1.0.0 ", 5},
		{strings.Repeat("9", many), many}, {"0" + strings.Repeat("9", many), 1}, {"1.2." + strings.Repeat("3", many) + ".", many + 4},
		{"1." + strings.Repeat("1", many) + ".", many + 3}, {"1." + strings.Repeat("0", many), 3},
	},
}

// whole tells whether a text is a word, by its pattern.
func whole(kind int, s string) bool { return wholes[kind].MatchString(s) }

// lives tells whether a text does, by what makes it a word.
func lives(kind int, s string) bool {
	return slices.ContainsFunc(behind[kind], func(rest string) bool { return whole(kind, s+rest) })
}

// longest is how long the longest beginning is that lives.
func longest(kind int, s string) int {
	n := len(s)
	for !lives(kind, s[:n]) {
		n--
	}
	return n
}

// show is a text, cut where it is too long to be shown.
func show(s string) string {
	if len(s) > 60 {
		return s[:30] + ".." + s[len(s)-20:]
	}
	return s
}

// walk is the state that a text comes to, octet by octet, and how far it comes.
func walk(kind int, s string) (int, int) {
	at := 0
	for i := range len(s) {
		to, ok := word.Step(kind, at, s[i])
		if !ok {
			return at, i
		}
		at = to
	}
	return at, len(s)
}

// come is the state that a text that lives comes to.
func come(t *testing.T, kind int, s string) int {
	t.Helper()
	at, n := walk(kind, s)
	if n != len(s) {
		t.Fatalf("%s: %q does not live behind %d", names[kind], show(s), n)
	}
	return at
}

// holds asks a state for what it must answer of a text that came to it.
func holds(t *testing.T, kind, at int, s string) {
	t.Helper()
	is, rest := word.Ends(kind, at), word.Rest(kind, at)
	if at < 0 || at >= 100 {
		t.Fatalf("%s: %q: state %d", names[kind], show(s), at)
	}
	if want := whole(kind, s); is != want {
		t.Fatalf("%s: %q: Ends(%d) is %v", names[kind], show(s), at, is)
	}
	if is != (rest == "") || !whole(kind, s+rest) {
		t.Fatalf("%s: %q: Rest(%d) is %q", names[kind], show(s), at, rest)
	}
}

// follow goes on from a text by each octet of a text, as deep as n, and holds each state against its text.
func follow(t *testing.T, kind, at int, s, octets string, n int) {
	t.Helper()
	holds(t, kind, at, s)
	if n == 0 {
		return
	}
	for i := range len(octets) {
		next := s + octets[i:i+1]
		to, ok := word.Step(kind, at, octets[i])
		if want := lives(kind, next); ok != want || !ok && to != 0 {
			t.Fatalf("%s: %q: Step is %d, %v", names[kind], next, to, ok)
		}
		if ok {
			follow(t, kind, to, next, octets, n-1)
		}
	}
}

// found are all states that texts come to, each with one of these, found by all octets.
func found(kind int) map[int]string {
	texts := map[int]string{0: ""}
	for todo := []int{0}; len(todo) > 0; todo = todo[1:] {
		for c := range 256 {
			to, ok := word.Step(kind, todo[0], byte(c))
			if _, known := texts[to]; ok && !known && len(texts) <= 1000 {
				texts[to] = texts[todo[0]] + string([]byte{byte(c)})
				todo = append(todo, to)
			}
		}
	}
	return texts
}

// each asks f about each text of n octets or fewer of some.
func each(octets string, n int, f func(s string)) {
	var more func(s string)
	more = func(s string) {
		f(s)
		if len(s) < n {
			for i := range len(octets) {
				more(s + octets[i:i+1])
			}
		}
	}
	more("")
}

// chance gives texts that are words with a few octets changed, put in, or taken out, or that are short and of any octets.
func chance(kind, n int, f func(s string)) {
	r := rand.New(rand.NewSource(int64(61 + kind)))
	all := octets[kind] + "bB8+ @\n\t\"()\x00\x7f\x80\xc3\xa9\xff"
	for range n {
		s := []byte(words[kind][r.Intn(len(words[kind]))])
		if len(s) > 60 {
			s = s[:60]
		}
		for range r.Intn(4) {
			i, c := r.Intn(len(s)+1), all[r.Intn(len(all))]
			switch {
			case r.Intn(3) == 0:
				s = slices.Insert(s, i, c)
			case i < len(s) && r.Intn(2) == 0:
				s[i] = c
			case i < len(s):
				s = slices.Delete(s, i, i+1)
			}
		}
		f(string(s))
	}
}

// TestTables holds the tests' own lists against the patterns.
func TestTables(t *testing.T) {
	for _, kind := range kinds {
		for _, s := range words[kind] {
			if !whole(kind, s) {
				t.Errorf("%s: %q is no word", names[kind], show(s))
			}
		}
		for _, c := range live[kind] {
			if whole(kind, c.s) || !lives(kind, c.s[:c.n]) || c.n < len(c.s) && lives(kind, c.s[:c.n+1]) {
				t.Errorf("%s: %q does not live so long", names[kind], show(c.s))
			}
		}
	}
}

// P6.1

func TestEmptyText(t *testing.T) {
	for _, kind := range kinds {
		holds(t, kind, 0, "")
		if word.Ends(kind, 0) || word.Rest(kind, 0) == "" {
			t.Errorf("%s: the empty text is a word", names[kind])
		}
	}
}

func TestStepShort(t *testing.T) {
	for _, kind := range kinds {
		for _, s := range begins[kind] {
			follow(t, kind, come(t, kind, s), s, octets[kind], 4)
		}
	}
}

func TestStepAllOctets(t *testing.T) {
	var all []byte
	for c := range 256 {
		all = append(all, byte(c))
	}
	for _, kind := range kinds {
		places := slices.Clone(begins[kind])
		for _, s := range words[kind] {
			// Each place of a word, if it isn't one of the very long.
			for n := range min(len(s), 40) {
				places = append(places, s[:n])
			}
		}
		for _, c := range live[kind] {
			if c.n <= 40 {
				places = append(places, c.s[:c.n])
			}
		}
		slices.Sort(places)
		for _, s := range slices.Compact(places) {
			follow(t, kind, come(t, kind, s), s, string(all), 1)
		}
	}
}

func TestStepWords(t *testing.T) {
	for _, kind := range kinds {
		for _, s := range words[kind] {
			holds(t, kind, come(t, kind, s), s)
		}
		for _, c := range live[kind] {
			at, n := walk(kind, c.s)
			if n != c.n {
				t.Fatalf("%s: %q: Step goes on to %d", names[kind], show(c.s), n)
			}
			holds(t, kind, at, c.s[:n])
		}
	}
}

// TestGoesOn: a word that may go on, and one that may not; and what lives and is no word yet.
func TestGoesOn(t *testing.T) {
	for _, c := range []struct {
		kind       int
		s, on, not string
		ends       bool
	}{
		{api.PathW, "", "aZ0-_~", "./ @", false}, {api.PathW, "a", "a0-_~./", " @\n\"()+", true}, {api.PathW, "a.", "a.-", "/ ", false},
		{api.PathW, "a..", "a.-", "/ ", false}, {api.PathW, "a/", "a-_~9", "./", false}, {api.PathW, "a/b", "a./", "@", true},
		{api.PathW, "a/b.", "c.", "/", false},
		{api.VersionW, "", "v", "V0.-a", false}, {api.VersionW, "v", "019", "v.-a", false}, {api.VersionW, "v0", ".", "0129-a", false},
		{api.VersionW, "v1", "0129.", "-a", false}, {api.VersionW, "v1.", "0129", ".-a", false}, {api.VersionW, "v1.0", ".", "01-a", false},
		{api.VersionW, "v1.1", "01.", "-a", false}, {api.VersionW, "v1.0.", "01", ".-a", false}, {api.VersionW, "v1.0.0", "-", "01.a+", true},
		{api.VersionW, "v1.0.1", "01-", ".a+", true}, {api.VersionW, "v1.0.10", "0-", ".a", true}, {api.VersionW, "v1.0.0-", "01aZ-", "._~+/", false},
		{api.VersionW, "v1.0.0-0", "01aZ-.", "_~+/", true}, {api.VersionW, "v1.0.0-1", "01aZ-.", "_~+/", true},
		{api.VersionW, "v1.0.0-a", "01aZ-.", "_~+/", true}, {api.VersionW, "v1.0.0--", "01aZ-.", "_~+/", true},
		{api.VersionW, "v1.0.0-01", "01aZ-", "._~+/", false}, {api.VersionW, "v1.0.0-00", "01aZ-", "._~+/", false},
		{api.VersionW, "v1.0.0-01a", "01aZ-.", "_~+/", true}, {api.VersionW, "v1.0.0-0a", "01aZ-.", "_~", true},
		{api.VersionW, "v1.0.0-00-", "01aZ-.", "_~", true}, {api.VersionW, "v1.0.0-a.", "01aZ-", "._", false},
		{api.VersionW, "v1.0.0-a.0", "01aZ-.", "_", true}, {api.VersionW, "v1.0.0-a.01", "01aZ-", "._", false}, {api.VersionW, "v1.0.0-10", "01aZ-.", "_", true},
		{api.GoW, "", "019", ".-va", false}, {api.GoW, "0", ".", "019-a", false}, {api.GoW, "1", "019.", "-a", false}, {api.GoW, "1.", "019", ".-a", false},
		{api.GoW, "1.0", ".", "019-a", true}, {api.GoW, "1.2", "019.", "-ar", true}, {api.GoW, "1.2.", "019", ".-a", false},
		{api.GoW, "1.2.0", "", "0129.-a", true}, {api.GoW, "1.2.3", "0129", ".-a", true}, {api.GoW, "0.0", ".", "01", true},
		{api.GoW, "0.0.0", "", "01.", true}, {api.GoW, "1.2.10", "0", ".", true},
	} {
		at := come(t, c.kind, c.s)
		if word.Ends(c.kind, at) != c.ends {
			t.Errorf("%s: %q: Ends is %v", names[c.kind], c.s, !c.ends)
		}
		for i := range len(c.on) {
			if _, ok := word.Step(c.kind, at, c.on[i]); !ok {
				t.Errorf("%s: %q: no step by %q", names[c.kind], c.s, c.on[i])
			}
		}
		for i := range len(c.not) {
			if to, ok := word.Step(c.kind, at, c.not[i]); ok || to != 0 {
				t.Errorf("%s: %q: a step by %q, to %d", names[c.kind], c.s, c.not[i], to)
			}
		}
	}
}

// TestStates: each state that a text comes to is below 100, and goes by its Rest to one that ends.
func TestStates(t *testing.T) {
	for _, kind := range kinds {
		for at, s := range found(kind) {
			holds(t, kind, at, s)
			end := come(t, kind, s+word.Rest(kind, at))
			if !word.Ends(kind, end) || word.Rest(kind, end) != "" {
				t.Errorf("%s: %q with its Rest %q does not end", names[kind], s, word.Rest(kind, at))
			}
		}
	}
}

// no asks about a state that there is not.
func no(t *testing.T, kind, state int) {
	t.Helper()
	for c := range 256 {
		if to, ok := word.Step(kind, state, byte(c)); to != 0 || ok {
			t.Fatalf("Step(%d, %d, %d) is %d, %v", kind, state, c, to, ok)
		}
	}
	if word.Ends(kind, state) {
		t.Fatalf("Ends(%d, %d)", kind, state)
	}
	if s := word.Rest(kind, state); s != "" {
		t.Fatalf("Rest(%d, %d) is %q", kind, state, s)
	}
}

func TestNoSuchKind(t *testing.T) {
	for _, kind := range noKinds {
		for state := range 100 {
			no(t, kind, state)
		}
		for _, state := range noStates {
			no(t, kind, state)
		}
	}
}

func TestNoSuchState(t *testing.T) {
	for _, kind := range kinds {
		for _, state := range noStates {
			no(t, kind, state)
		}
		// Those below 100 that this kind has not, whichever another one has.
		states := found(kind)
		for state := range 100 {
			if _, there := states[state]; !there {
				no(t, kind, state)
			}
		}
	}
}

// P6.2

func TestWholeWords(t *testing.T) {
	for _, kind := range kinds {
		for _, s := range words[kind] {
			if n := word.Live(kind, s); n != len(s) || !word.Whole(kind, s) {
				t.Errorf("%s: %q: %d, %v", names[kind], show(s), n, word.Whole(kind, s))
			}
		}
		for _, c := range live[kind] {
			if n := word.Live(kind, c.s); n != c.n || word.Whole(kind, c.s) {
				t.Errorf("%s: %q: %d, %v", names[kind], show(c.s), n, word.Whole(kind, c.s))
			}
		}
	}
}

func TestExamples(t *testing.T) {
	if word.Live(api.VersionW, "v1.0.0-01") != 9 || word.Live(api.VersionW, "v1.0.0-01.") != 9 {
		t.Error("v1.0.0-01.")
	}
	if word.Live(api.PathW, "a//b") != 2 {
		t.Error("a//b")
	}
	if !word.Whole(api.GoW, "1.2") || word.Whole(api.GoW, "1.02") {
		t.Error("1.2, 1.02")
	}
}

// agrees holds Live and Whole of a text against the definition.
func agrees(t *testing.T, kind int, s string) {
	t.Helper()
	if n, want := word.Live(kind, s), longest(kind, s); n != want {
		t.Fatalf("%s: %q: Live is %d, not %d", names[kind], s, n, want)
	}
	if is := word.Whole(kind, s); is != whole(kind, s) {
		t.Fatalf("%s: %q: Whole is %v", names[kind], s, is)
	}
}

func TestLiveShort(t *testing.T) {
	for _, kind := range kinds {
		each(octets[kind], 3, func(s string) {
			agrees(t, kind, s)
			// Behind the whole of the numbers, and behind a word's beginning, short texts tell more.
			for _, b := range begins[kind] {
				agrees(t, kind, b+s)
			}
		})
	}
}

func TestLiveChance(t *testing.T) {
	for _, kind := range kinds {
		chance(kind, 20000, func(s string) { agrees(t, kind, s) })
	}
}

func TestLiveAllOctets(t *testing.T) {
	for _, kind := range kinds {
		for c := range 256 {
			o := string([]byte{byte(c)})
			agrees(t, kind, o)
			for _, b := range begins[kind] {
				agrees(t, kind, b+o)
				// What is behind an octet that nothing goes on from plays no part, be it a word.
				agrees(t, kind, b+o+words[kind][0])
				agrees(t, kind, o+b)
			}
		}
	}
}

// TestLayersBelow: words are what the layers say that have them.
func TestLayersBelow(t *testing.T) {
	for _, kind := range kinds {
		ask := func(s string) {
			if is := word.Whole(api.PathW, s); is != path.May(s) {
				t.Fatalf("path: %q: Whole is %v", show(s), is)
			}
			if is := word.Whole(api.VersionW, s); is != version.May(s) {
				t.Fatalf("version: %q: Whole is %v", show(s), is)
			}
		}
		chance(kind, 5000, ask)
		for _, s := range words[kind] {
			ask(s)
		}
		for _, c := range live[kind] {
			ask(c.s)
		}
	}
}

func TestLiveNoSuchKind(t *testing.T) {
	texts := []string{"", "a", "0", "v", ".", strings.Repeat("a", many)}
	for _, kind := range kinds {
		texts = append(texts, words[kind]...)
	}
	for _, kind := range noKinds {
		for _, s := range texts {
			if n := word.Live(kind, s); n != -1 {
				t.Fatalf("Live(%d, %q) is %d", kind, show(s), n)
			}
			if word.Whole(kind, s) {
				t.Fatalf("Whole(%d, %q)", kind, show(s))
			}
		}
	}
}

// P6.3

func TestBeginnings(t *testing.T) {
	for _, kind := range kinds {
		ask := func(s string) {
			n := word.Live(kind, s)
			if n < 0 || n > len(s) {
				t.Fatalf("%s: %q: %d", names[kind], s, n)
			}
			for i := range len(s) + 1 {
				if k := word.Live(kind, s[:i]); k != min(i, n) {
					t.Fatalf("%s: %q lives to %d, and %q to %d", names[kind], s, n, s[:i], k)
				}
			}
		}
		chance(kind, 5000, ask)
		each(octets[kind], 4, ask)
	}
}

func TestWithRest(t *testing.T) {
	for _, kind := range kinds {
		ask := func(s string) {
			at, n := walk(kind, s)
			if n != word.Live(kind, s) {
				t.Fatalf("%s: %q lives to %d by steps, not to %d", names[kind], show(s), n, word.Live(kind, s))
			}
			if n == len(s) && word.Ends(kind, at) != word.Whole(kind, s) || n < len(s) && word.Whole(kind, s) {
				t.Fatalf("%s: %q: Whole is %v", names[kind], show(s), word.Whole(kind, s))
			}
			l := s[:n] + word.Rest(kind, at)
			if !word.Whole(kind, l) || word.Live(kind, l) != len(l) {
				t.Fatalf("%s: %q is no word", names[kind], show(l))
			}
		}
		chance(kind, 20000, ask)
		each(octets[kind], 4, ask)
		for _, s := range words[kind] {
			ask(s)
		}
		for _, c := range live[kind] {
			ask(c.s)
		}
	}
}

// TestSameAgain: no order of questions, and nobody who asks at the same time, changes an answer.
func TestSameAgain(t *testing.T) {
	type answer struct {
		to   int
		ok   bool
		ends bool
		rest string
	}
	ask := func(kind, state, c int) answer {
		to, ok := word.Step(kind, state, byte(c))
		return answer{to, ok, word.Ends(kind, state), word.Rest(kind, state)}
	}
	var first [5][102][256]answer
	for kind := range first {
		for state := range first[kind] {
			for c := range 256 {
				first[kind][state][c] = ask(kind-1, state-1, c)
			}
		}
	}
	var all sync.WaitGroup
	for range 4 {
		all.Go(func() {
			for c := range 256 {
				for state := len(first[0]) - 1; state >= 0; state-- {
					for kind := range first {
						if a := ask(kind-1, state-1, c); a != first[kind][state][c] {
							t.Errorf("%d, %d, %d: %v, and then %v", kind-1, state-1, c, first[kind][state][c], a)
							return
						}
					}
				}
			}
		})
	}
	all.Wait()
}
