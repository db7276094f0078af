package grammar_test

import (
	"regexp"
	"slices"
	"sort"
	"strings"

	"graftwood/api"
)

// The patterns of words, written out, not by a layer below.
const (
	elementP = `[0-9A-Za-z_~-](?:[0-9A-Za-z._~-]*[0-9A-Za-z_~-])?`
	pathP    = elementP + `(?:/` + elementP + `)*`
	anyP     = `(?:` + pathP + `|"` + pathP + `")`
	numberP  = `(?:0|[1-9][0-9]*)`
	preP     = `(?:` + numberP + `|[0-9]*[A-Za-z-][0-9A-Za-z-]*)`
	versionP = `v` + numberP + `\.` + numberP + `\.` + numberP + `(?:-` + preP + `(?:\.` + preP + `)*)?`
	goP      = numberP + `\.` + numberP + `(?:\.` + numberP + `)?`
	someP    = `[ \t]+`
)

// whole is the pattern of a whole line of a content, with what may be ahead of it and behind.
func whole(content string) *regexp.Regexp {
	return regexp.MustCompile(`(?s)^[ \t]*` + content + `(?:[ \t]*|[ \t]+//.*)\z`)
}

var (
	blankL   = regexp.MustCompile(`(?s)^[ \t]*(?://.*)?\z`)
	moduleL  = whole(`module` + someP + anyP)
	goL      = whole(`go` + someP + goP)
	requireL = whole(`require` + someP + anyP + someP + versionP)
	openL    = whole(`require` + someP + `\(`)
	itemL    = whole(anyP + someP + versionP)
	shutL    = whole(`\)`)
)

// context is what lines came to: a module's, a go's, and a block that did not end.
type context struct{ module, goes, block bool }

// line goes on by a line, if it may stand there.
func (c context) line(s string) (context, bool) {
	switch {
	case blankL.MatchString(s):
	case c.block && shutL.MatchString(s):
		c.block = false
	case c.block:
		return c, itemL.MatchString(s)
	case !c.module:
		c.module = moduleL.MatchString(s)
		return c, c.module
	case !c.goes && goL.MatchString(s):
		c.goes = true
	case openL.MatchString(s):
		c.block = true
	default:
		return c, requireL.MatchString(s)
	}
	return c, true
}

// lines goes on by all lines.
func lines(l []string) (context, bool) {
	var c context
	for _, s := range l {
		next, ok := c.line(s)
		if !ok {
			return c, false
		}
		c = next
	}
	return c, true
}

// manifest tells whether a text is one.
func manifest(s string) bool {
	c, ok := lines(strings.Split(s, "\n"))
	return ok && c.module && !c.block
}

// behind are texts one of which, behind any line that lives, makes it a whole one.
var behind = ends("module a", "go 0.0", "require a v0.0.0", `a"`, `a" v0.0.0`, ")", "/")

// ends are all ends of texts.
func ends(l ...string) []string {
	var all []string
	for _, s := range l {
		for i := range len(s) + 1 {
			all = append(all, s[i:])
		}
	}
	slices.Sort(all)
	return slices.Compact(all)
}

// lives tells whether a text does: whether its last line may be made a whole one, as whole lines go on to a manifest.
func lives(s string) bool {
	l := strings.Split(s, "\n")
	last := len(l) - 1
	c, ok := lines(l[:last])
	return ok && slices.ContainsFunc(behind, func(more string) bool {
		_, ok := c.line(l[last] + more)
		return ok
	})
}

// judge is what Judge must answer.
func judge(s string) (int, api.Errno) {
	switch {
	case manifest(s):
		return 0, api.OK
	case lives(s):
		return len(s), api.ErrTruncated
	}
	// What begins a text that lives does, so that the first one that does not may be sought by halves.
	return sort.Search(len(s), func(n int) bool { return !lives(s[:n]) }), api.ErrSyntax
}
