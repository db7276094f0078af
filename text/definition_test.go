package text_test

import (
	"math/rand"
	"regexp"
	"strings"

	"graftwood/api"
)

// What a line of a manifest says, by its pattern; the line may be no other one, as the text is a manifest.
var (
	moduleL  = regexp.MustCompile(`^[ \t]*module[ \t]+"?([^ \t"]+)`)
	goL      = regexp.MustCompile(`^[ \t]*go[ \t]+([0-9.]+)`)
	openL    = regexp.MustCompile(`^[ \t]*require[ \t]+\(`)
	requireL = regexp.MustCompile(`^[ \t]*require[ \t]+"?([^ \t"]+)"?[ \t]+(v[^ \t]+)`)
	itemL    = regexp.MustCompile(`^[ \t]*"?([^ \t"/][^ \t"]*)"?[ \t]+(v[^ \t]+)`)
	shutL    = regexp.MustCompile(`^[ \t]*\)`)
)

// value is that of a manifest, line by line.
func value(s string) api.Manifest {
	var m api.Manifest
	block := false
	for _, l := range strings.Split(s, "\n") {
		module, goes, require, item := moduleL.FindStringSubmatch(l), goL.FindStringSubmatch(l), requireL.FindStringSubmatch(l), itemL.FindStringSubmatch(l)
		switch {
		case block && shutL.MatchString(l):
			block = false
		case block && item != nil:
			m.Reqs = append(m.Reqs, api.Node{Path: item[1], Version: item[2]})
		case block:
		case openL.MatchString(l):
			block = true
		case m.Module == "" && module != nil:
			m.Module = module[1]
		case goes != nil:
			m.Go = goes[1]
		case require != nil:
			m.Reqs = append(m.Reqs, api.Node{Path: require[1], Version: require[2]})
		}
	}
	return m
}

// layout writes values in any of the ways in which they may stand.
type layout struct {
	r *rand.Rand
	b strings.Builder
}

// one is one of some texts.
func (l *layout) one(of ...string) string { return of[l.r.Intn(len(of))] }

// comment is one.
func (l *layout) comment() string {
	return l.one("//", "// c", "///", "// require x v9.9.9", "//module x", "// go 9.9", "// )", "// require (", "// \xc3\xa9\xff\x80\x00\r", "//\t\"x\" v9.9.9 // d")
}

// line writes words, and what may stand about them.
func (l *layout) line(words ...string) {
	for l.r.Intn(5) == 0 {
		l.b.WriteString(l.one("", "", " ", "\t", " \t ") + l.one("", l.comment()) + "\n")
	}
	l.b.WriteString(l.one("", "", " ", "\t", " \t"))
	for i, w := range words {
		if i > 0 {
			l.b.WriteString(l.one(" ", " ", "\t", "  ", " \t"))
		}
		l.b.WriteString(w)
	}
	l.b.WriteString(l.one("", "", " ", "\t \t", " "+l.comment(), "\t"+l.comment()) + "\n")
}

// path is one, with quotes or without.
func (l *layout) path(s string) string { return l.one(s, s, "\""+s+"\"") }

// reqs writes requirements, by lines and in blocks, of which some are empty.
func (l *layout) reqs(rest []api.Node) {
	for len(rest) > 0 || l.r.Intn(4) == 0 {
		n := l.r.Intn(min(3, len(rest)) + 1)
		if n == 1 && l.r.Intn(2) == 0 {
			l.line("require", l.path(rest[0].Path), rest[0].Version)
		} else {
			l.line("require", "(")
			for _, n := range rest[:n] {
				l.line(l.path(n.Path), n.Version)
			}
			l.line(")")
		}
		rest = rest[n:]
	}
}

// of is a text of a value, whose go is somewhere among its requirements.
func (l *layout) of(m api.Manifest) string {
	l.b.Reset()
	l.line("module", l.path(m.Module))
	at := l.r.Intn(len(m.Reqs) + 1)
	l.reqs(m.Reqs[:at])
	if m.Go != "" {
		l.line("go", m.Go)
	}
	l.reqs(m.Reqs[at:])
	s := l.b.String()
	// The last line may have no octet 10 behind it.
	return s[:len(s)-l.r.Intn(2)]
}

// printed is what Print must answer of a value that may be.
func printed(m api.Manifest) string {
	s := "module " + m.Module + "\n"
	if m.Go != "" {
		s += "go " + m.Go + "\n"
	}
	var lines []string
	for _, n := range m.Reqs {
		lines = append(lines, n.Path+" "+n.Version+"\n")
	}
	if len(lines) > 1 {
		return s + "require (\n\t" + strings.Join(lines, "\t") + ")\n"
	}
	return s + strings.Repeat("require ", len(lines)) + strings.Join(lines, "")
}
