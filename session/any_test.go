package session_test

import (
	"math"
	"reflect"
	"slices"
	"strings"
	"testing"

	"graftwood/api"
	"graftwood/session"
)

// Of a session that no call here made what comes is open, but each call ends, and none panics.

// numbers and words are what is put in the stead of a number, and of a text.
var (
	numbers = []int64{-1, 0, 1, 2, 7, -2, math.MaxInt, math.MinInt, 1 << 40, 1<<40 + 1}
	words   = []string{"", "a", "b", "a/", "v1.0.0", "v1.1.0", "v1", "module a", "module a\nrequire b v1.0.0", "module b\nrequire (\na v1.0.0\n)", "mox", "\xff"}
)

// altered hands on a session again and again, each time with one thing in it another one; v is within the session that s points to.
func altered(s *api.Session, v reflect.Value, next func(s api.Session)) {
	was := reflect.New(v.Type()).Elem()
	was.Set(v)
	switch v.Kind() {
	case reflect.Struct:
		for i := range v.NumField() {
			altered(s, v.Field(i), next)
		}
	case reflect.Slice:
		for i := range v.Len() {
			altered(s, v.Index(i), next)
		}
		for _, l := range otherLists(v) {
			v.Set(l)
			next(*s)
			v.Set(was)
		}
	case reflect.String:
		for _, x := range words {
			v.SetString(x)
			next(*s)
		}
	default:
		for _, x := range numbers {
			v.SetInt(x)
			next(*s)
		}
	}
	v.Set(was)
}

// otherLists are lists of what a list has: nothing, without its first one or its last one, turned about, twice, and with one more that is zero.
func otherLists(v reflect.Value) []reflect.Value {
	out := []reflect.Value{reflect.Zero(v.Type())}
	if v.Len() > 0 {
		out = append(out, v.Slice(1, v.Len()), v.Slice(0, v.Len()-1))
	}
	turned := reflect.MakeSlice(v.Type(), v.Len(), v.Len())
	for i := range v.Len() {
		turned.Index(i).Set(v.Index(v.Len() - 1 - i))
	}
	twice := reflect.AppendSlice(turned, v)
	more := reflect.Append(v.Slice3(0, v.Len(), v.Len()), reflect.Zero(v.Type().Elem()))
	return append(out, turned, twice, more)
}

// everything does, and asks, what may reach each part of a session, one step behind the other, and each from the beginning.
func everything(s api.Session) {
	for _, x := range steps("a>b a>c,c a> -a -b +a +b +c ~a ~b -none") {
		y, _, _ := x.done(s)
		asks(y)
	}
	for _, x := range steps("a>b,b -b +c ~a") {
		s, _, _ = x.done(s)
	}
	asks(s)
}

// asks asks all that a session tells.
func asks(s api.Session) {
	session.Build(s)
	session.Missing(s)
	for _, p := range []string{"a", "b", "c", "a/", ""} {
		session.Selected(s, p)
		session.Why(s, p)
	}
}

func TestAnySession(t *testing.T) {
	everything(api.Session{})
	for _, done := range []string{"", "+a", "a>b +a", "a>b,b b>a +a +c c@v1.1.0>a"} {
		s, p := laidWith(t, api.Limits{Text: 99, Manifests: 4, Nodes: 5, Edges: 6}, 2, done)
		s = whole(s)
		many := 0
		altered(&s, reflect.ValueOf(&s).Elem(), func(x api.Session) {
			many++
			everything(whole(x))
		})
		if many < 100 {
			t.Errorf("%s: no more than %d others", done, many)
		}
		same(t, done, s, p.tells())
	}
}

func TestPartsOfAnother(t *testing.T) {
	// Each part is that of another session: numbers are of other names, rows of what is not reached, and texts of what is not known.
	var made []api.Session
	for _, done := range []string{"", "a>b,c b>c +a", "c>a,a +b +c b@v1.1.0>c", "a>a +z z>y,x x>a@v1.1.0"} {
		s, _ := laidWith(t, wide(), 3, done)
		made = append(made, s)
	}
	for _, s := range made {
		for _, o := range made {
			for i := range reflect.TypeOf(s).NumField() {
				x := s
				reflect.ValueOf(&x).Elem().Field(i).Set(reflect.ValueOf(o).Field(i))
				everything(x)
			}
		}
	}
}

func TestAnyArguments(t *testing.T) {
	// texts, paths and versions of all kinds, and long ones
	long := []string{strings.Repeat("a", 100000), strings.Repeat("a/", 50000), strings.Repeat("\n", 100000), "v" + strings.Repeat("9", 100000) + ".0.0", "module a\n" + strings.Repeat("require b v1.0.0\n", 300)}
	l := wide()
	s, p := laid(t, l, "a>b +a")
	for _, x := range slices.Concat(wrongPaths, wrongVersions, words, long) {
		for _, n := range []api.Node{of(x, "v1.0.0"), of("a", x), of(x, x), one("a")} {
			for _, kind := range []byte{'>', '-', '+', '~'} {
				y, at, e := step{kind, n, x}.done(s)
				q, wantAt, want := step{kind, n, x}.meant(p)
				if at != wantAt || e != want {
					t.Errorf("%c of %.60q and %.60q: %d, %d, not %d, %d", kind, n, x, at, e, wantAt, want)
				}
				if !slices.Equal(session.Build(y), q.build()) {
					t.Errorf("%c of %.60q and %.60q: %.300v", kind, n, x, session.Build(y))
				}
			}
		}
		v, e := session.Selected(s, x)
		if w, f := p.selected(x); v != w || e != f {
			t.Errorf("Selected of %.60q: %s, %d, not %s, %d", x, v, e, w, f)
		}
		c, e := session.Why(s, x)
		if d, f := p.why(x); !slices.Equal(c, d) || e != f {
			t.Errorf("Why of %.60q: %v, %d, not %v, %d", x, c, e, d, f)
		}
	}
}
