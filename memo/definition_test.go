package memo_test

import (
	"slices"

	"graftwood/api"
	"graftwood/text"
)

// told is what layer 8 tells of a text.
func told(s string) api.Known {
	m, at, e := text.Parse(s)
	return api.Known{Text: s, M: m, At: at, E: e}
}

// alike tells whether the same is known, part by part.
func alike(a, b api.Known) bool {
	return a.Text == b.Text && a.M.Module == b.M.Module && a.M.Go == b.M.Go && slices.Equal(a.M.Reqs, b.M.Reqs) && a.At == b.At && a.E == b.E
}

// equal tells whether two memos are alike, part by part.
func equal(a, b api.Memo) bool {
	if a.Cap != b.Cap || len(a.L) != len(b.L) {
		return false
	}
	for i := range a.L {
		if !alike(a.L[i], b.L[i]) {
			return false
		}
	}
	return true
}

// fits tells whether a memo may be.
func fits(m api.Memo) bool {
	if len(m.L) > 0 && len(m.L) > m.Cap {
		return false
	}
	for i, k := range m.L {
		if !alike(k, told(k.Text)) {
			return false
		}
		for _, o := range m.L[:i] {
			if o.Text == k.Text {
				return false
			}
		}
	}
	return true
}

// last are the last texts that were asked, no more than many, each once, the last one last.
func last(many int, asked []string) []string {
	var l []string
	for i := len(asked) - 1; i >= 0 && len(l) < many; i-- {
		if !slices.Contains(l, asked[i]) {
			l = append(l, asked[i])
		}
	}
	slices.Reverse(l)
	return l
}

// memoOf is one of some texts.
func memoOf(many int, texts ...string) api.Memo {
	m := api.Memo{Cap: many}
	for _, s := range texts {
		m.L = append(m.L, told(s))
	}
	return m
}

// textsOf are a memo's texts.
func textsOf(m api.Memo) []string {
	var l []string
	for _, k := range m.L {
		l = append(l, k.Text)
	}
	return l
}

// deep is a memo in memory of its own.
func deep(m api.Memo) api.Memo {
	m.L = slices.Clone(m.L)
	for i := range m.L {
		m.L[i].M.Reqs = slices.Clone(m.L[i].M.Reqs)
	}
	return m
}
