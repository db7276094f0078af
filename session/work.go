package session

import (
	"cmp"
	"slices"

	"graftwood/api"
	"graftwood/diff"
	"graftwood/intern"
	"graftwood/memo"
	"graftwood/node"
	"graftwood/reach"
	"graftwood/room"
	"graftwood/store"
	"graftwood/tally"
)

// work is a session at work: one in memory of its own, of which part after part becomes another one.
type work struct{ api.Session }

// do is a session after a step for a node, or, with an error, as it was.
func do(s api.Session, n api.Node, step func(w *work, n api.Node) api.Errno) (api.Session, api.Errno) {
	if !node.May(n) {
		return own(s), api.ErrArg
	}
	w := work{own(s)}
	if e := step(&w, n); e != api.OK {
		return own(s), e
	}
	w.tidy()
	return w.Session, api.OK
}

// put lets a node's manifest be a text; the number is that of an error in it.
func (w *work) put(n api.Node, t string) (int, api.Errno) {
	if len(t) > w.Limits.Text {
		return 0, api.ErrLarge
	}
	m, value, at, e := memo.Parse(w.Memo, t)
	switch {
	case e != api.OK:
		return at, e
	case value.Module != n.Path:
		return 0, api.ErrOther
	}
	w.Memo = m
	if old, e := store.Get(w.Store, n); e == api.OK && old == t {
		return 0, api.OK
	}
	// Where there is none yet, nothing is required by it, and what there is without it is what there is.
	was, use, _ := w.without(n)
	if e := w.fill(room.Take(use, n, value.Reqs)); e != api.OK {
		return 0, e
	}
	w.Store = kept(store.Put(w.Store, n, t))
	w.relink(w.number(n), was, value.Reqs)
	return 0, api.OK
}

// drop lets a node have no manifest.
func (w *work) drop(n api.Node) api.Errno {
	was, use, e := w.without(n)
	if e != api.OK {
		return e
	}
	w.Use = use
	w.Store = kept(store.Drop(w.Store, n))
	w.relink(w.number(n), was, nil)
	return api.OK
}

// need lets the root require a node.
func (w *work) need(n api.Node) api.Errno {
	if kept(node.Has(w.Root, n)) {
		return api.OK
	}
	if e := w.fill(room.Root(w.Use, n, true)); e != api.OK {
		return e
	}
	w.Root = kept(node.With(w.Root, n))
	w.relink(api.Root, nil, []api.Node{n})
	return api.OK
}

// free lets the root require a node no more.
func (w *work) free(n api.Node) api.Errno {
	if !kept(node.Has(w.Root, n)) {
		return api.ErrNone
	}
	w.Use = kept(room.Root(w.Use, n, false))
	w.Root = kept(node.Without(w.Root, n))
	w.relink(api.Root, []api.Node{n}, nil)
	return api.OK
}

// without is what a node's manifest requires, and what there would be without it.
func (w *work) without(n api.Node) ([]api.Node, api.Use, api.Errno) {
	t, e := store.Get(w.Store, n)
	if e != api.OK {
		return nil, w.Use, e
	}
	// The memo stays as it is: a text that goes shall not stand in the stead of one that may come again.
	_, value, _, _ := memo.Parse(w.Memo, t)
	use, e := room.Give(w.Use, n, value.Reqs)
	return value.Reqs, use, e
}

// fill lets what there is be what there would be, if that fits.
func (w *work) fill(would api.Use, e api.Errno) api.Errno {
	if e != api.OK {
		return e
	}
	if e := room.Fits(w.Limits, would); e != api.OK {
		return e
	}
	w.Use = would
	return api.OK
}

// relink lets links from a number lead to what is required now, in the stead of what was.
func (w *work) relink(from int, was, now []api.Node) {
	more := kept(diff.Diff(was, now))
	var nodes []api.Node
	for _, m := range more {
		nodes = append(nodes, m.N)
	}
	to := w.numbers(nodes...)
	// What is linked anew goes first, so that nothing goes, and comes again, that is reached ahead and behind.
	often(from, to, more, w.link)
	often(from, to, kept(diff.Turn(more)), w.unlink)
}

// often does a step to each of these numbers, as often as its node is there more; where it is there less, that is never.
func often(from int, to []int, more []api.Edit, step func(from, to int)) {
	for i, id := range to {
		for range more[i].By {
			step(from, id)
		}
	}
}

// link makes a link, by which nodes may come.
func (w *work) link(from, to int) {
	g, come, _ := reach.Link(w.Graph, from, to)
	w.Graph = g
	for _, n := range w.nodes(come) {
		w.Rows = kept(tally.Add(w.Rows, n))
	}
}

// unlink undoes a link, by which nodes may go.
func (w *work) unlink(from, to int) {
	g, gone, _ := reach.Unlink(w.Graph, from, to)
	w.Graph = g
	for _, n := range w.nodes(gone) {
		w.Rows = kept(tally.Drop(w.Rows, n))
	}
}

// number is a node's, given if it has none.
func (w *work) number(n api.Node) int {
	id, names, _ := intern.Id(w.Names, n)
	w.Names = names
	return id
}

// numbers are those of nodes, given to those that have none.
func (w *work) numbers(l ...api.Node) []int {
	ids, names, _ := intern.All(w.Names, l...)
	w.Names = names
	return ids
}

// nodes are those of numbers.
func (w *work) nodes(ids []int) []api.Node {
	// Most links let nothing come, or go, and all names would be looked at for it.
	if len(ids) == 0 {
		return nil
	}
	return kept(intern.At(w.Names, ids...))
}

// tidy gives numbers anew, if there are some of nodes that nothing speaks of any more, or else they would be more and more.
func (w *work) tidy() {
	if len(w.Names.L) <= len(w.Use.Said) {
		return
	}
	var spoken []api.Node
	for _, said := range w.Use.Said {
		spoken = append(spoken, said.N)
	}
	ids, _, _ := intern.All(api.Names{L: spoken}, w.Names.L...)
	anew := func(id int) int {
		// Root stays what it is.
		if id < 0 || id >= len(ids) {
			return id
		}
		return ids[id]
	}
	l := w.Graph.Edges
	for i, e := range l {
		l[i].From, l[i].To = anew(e.From), anew(e.To)
	}
	slices.SortFunc(l, func(a, b api.Edge) int {
		return cmp.Or(cmp.Compare(a.From, b.From), cmp.Compare(a.To, b.To))
	})
	w.Names, w.Graph = api.Names{L: spoken}, kept(reach.Of(l))
}

// kept is a part as a layer answers it: of a session's own parts, and a node that may be, no error comes beside it.
func kept[T any](part T, _ api.Errno) T { return part }

// own is a session in memory of its own.
func own(s api.Session) api.Session {
	s.Memo.L = slices.Clone(s.Memo.L)
	for i, k := range s.Memo.L {
		s.Memo.L[i].M.Reqs = slices.Clone(k.M.Reqs)
	}
	s.Store = api.Store{Keys: slices.Clone(s.Store.Keys), Texts: slices.Clone(s.Store.Texts)}
	s.Root = slices.Clone(s.Root)
	s.Names.L = slices.Clone(s.Names.L)
	s.Graph = api.Graph{Edges: slices.Clone(s.Graph.Edges), Live: slices.Clone(s.Graph.Live)}
	s.Rows = slices.Clone(s.Rows)
	for i, r := range s.Rows {
		s.Rows[i].Versions = slices.Clone(r.Versions)
	}
	s.Use.Said = slices.Clone(s.Use.Said)
	return s
}
