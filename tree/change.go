package tree

import (
	"sacristy/api"
	"sacristy/pager"
)

// change writes a tree that has leaf at the path's end; all that isn't on the path, or joined with it, stays where it is.
func (r reader) change(path []step, leaf part) (uint32, api.Errno) {
	row := leaf.row()
	for i := len(path) - 1; i >= 0; i-- {
		n, e := r.settle(path[i].branch, path[i].at, row)
		if e != api.OK {
			return 0, e
		}
		row = n.row()
	}
	return write(r.pager, rootOf(row))
}

// settle gives the branch with a row in the place of a kid. A small one goes together with a kid beside it.
func (r reader) settle(branch part, at int, row part) (part, api.Errno) {
	first := *row.kids[0].made
	if len(row.kids) > 1 || !first.isSmall() {
		return branch.withKids(at, at, row), api.OK
	}
	if first.isEmpty() {
		return branch.withoutKid(at), api.OK
	}
	last := api.OK
	for _, other := range branch.beside(at) {
		both, e := r.both(branch, at, other, first)
		if e == api.OK && (both.fits() || first.isLone()) {
			return branch.withKids(min(at, other), max(at, other), both.row()), api.OK
		}
		last = e
	}
	// A small one may stay as it is, whatever is beside it; a lone one can't.
	if first.isLone() {
		return part{}, last
	}
	return branch.withKids(at, at, row), api.OK
}

// beside tells which kids a branch has on the sides of one.
func (n part) beside(at int) []int {
	switch at {
	case 0:
		return []int{1}
	case len(n.kids) - 1:
		return []int{at - 1}
	}
	return []int{at - 1, at + 1}
}

// withoutKid is a branch in which a kid beside it takes over what was the kid's.
func (n part) withoutKid(at int) part {
	other := n.beside(at)[0]
	return n.withKids(min(at, other), max(at, other), part{kids: []kid{n.kids[other]}})
}

// both joins the one at, which is n now, with the other one beside it.
func (r reader) both(branch part, at, other int, n part) (part, api.Errno) {
	m, e := r.read(branch.kids[other].page)
	if e != api.OK {
		return part{}, e
	}
	if m.isLeaf() != n.isLeaf() {
		return part{}, api.ErrTree
	}
	if at < other {
		return joined(n, branch.keys[at], m), api.OK
	}
	return joined(m, branch.keys[other], n), api.OK
}

// rootOf is the one kid of a row, or a branch above its two.
func rootOf(row part) kid {
	root := kid{made: &row}
	for root.made != nil && root.made.isLone() {
		root = root.made.kids[0]
	}
	return root
}

// write writes what is made from root on down, and tells root's page. If that can't be, no page was taken.
func write(p *pager.Pager, root kid) (uint32, api.Errno) {
	pages, e := alloc(p, madeIn(root))
	if e != api.OK {
		return 0, e
	}
	w := writer{pager: p, pages: pages}
	page, e := w.write(root)
	if e != api.OK {
		free(p, pages)
		return 0, e
	}
	return page, api.OK
}

// madeIn tells how many pages a node and those below it ask for.
func madeIn(k kid) int {
	if k.made == nil {
		return 0
	}
	n := 1
	for _, below := range k.made.kids {
		n += madeIn(below)
	}
	return n
}

// alloc takes all pages or none.
func alloc(p *pager.Pager, n int) ([]uint32, api.Errno) {
	var pages []uint32
	for range n {
		page, e := p.Alloc()
		if e != api.OK {
			free(p, pages)
			return nil, e
		}
		pages = append(pages, page)
	}
	return pages, api.OK
}

// free doesn't ask for errors: a pager that tells one is broken, and has no pages until it is opened again.
func free(p *pager.Pager, pages []uint32) {
	for _, page := range pages {
		p.Free(page)
	}
}

type writer struct {
	pager *pager.Pager
	pages []uint32 // that are taken, and nothing was written to yet
}

// write writes the kids ahead of a node: it holds their pages' numbers.
func (w *writer) write(k kid) (uint32, api.Errno) {
	if k.made == nil {
		return k.page, api.OK
	}
	n := part{pairs: k.made.pairs, keys: k.made.keys, kids: make([]kid, len(k.made.kids))}
	for i, below := range k.made.kids {
		page, e := w.write(below)
		if e != api.OK {
			return 0, e
		}
		n.kids[i].page = page
	}
	b, e := n.bytes()
	if e != api.OK {
		return 0, e
	}
	page := w.pages[0]
	w.pages = w.pages[1:]
	return page, w.pager.Write(page, b)
}
