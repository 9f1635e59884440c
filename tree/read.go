package tree

import (
	"sacristy/api"
	"sacristy/node"
	"sacristy/pager"
)

// reader reads each page of a tree once: whatever a page tells, no way goes round, and no way is gone again and again.
type reader struct {
	pager *pager.Pager
	seen  map[uint32]struct{}
}

func readerOf(p *pager.Pager) reader {
	return reader{pager: p, seen: map[uint32]struct{}{}}
}

func (r reader) read(page uint32) (part, api.Errno) {
	if _, again := r.seen[page]; again {
		return part{}, api.ErrTree
	}
	r.seen[page] = struct{}{}
	b, e := r.pager.Read(page)
	if e != api.OK {
		return part{}, e
	}
	if node.Kind(b) == 1 {
		pairs, e := node.ReadLeaf(b)
		return part{pairs: pairs}, e
	}
	keys, pages, e := node.ReadBranch(b)
	if e != api.OK {
		return part{}, e
	}
	kids := make([]kid, len(pages))
	for i, page := range pages {
		kids[i].page = page
	}
	return part{keys: keys, kids: kids}, api.OK
}

// step of a way down: a branch, and which of its kids the way goes on to.
type step struct {
	branch part
	at     int
}

// descend goes down to the leaf that the key belongs to.
func (r reader) descend(root uint32, key string) ([]step, part, api.Errno) {
	var path []step
	n, e := r.read(root)
	for e == api.OK && !n.isLeaf() {
		at := n.kidOf(key)
		path = append(path, step{branch: n, at: at})
		n, e = r.read(n.kids[at].page)
	}
	if e != api.OK {
		return nil, part{}, e
	}
	return path, n, api.OK
}

// count tells how many pairs there are from a page on down; all pages are seen then.
func (r reader) count(page uint32) (int, api.Errno) {
	n, e := r.read(page)
	if e != api.OK {
		return 0, e
	}
	pairs := len(n.pairs)
	for _, k := range n.kids {
		below, e := r.count(k.page)
		if e != api.OK {
			return 0, e
		}
		pairs += below
	}
	return pairs, api.OK
}

// scan gathers pairs; it reads no page that can't have any of them.
type scan struct {
	reader
	from, to string
	most     int
	found    []api.Pair
}

func (s *scan) page(page uint32) api.Errno {
	n, e := s.read(page)
	if e != api.OK {
		return e
	}
	for _, x := range n.pairs {
		if s.from <= x.Key && s.isAhead(x.Key) && len(s.found) < s.most {
			s.found = append(s.found, x)
		}
	}
	for i, k := range n.kids {
		if i > 0 && !s.isAhead(n.keys[i-1]) || len(s.found) >= s.most {
			break
		}
		if i < len(n.keys) && n.keys[i] <= s.from {
			continue
		}
		if e := s.page(k.page); e != api.OK {
			return e
		}
	}
	return api.OK
}

// isAhead tells whether a key is ahead of the end.
func (s *scan) isAhead(key string) bool {
	return s.to == "" || key < s.to
}

// check goes through all that can be read: that it is no tree goes ahead of what can't be.
type check struct {
	reader
	depth  int       // of the leaves; 0: none was met
	unread api.Errno // of the first page that can't be read
}

// page checks what is from a page on down: keys from low on, below high ("": without an end).
func (c *check) page(page uint32, depth int, low, high string) api.Errno {
	n, e := c.read(page)
	switch {
	case e == api.ErrTree:
		return e
	case e != api.OK:
		if c.unread == api.OK {
			c.unread = e
		}
		return api.OK
	case n.isLeaf():
		return c.leaf(n, depth, low, high)
	}
	if n.keys[0] <= low || !isBelow(n.keys[len(n.keys)-1], high) {
		return api.ErrTree
	}
	for i, k := range n.kids {
		end := high
		if i < len(n.keys) {
			end = n.keys[i]
		}
		if e := c.page(k.page, depth+1, low, end); e != api.OK {
			return e
		}
		low = end
	}
	return api.OK
}

func (c *check) leaf(n part, depth int, low, high string) api.Errno {
	if c.depth == 0 {
		c.depth = depth
	}
	if c.depth != depth {
		return api.ErrTree
	}
	if n.isEmpty() {
		if depth > 1 {
			return api.ErrTree
		}
		return api.OK
	}
	if n.pairs[0].Key < low || !isBelow(n.pairs[len(n.pairs)-1].Key, high) {
		return api.ErrTree
	}
	return api.OK
}

func isBelow(key, high string) bool {
	return high == "" || key < high
}
