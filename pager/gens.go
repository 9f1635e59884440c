package pager

// gens that a pager may seal pages with: from next on, below limit. Nobody else takes these, nor comes to them behind a
// crash: the newest superblock tells the limit ahead of the first one's use.
type gens struct {
	first, next, limit uint64
}

func gensFrom(gen uint64) gens {
	return gens{first: gen, next: gen, limit: gen}
}

func (g gens) none() bool {
	return g.next == g.limit
}

// more are gens with at least one more of them; known is the limit that the disk tells.
// As many again as were used, and no more: a crash leaves no more of them out than were used, whenever it comes.
func (g gens) more(known uint64) gens {
	if known > g.limit { // another pager took some
		g = gensFrom(known)
	}
	used := g.next - g.first
	g.limit = max(g.limit, g.next+used) + 1
	return g
}
