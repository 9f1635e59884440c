package store

import (
	"maps"
	"slices"

	"sacristy/api"
	"sacristy/pager"
	"sacristy/sector"
	"sacristy/tree"
)

// view: trees on a pager, to be read.
type view struct {
	pager *pager.Pager
	trees trees
}

// viewOf opens what the last Commit kept.
func viewOf(d *sector.Disk, k api.Key) (view, api.Errno) {
	p, e := pager.Open(d, k)
	if e != api.OK {
		return view{}, e
	}
	t, ok := treesOf(p.Root(), p.Meta())
	if !ok {
		// The pages are somebody else's: there is no superblock of a store.
		return view{}, api.ErrSuper
	}
	return view{pager: p, trees: t}, api.OK
}

func (v view) get(r root, key string) (string, bool, api.Errno) {
	if r == none {
		return "", false, api.OK
	}
	return tree.Get(v.pager, r.page(), key)
}

func (v view) scan(r root, from, to string, most int) ([]api.Pair, api.Errno) {
	if r == none {
		return nil, api.OK
	}
	return tree.Scan(v.pager, r.page(), from, to, most)
}

// pairs tells how many there are in the live tree.
func (v view) pairs() int {
	if v.trees.live == none {
		return 0
	}
	n, _ := tree.Len(v.pager, v.trees.live.page())
	return n
}

// pages tells the used ones, and those that the trees reach. The trees are asked, not the counts, so that it can be seen
// whether those are right.
func (v view) pages() ([]uint32, []uint32) {
	if v.pager == nil {
		return nil, nil
	}
	reached := map[uint32]struct{}{}
	for _, r := range v.trees.all() {
		l, _ := tree.Reach(v.pager, r.page())
		for _, page := range l {
			reached[page] = struct{}{}
		}
	}
	return v.pager.Used(), slices.Sorted(maps.Keys(reached))
}
