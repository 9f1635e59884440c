package store

import (
	"cmp"
	"maps"
	"math"
	"slices"

	"sacristy/api"
	"sacristy/node"
	"sacristy/tree"
)

// draft: trees that are being changed. A page is used as long as it counts.
type draft struct {
	view
	counts map[uint32]int // of each page, how many roots and branches name it; nil: nobody asked yet
}

func (d draft) copied() draft {
	return draft{view: view{pager: d.pager, trees: d.trees.copied()}, counts: maps.Clone(d.counts)}
}

// count is asked for by changes alone, so that a store with a page that can't be read may be opened, and read elsewhere.
func (d *draft) count() api.Errno {
	if d.counts != nil {
		return api.OK
	}
	d.counts = map[uint32]int{}
	for _, r := range d.trees.all() {
		if e := d.hold(r.page()); e != api.OK {
			return e
		}
	}
	return api.OK
}

func (d *draft) commit() api.Errno {
	return d.pager.Commit(uint32(d.trees.live), d.trees.meta())
}

// writeAll makes the writes, each by a tree of its own: pages of the one ahead of it are free again for the next.
func (d *draft) writeAll(l []api.Write) api.Errno {
	for _, w := range l {
		if e := d.write(w); e != api.OK {
			return e
		}
	}
	return api.OK
}

func (d *draft) write(w api.Write) api.Errno {
	if e := d.begin(); e != api.OK {
		return e
	}
	page, e := d.trees.live.page(), api.OK
	if w.Drop {
		page, _, e = tree.Delete(d.pager, page, w.Key)
	} else {
		page, e = tree.Put(d.pager, page, w.Key, w.Val)
	}
	if e != api.OK {
		return e
	}
	return d.setLive(rootAt(page))
}

// begin sees to it that the live tree has a page.
func (d *draft) begin() api.Errno {
	if d.trees.live != none {
		return api.OK
	}
	page, e := tree.Empty(d.pager)
	if e != api.OK {
		return e
	}
	return d.setLive(rootAt(page))
}

// rebuild makes the tree that the writes make, anew, from its pairs. A tree has no more than twice as many pages as
// pairs, and each one on the way has fewer pairs: there is room for it wherever the chapter says that there is.
func (d *draft) rebuild(l []api.Write) api.Errno {
	old, e := d.scan(d.trees.live, "", "", math.MaxInt)
	if e != api.OK {
		return e
	}
	pairs := written(old, l)
	if node.Size(pairs) > d.pager.Room()*api.MaxPlain {
		return api.ErrSpace // told at once: the leaves alone wouldn't fit
	}
	if e := d.setLive(none); e != api.OK {
		return e
	}
	for _, x := range pairs {
		if e := d.write(api.Write{Key: x.Key, Val: x.Val}); e != api.OK {
			return e
		}
	}
	return api.OK
}

func (d *draft) snap(name string) api.Errno {
	d.trees.snaps[name] = d.trees.live
	return d.holdTree(d.trees.live)
}

func (d *draft) unsnap(name string) api.Errno {
	r := d.trees.snaps[name]
	delete(d.trees.snaps, name)
	return d.releaseTree(r)
}

// setLive holds the new tree ahead of releasing the elder one: what both have must stay.
func (d *draft) setLive(r root) api.Errno {
	elder := d.trees.live
	d.trees.live = r
	if e := d.holdTree(r); e != api.OK {
		return e
	}
	return d.releaseTree(elder)
}

func (d *draft) holdTree(r root) api.Errno {
	if r == none {
		return api.OK
	}
	return d.hold(r.page())
}

func (d *draft) releaseTree(r root) api.Errno {
	if r == none {
		return api.OK
	}
	return d.release(r.page())
}

// hold counts a page once more; those below it are counted with the first time.
func (d *draft) hold(page uint32) api.Errno {
	d.counts[page]++
	if d.counts[page] > 1 {
		return api.OK
	}
	kids, e := d.kids(page)
	if e != api.OK {
		return e
	}
	for _, kid := range kids {
		if e := d.hold(kid); e != api.OK {
			return e
		}
	}
	return api.OK
}

// release counts a page once less; with the last time it is free, and those below it are released.
func (d *draft) release(page uint32) api.Errno {
	if d.counts[page] > 1 {
		d.counts[page]--
		return api.OK
	}
	kids, e := d.kids(page)
	if e != api.OK {
		return e
	}
	delete(d.counts, page)
	if e := d.pager.Free(page); e != api.OK {
		return e
	}
	for _, kid := range kids {
		if e := d.release(kid); e != api.OK {
			return e
		}
	}
	return api.OK
}

// kids tells the pages that a page names.
func (d *draft) kids(page uint32) ([]uint32, api.Errno) {
	b, e := d.pager.Read(page)
	if e != api.OK {
		return nil, e
	}
	if node.Kind(b) == 1 {
		return nil, api.OK
	}
	_, kids, e := node.ReadBranch(b)
	return kids, e
}

// written is what the writes make of the pairs, by keys.
func written(old []api.Pair, l []api.Write) []api.Pair {
	now := map[string]api.Pair{}
	for _, x := range old {
		now[x.Key] = x
	}
	for _, w := range l {
		if w.Drop {
			delete(now, w.Key)
		} else {
			now[w.Key] = api.Pair{Key: w.Key, Val: w.Val}
		}
	}
	return slices.SortedFunc(maps.Values(now), func(a, b api.Pair) int { return cmp.Compare(a.Key, b.Key) })
}

func isBatch(l []api.Write) bool {
	return len(l) >= 1 && len(l) <= api.MaxBatch && !slices.ContainsFunc(l, isWrong)
}

func isWrong(w api.Write) bool {
	return len(w.Key) < 1 || len(w.Key) > api.MaxKey || len(w.Val) > api.MaxVal || w.Drop && w.Val != ""
}
