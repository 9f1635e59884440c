package store

import (
	"maps"
	"slices"

	"sacristy/api"
	"sacristy/bits"
)

const (
	maxName  = 10 // bytes of a snapshot's name
	rootSize = 4  // bytes of a root in the meta
)

// root of a tree: its page and one more. A tree that nothing was written to has no page: a pager without anything is a
// store.
type root uint32

const none root = 0

func rootAt(page uint32) root {
	return root(page + 1)
}

func (r root) page() uint32 {
	return uint32(r - 1)
}

// trees: what a store has. The live one is the pager's root, the snapshots stand in its meta.
type trees struct {
	live  root
	snaps map[string]root
}

// treesOf reads what meta wrote; false of anything else.
func treesOf(live uint32, meta string) (trees, bool) {
	t := trees{live: root(live), snaps: map[string]root{}}
	for b := []byte(meta); len(b) > 0; {
		name, behind, e := bits.GetText(b, maxName)
		if e != api.OK || !isName(name) {
			return trees{}, false
		}
		r, rest, e := bits.Get(behind, rootSize)
		if e != api.OK {
			return trees{}, false
		}
		t.snaps[name] = root(r)
		b = rest
	}
	return t, len(t.snaps) <= api.MaxSnaps && t.meta() == meta
}

func (t trees) meta() string {
	var b []byte
	for _, name := range t.names() {
		b = bits.Put(bits.Text(b, name), uint64(t.snaps[name]), rootSize)
	}
	return string(b)
}

// names are in order: which error is met first must not hang on a map's order.
func (t trees) names() []string {
	return slices.Sorted(maps.Keys(t.snaps))
}

// all tells the roots of those trees that have pages.
func (t trees) all() []root {
	l := []root{t.live}
	for _, name := range t.names() {
		l = append(l, t.snaps[name])
	}
	return slices.DeleteFunc(l, func(r root) bool { return r == none })
}

func (t trees) copied() trees {
	c := trees{live: t.live, snaps: map[string]root{}}
	maps.Copy(c.snaps, t.snaps)
	return c
}

func isName(name string) bool {
	for i := range len(name) {
		if c := name[i]; (c < 'a' || c > 'z') && (c < '0' || c > '9') {
			return false
		}
	}
	return len(name) >= 1 && len(name) <= maxName
}
