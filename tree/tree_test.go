package tree

import (
	"bytes"
	"fmt"
	"maps"
	"math"
	"math/rand"
	"slices"
	"strings"
	"testing"

	"sacristy/api"
	"sacristy/pager"
	"sacristy/sector"
)

// diskOf has that many pages, and a pager on it.
func diskOf(t *testing.T, pages int) (*sector.Disk, *pager.Pager) {
	t.Helper()
	d := sector.New(32 + 8*pages)
	p, e := pager.Format(d, api.Key{9})
	if e != api.OK {
		t.Fatal(e)
	}
	return d, p
}

func begun(t *testing.T, pages int) (*pager.Pager, uint32) {
	t.Helper()
	_, p := diskOf(t, pages)
	root, e := Empty(p)
	if e != api.OK {
		t.Fatal(e)
	}
	return p, root
}

func put(t *testing.T, p *pager.Pager, root uint32, key, val string) uint32 {
	t.Helper()
	next, e := Put(p, root, key, val)
	if e != api.OK {
		t.Fatalf("P9.1: Put of %q: %v", key, e)
	}
	return next
}

func drop(t *testing.T, p *pager.Pager, root uint32, key string) uint32 {
	t.Helper()
	next, had, e := Delete(p, root, key)
	if e != api.OK || !had {
		t.Fatalf("P9.1: Delete of %q: %v, %v", key, had, e)
	}
	return next
}

// keepOnly frees all pages that none of these trees reaches.
func keepOnly(t *testing.T, p *pager.Pager, roots ...uint32) {
	t.Helper()
	kept := map[uint32]int{}
	for _, root := range roots {
		_, pages, _ := looked(t, p, root)
		for _, id := range pages {
			kept[id]++
		}
	}
	for _, id := range p.Used() {
		if kept[id] == 0 {
			p.Free(id)
		}
	}
}

// plainNode is a page read another way: by a place that moves through its bytes.
type plainNode struct {
	leaf  bool
	pairs []api.Pair
	keys  []string
	kids  []uint32
}

func plainOf(b []byte) plainNode {
	at := 3
	number := func(size int) int {
		n := 0
		for range size {
			n = n*256 + int(b[at])
			at++
		}
		return n
	}
	text := func() string {
		n := number(2)
		at += n
		return string(b[at-n : at])
	}
	n := plainNode{leaf: b[0] == 1}
	count := int(b[1])*256 + int(b[2])
	for range count {
		if n.leaf {
			k := text()
			n.pairs = append(n.pairs, api.Pair{Key: k, Val: text()})
		} else {
			n.keys = append(n.keys, text())
		}
	}
	for !n.leaf && len(n.kids) <= count {
		n.kids = append(n.kids, uint32(number(4)))
	}
	return n
}

// looked goes through a tree by its pages' bytes, level by level, and refuses what is none; it tells the pairs, the pages, and how deep it is.
func looked(t *testing.T, p *pager.Pager, root uint32) ([]api.Pair, []uint32, int) {
	t.Helper()
	type place struct {
		page      uint32
		low, high string
	}
	level, depth := []place{{page: root}}, 0
	var pairs []api.Pair
	var pages []uint32
	for len(level) > 0 {
		depth++
		var next []place
		leaves := 0
		for _, at := range level {
			b, e := p.Read(at.page)
			if e != api.OK {
				t.Fatalf("P9.2: page %d of the tree: %v", at.page, e)
			}
			n := plainOf(b)
			pages = append(pages, at.page)
			rising := slices.Clone(n.keys)
			if n.leaf {
				leaves++
				pairs = append(pairs, n.pairs...)
				for _, x := range n.pairs {
					rising = append(rising, x.Key)
				}
			}
			if len(rising) == 0 && (depth > 1 || !n.leaf) {
				t.Fatalf("P9.2: page %d is empty", at.page)
			}
			for i, k := range rising {
				if k < at.low || at.high != "" && k >= at.high || i > 0 && rising[i-1] >= k {
					t.Fatalf("P9.2: page %d has %q: from %q until %q", at.page, k, at.low, at.high)
				}
			}
			for i, id := range n.kids {
				below := place{page: id, low: at.low, high: at.high}
				if i > 0 {
					below.low = n.keys[i-1]
				}
				if i < len(n.keys) {
					below.high = n.keys[i]
				}
				next = append(next, below)
			}
		}
		if leaves != 0 && leaves != len(level) {
			t.Fatalf("P9.2: %d of %d nodes on level %d are leaves", leaves, len(level), depth)
		}
		level = next
	}
	slices.Sort(pages)
	if len(slices.Compact(slices.Clone(pages))) != len(pages) {
		t.Fatalf("P9.2: a page is reached twice: %v", pages)
	}
	return pairs, pages, depth
}

func listOf(m map[string]string, from, to string, most int) []api.Pair {
	var l []api.Pair
	for _, k := range slices.Sorted(maps.Keys(m)) {
		if k >= from && (to == "" || k < to) && len(l) < most {
			l = append(l, api.Pair{Key: k, Val: m[k]})
		}
	}
	return l
}

// holds asks all readers of a tree, and goes through its pages another way.
func holds(t *testing.T, promise string, p *pager.Pager, root uint32, m map[string]string) {
	t.Helper()
	want := listOf(m, "", "", math.MaxInt)
	pairs, pages, _ := looked(t, p, root)
	if !slices.Equal(pairs, want) {
		t.Fatalf("%s: the pages of %d hold %v, want %v", promise, root, pairs, want)
	}
	if l, e := Scan(p, root, "", "", math.MaxInt); e != api.OK || !slices.Equal(l, want) {
		t.Fatalf("%s: Scan: %v, %v, want %v", promise, l, e, want)
	}
	if n, e := Len(p, root); e != api.OK || n != len(m) {
		t.Fatalf("%s: Len: %d, %v, want %d", promise, n, e, len(m))
	}
	if l, e := Reach(p, root); e != api.OK || !slices.Equal(l, pages) {
		t.Fatalf("%s: Reach: %v, %v, want %v", promise, l, e, pages)
	}
	if e := Check(p, root); e != api.OK {
		t.Fatalf("%s: Check: %v", promise, e)
	}
}

func has(t *testing.T, p *pager.Pager, root uint32, m map[string]string, key string) {
	t.Helper()
	want, is := m[key]
	if v, had, e := Get(p, root, key); e != api.OK || had != is || v != want {
		t.Fatalf("P9.1: Get of %q: %q, %v, %v; want %q, %v", key, v, had, e, want, is)
	}
}

// bytesOf are the plain bytes of those pages.
func bytesOf(t *testing.T, p *pager.Pager, pages []uint32) [][]byte {
	t.Helper()
	var l [][]byte
	for _, id := range pages {
		b, e := p.Read(id)
		if e != api.OK {
			t.Fatal(e)
		}
		l = append(l, b)
	}
	return l
}

// stays tells by a function, to be called later, whether a tree's pages are all there and have their bytes still.
func stays(t *testing.T, p *pager.Pager, root uint32) func() {
	t.Helper()
	_, pages, _ := looked(t, p, root)
	was := bytesOf(t, p, pages)
	return func() {
		t.Helper()
		if now := bytesOf(t, p, pages); !slices.EqualFunc(now, was, bytes.Equal) {
			t.Fatal("P9.1: a page of the elder tree was changed")
		}
	}
}

// noneLost: what is used behind a change is what was used ahead of it and what the new tree reaches.
func noneLost(t *testing.T, p *pager.Pager, was []uint32, root uint32) {
	t.Helper()
	_, pages, _ := looked(t, p, root)
	want := slices.Concat(was, pages)
	slices.Sort(want)
	if now := p.Used(); !slices.Equal(now, slices.Compact(want)) {
		t.Fatalf("P9.1: used %v, want %v", now, slices.Compact(want))
	}
}

// kinds of keys and values that plays are made of.
type kind struct {
	name     string
	key, val func(r *rand.Rand) string
}

func number(most int, form string) func(r *rand.Rand) string {
	return func(r *rand.Rand) string { return fmt.Sprintf(form, r.Intn(most)) }
}

func text(least, most int) func(r *rand.Rand) string {
	return func(r *rand.Rand) string {
		return strings.Repeat(string(rune('a'+r.Intn(26))), least+r.Intn(most-least+1))
	}
}

// bytesKey has whatever bytes, so that an order by anything but bytes is seen.
func bytesKey(r *rand.Rand) string {
	b := make([]byte, 1+r.Intn(3))
	for i := range b {
		b[i] = []byte{0, 1, 'a', 'k', 0x7f, 0x80, 0xff}[r.Intn(7)]
	}
	return string(b)
}

// shortOrLong are keys by which a branch grows a lot when a short one gives way to a long one.
func shortOrLong(r *rand.Rand) string {
	k := fmt.Sprintf("%03d", r.Intn(250))
	if r.Intn(2) == 0 {
		k += strings.Repeat("x", 57)
	}
	return k
}

func kinds() []kind {
	return []kind{
		{"small", number(200, "%d"), text(0, 3)},
		{"full", number(60, "%060d"), text(150, 150)},
		{"mixed", number(80, "%d"), text(0, 150)},
		{"long keys", number(220, "%060d"), text(0, 0)},
		{"long beginnings", number(100, strings.Repeat("k", 40)+"%d"), text(0, 60)},
		{"bytes", bytesKey, text(0, 40)},
		{"short and long", shortOrLong, text(0, 10)},
	}
}

// TestPlays: rows of Puts and Deletes, growing and shrinking, against a map. (P9.1, P9.2, P9.3)
func TestPlays(t *testing.T) {
	for i, k := range kinds() {
		t.Run(k.name, func(t *testing.T) {
			t.Parallel()
			r := rand.New(rand.NewSource(int64(i)))
			p, root := begun(t, 400)
			m := map[string]string{}
			grow := true
			for n := range 480 {
				if n%120 == 0 {
					grow = n%240 == 0
				}
				was, old, elder := p.Used(), root, maps.Clone(m)
				check := stays(t, p, root)
				key := k.key(r)
				if !grow && len(m) > 0 && r.Intn(8) > 0 {
					key = slices.Sorted(maps.Keys(m))[r.Intn(len(m))]
				}
				if (r.Intn(8) > 0) == grow {
					m[key] = k.val(r)
					root = put(t, p, root, key, m[key])
				} else {
					_, is := m[key]
					next, had, e := Delete(p, root, key)
					if e != api.OK || had != is || !is && next != root {
						t.Fatalf("P9.1: Delete of %q: %d, %v, %v", key, next, had, e)
					}
					delete(m, key)
					root = next
				}
				if pairs, _, _ := looked(t, p, root); n%5 > 0 && !slices.Equal(pairs, listOf(m, "", "", math.MaxInt)) {
					t.Fatalf("P9.1: behind %q: %v", key, pairs)
				} else if n%5 == 0 {
					holds(t, "P9.1, P9.2", p, root, m)
				}
				has(t, p, root, m, key)
				has(t, p, root, m, k.key(r))
				has(t, p, old, elder, key)
				check()
				noneLost(t, p, was, root)
				if n%10 == 0 {
					holds(t, "P9.3", p, old, elder)
				}
				keepOnly(t, p, root)
			}
		})
	}
}

// TestEmpty: P9.1: each time another page, with the chapter's three bytes.
func TestEmpty(t *testing.T) {
	_, p := diskOf(t, 4)
	for i := range uint32(4) {
		root, e := Empty(p)
		if e != api.OK || root != i {
			t.Fatalf("P9.1: Empty: %d, %v", root, e)
		}
		if b, e := p.Read(root); e != api.OK || !bytes.Equal(b, []byte{1, 0, 0}) {
			t.Errorf("P9.1: an empty leaf: %v, %v", b, e)
		}
		holds(t, "P9.1", p, root, nil)
		has(t, p, root, nil, "k")
	}
	if root, e := Empty(p); root != 0 || e != api.ErrSpace || len(p.Used()) != 4 {
		t.Errorf("P9.1: Empty without room: %d, %v", root, e)
	}
}

// TestExample: the chapter's: the elder root has nothing still.
func TestExample(t *testing.T) {
	p, root := begun(t, 40)
	next := put(t, p, root, "k", "v")
	holds(t, "P9.1", p, root, nil)
	holds(t, "P9.1", p, next, map[string]string{"k": "v"})
}

// TestKeysAndValuesAtTheEdges: P9.1: 1 to 60 bytes, 0 to 150; one past is ErrTree, and nothing is changed.
func TestKeysAndValuesAtTheEdges(t *testing.T) {
	p, root := begun(t, 400)
	m := map[string]string{}
	for _, n := range []int{1, 2, 59, 60} {
		for _, v := range []int{0, 1, 149, 150} {
			k := strings.Repeat("k", n)
			m[k] = strings.Repeat("v", v)
			root = put(t, p, root, k, m[k])
			holds(t, "P9.1", p, root, m)
		}
	}
	used, check := p.Used(), stays(t, p, root)
	for _, x := range []struct{ k, v int }{{0, 0}, {0, 150}, {61, 0}, {61, 151}, {1, 151}, {60, 151}, {0, 151}, {70000, 1}, {1, 70000}} {
		next, e := Put(p, root, strings.Repeat("k", x.k), strings.Repeat("v", x.v))
		if next != 0 || e != api.ErrTree || !slices.Equal(p.Used(), used) {
			t.Errorf("P9.1: Put of %d and %d bytes: %d, %v", x.k, x.v, next, e)
		}
	}
	check()
	for _, n := range []int{0, 61, 70000} {
		k := strings.Repeat("k", n)
		has(t, p, root, m, k)
		if next, had, e := Delete(p, root, k); next != root || had || e != api.OK {
			t.Errorf("P9.1: Delete of %d bytes: %d, %v, %v", n, next, had, e)
		}
	}
}

// TestNoSuchKeyGoesAheadOfAll: P9.1: ErrTree is the error that is named first: without room, without a tree, without power.
func TestNoSuchKeyGoesAheadOfAll(t *testing.T) {
	d, p := diskOf(t, 4)
	for range 4 {
		if _, e := p.Alloc(); e != api.OK {
			t.Fatal(e)
		}
	}
	for _, off := range []bool{false, true} {
		if off {
			d.Power(1)
			d.Flush()
		}
		for _, root := range []uint32{0, 99} {
			if next, e := Put(p, root, "", "v"); next != 0 || e != api.ErrTree {
				t.Errorf("P9.1: page %d, off %v: %d, %v", root, off, next, e)
			}
		}
	}
}

// TestDeleteOfNothing: P9.1: root, and no page more.
func TestDeleteOfNothing(t *testing.T) {
	p, root := begun(t, 400)
	m := map[string]string{}
	for i := range 40 {
		k := fmt.Sprintf("%02d", 2*i)
		m[k] = strings.Repeat("v", 100)
		root = put(t, p, root, k, m[k])
	}
	for range p.Room() {
		if _, e := p.Alloc(); e != api.OK {
			t.Fatal(e)
		}
	}
	used := p.Used()
	for i := range 40 {
		for _, k := range []string{fmt.Sprintf("%02d", 2*i+1), fmt.Sprintf("%02dx", 2*i)} {
			if next, had, e := Delete(p, root, k); next != root || had || e != api.OK || !slices.Equal(p.Used(), used) {
				t.Fatalf("P9.1: %q: %d, %v, %v", k, next, had, e)
			}
		}
	}
	if next, had, e := Delete(p, root, "02"); next != 0 || had || e != api.ErrSpace || !slices.Equal(p.Used(), used) {
		t.Errorf("P9.1: without room: %d, %v, %v", next, had, e)
	}
	holds(t, "P9.1", p, root, m)
}

// TestScanOfEachRange: P9.1: each key and the places between as both ends, each most.
func TestScanOfEachRange(t *testing.T) {
	t.Parallel()
	p, root := begun(t, 400)
	m := map[string]string{}
	ends := []string{"", "\x00", "\xff"}
	for i := range 14 {
		k := string(rune('a' + i))
		m[k] = strings.Repeat(k, 120)
		root = put(t, p, root, k, m[k])
		keepOnly(t, p, root)
		ends = append(ends, k, k+"\x00")
	}
	if _, _, depth := looked(t, p, root); depth < 2 {
		t.Fatal("it has one leaf only")
	}
	for _, from := range ends {
		for _, to := range ends {
			for _, most := range []int{math.MinInt, -1, 0, 1, 2, 3, 5, 13, 14, 15, math.MaxInt} {
				want := listOf(m, from, to, most)
				if l, e := Scan(p, root, from, to, most); e != api.OK || !slices.Equal(l, want) {
					t.Fatalf("P9.1: from %q until %q, at most %d: %v, %v", from, to, most, l, e)
				}
			}
		}
	}
}

// TestDeepTreesShrink: P9.1, P9.2: several levels, and all keys go again, in several orders.
func TestDeepTreesShrink(t *testing.T) {
	key := func(i int) string { return fmt.Sprintf("%03d", i) + strings.Repeat("k", 57) }
	orders := map[string]func(i, n int) int{
		"rising":  func(i, n int) int { return i },
		"falling": func(i, n int) int { return n - 1 - i },
		"middle":  func(i, n int) int { return (i + n/3) % n },
		"strewn":  func(i, n int) int { return i * 101 % n },
		"ends":    func(i, n int) int { return i/2 + i%2*(n-1-2*(i/2)) },
	}
	const n = 190
	for _, pair := range []string{"rising rising", "rising strewn", "rising ends", "falling middle", "falling falling", "middle ends", "strewn rising", "strewn falling", "strewn strewn", "ends middle"} {
		name, second, _ := strings.Cut(pair, " ")
		in, out := orders[name], orders[second]
		t.Run(pair, func(t *testing.T) {
			t.Parallel()
			p, root := begun(t, 400)
			m := map[string]string{}
			for i := range n {
				k := key(in(i, n))
				m[k] = strings.Repeat("v", i%100)
				root = put(t, p, root, k, m[k])
				keepOnly(t, p, root)
			}
			holds(t, "P9.1", p, root, m)
			if _, _, depth := looked(t, p, root); depth < 3 {
				t.Fatalf("it is %d deep only", depth)
			}
			for i := range n {
				k := key(out(i, n))
				delete(m, k)
				root = drop(t, p, root, k)
				if pairs, _, _ := looked(t, p, root); !slices.Equal(pairs, listOf(m, "", "", n)) || Check(p, root) != api.OK {
					t.Fatalf("P9.1: behind the Delete of %q: %v", k, pairs)
				}
				keepOnly(t, p, root)
			}
			holds(t, "P9.2", p, root, m)
			if l := p.Used(); len(l) != 1 {
				t.Errorf("P9.2: an empty tree has the pages %v", l)
			}
		})
	}
}

// TestPagesAreSpared: what is deleted leaves no row of nearly empty pages, and a change takes few of them.
func TestPagesAreSpared(t *testing.T) {
	t.Parallel()
	p, root := begun(t, 400)
	for i := range 400 {
		was := p.Used()
		_, _, depth := looked(t, p, root)
		root = put(t, p, root, fmt.Sprintf("%03d", i*7%400), "0123456789")
		if more := len(p.Used()) - len(was); more > 2*depth+1 {
			t.Fatalf("%d pages for a Put into %d levels", more, depth)
		}
		keepOnly(t, p, root)
	}
	if n := len(p.Used()); n > 36 {
		t.Errorf("400 pairs of 17 bytes: %d pages", n)
	}
	for i := range 400 {
		if i%20 == 0 {
			continue
		}
		_, _, depth := looked(t, p, root)
		was := len(p.Used())
		root = drop(t, p, root, fmt.Sprintf("%03d", i))
		if more := len(p.Used()) - was; more > 2*depth {
			t.Fatalf("%d pages for a Delete out of %d levels", more, depth)
		}
		keepOnly(t, p, root)
	}
	if n := len(p.Used()); n > 5 {
		t.Errorf("20 pairs of 17 bytes: %d pages", n)
	}
}

// TestValuesShrinkAndGrow: P9.1: in the place of the key's: a leaf grows out of its page, and small ones go together.
func TestValuesShrinkAndGrow(t *testing.T) {
	t.Parallel()
	p, root := begun(t, 400)
	m := map[string]string{}
	for round, size := range []int{0, 150, 10, 149, 1, 75, 0, 150, 0} {
		for i := range 60 {
			k := fmt.Sprintf("%02d", i*37%60)
			m[k] = strings.Repeat(string(rune('a'+round)), size)
			root = put(t, p, root, k, m[k])
			holds(t, "P9.1", p, root, m)
			keepOnly(t, p, root)
		}
	}
	if n := len(p.Used()); n > 3 {
		t.Errorf("60 pairs of 6 bytes: %d pages", n)
	}
}

// filled leaves so much room.
func filled(t *testing.T, p *pager.Pager, room int) []uint32 {
	t.Helper()
	var ids []uint32
	for p.Room() > room {
		id, e := p.Alloc()
		if e != api.OK {
			t.Fatal(e)
		}
		ids = append(ids, id)
	}
	return ids
}

// TestEachRoom: P9.1: a change is done as soon as there is room for its pages; with less it is ErrSpace, and what was allocated is free again.
func TestEachRoom(t *testing.T) {
	for i, k := range kinds() {
		t.Run(k.name, func(t *testing.T) {
			t.Parallel()
			r := rand.New(rand.NewSource(int64(i)))
			p, root := begun(t, 150)
			m := map[string]string{}
			for n := range 160 {
				key, val := k.key(r), k.val(r)
				deletes := len(m) > 0 && (n > 80) == (r.Intn(5) > 0)
				if deletes {
					key = slices.Sorted(maps.Keys(m))[r.Intn(len(m))]
				}
				change := func() (uint32, bool, api.Errno) {
					if deletes {
						return Delete(p, root, key)
					}
					next, e := Put(p, root, key, val)
					return next, e == api.OK, e
				}
				was := p.Used()
				next, ok, e := change()
				if !ok || e != api.OK {
					t.Fatalf("P9.1: %q: %v", key, e)
				}
				need := len(p.Used()) - len(was)
				for _, id := range p.Used() {
					if !slices.Contains(was, id) {
						p.Free(id)
					}
				}
				check := stays(t, p, root)
				for room := range need {
					others := filled(t, p, room)
					used := p.Used()
					next, ok, e := change()
					if next != 0 || ok || e != api.ErrSpace || !slices.Equal(p.Used(), used) || p.Room() != room {
						t.Fatalf("P9.1: %q with room for %d of %d pages: %d, %v", key, room, need, next, e)
					}
					for _, id := range others {
						p.Free(id)
					}
				}
				check()
				holds(t, "P9.1", p, root, m)
				others := filled(t, p, need)
				if next, ok, e = change(); !ok || e != api.OK || p.Room() != 0 {
					t.Fatalf("P9.1: %q with room for its %d pages: %v, %d left", key, need, e, p.Room())
				}
				for _, id := range others {
					p.Free(id)
				}
				m[key] = val
				if deletes {
					delete(m, key)
				}
				root = next
				holds(t, "P9.1", p, root, m)
				keepOnly(t, p, root)
			}
		})
	}
}

// TestElderTreesStay: P9.3: a row of trees, all of them kept, over Commits, and opened again.
func TestElderTreesStay(t *testing.T) {
	t.Parallel()
	d, p := diskOf(t, 400)
	root, e := Empty(p)
	if e != api.OK {
		t.Fatal(e)
	}
	r := rand.New(rand.NewSource(3))
	m := map[string]string{}
	roots, models := []uint32{root}, []map[string]string{{}}
	for n := 0; p.Room() > 12; n++ {
		k := fmt.Sprintf("%02d", r.Intn(40))
		if _, is := m[k]; is && r.Intn(2) == 0 {
			delete(m, k)
			root = drop(t, p, root, k)
		} else {
			m[k] = strings.Repeat(string(rune('a'+r.Intn(26))), r.Intn(90))
			root = put(t, p, root, k, m[k])
		}
		roots, models = append(roots, root), append(models, maps.Clone(m))
		if n%7 == 0 {
			if e := p.Commit(root, ""); e != api.OK {
				t.Fatal(e)
			}
		}
	}
	if e := p.Commit(root, ""); e != api.OK {
		t.Fatal(e)
	}
	for _, open := range []bool{false, true} {
		if open {
			d.Crash(nil)
			if p, e = pager.Open(d, api.Key{9}); e != api.OK {
				t.Fatal(e)
			}
		}
		for i, root := range roots {
			holds(t, "P9.3", p, root, models[i])
		}
	}
	if len(roots) < 50 {
		t.Errorf("%d trees only", len(roots))
	}
}

// TestTreesFromOneRoot: P9.3: changes that begin at one root don't see each other.
func TestTreesFromOneRoot(t *testing.T) {
	t.Parallel()
	p, root := begun(t, 400)
	m := map[string]string{}
	for i := range 20 {
		k := fmt.Sprintf("%02d", i)
		m[k] = strings.Repeat("v", 60)
		root = put(t, p, root, k, m[k])
		keepOnly(t, p, root)
	}
	var roots []uint32
	for i := range 20 {
		k := fmt.Sprintf("%02d", i)
		roots = append(roots, put(t, p, root, k, "new"), drop(t, p, root, k))
	}
	for i := range 20 {
		k := fmt.Sprintf("%02d", i)
		n := maps.Clone(m)
		n[k] = "new"
		holds(t, "P9.3", p, roots[2*i], n)
		delete(n, k)
		holds(t, "P9.3", p, roots[2*i+1], n)
	}
	holds(t, "P9.3", p, root, m)
}

// TestAnswersAreNewMemory: DOC.md's rule 3.
func TestAnswersAreNewMemory(t *testing.T) {
	p, root := begun(t, 400)
	m := map[string]string{}
	for i := range 9 {
		k := fmt.Sprint(i)
		m[k] = strings.Repeat("v", 100)
		root = put(t, p, root, k, m[k])
	}
	for range 2 {
		l, e := Scan(p, root, "2", "6", 3)
		ids, f := Reach(p, root)
		if e != api.OK || f != api.OK {
			t.Fatal(e, f)
		}
		l, ids = l[:cap(l)], ids[:cap(ids)]
		for i := range l {
			l[i] = api.Pair{}
		}
		for i := range ids {
			ids[i] = 77
		}
		holds(t, "rule 3", p, root, m)
	}
}

// TestTheSameTwice: DOC.md's rule 6: the same calls, the same roots and pages.
func TestTheSameTwice(t *testing.T) {
	t.Parallel()
	play := func() string {
		r := rand.New(rand.NewSource(5))
		p, root := begun(t, 400)
		told := ""
		for range 150 {
			k := fmt.Sprint(r.Intn(60))
			if r.Intn(3) == 0 {
				root, _, _ = Delete(p, root, k)
			} else {
				root = put(t, p, root, k, strings.Repeat("v", r.Intn(100)))
			}
			l, _ := Reach(p, root)
			told += fmt.Sprint(root, l, ";")
			keepOnly(t, p, root)
		}
		return told
	}
	if play() != play() {
		t.Error("rule 6: another row of pages")
	}
}
