package pager

import (
	"fmt"
	"math/rand"
	"testing"

	"sacristy/api"
	"sacristy/bits"
	"sacristy/sector"
)

// elderRow writes a page again and again, frees it, commits, writes it anew: the elder one is told, and the newer one.
func elderRow(t *testing.T, d *sector.Disk, writes, commits int) (*Pager, []byte, []byte) {
	t.Helper()
	p := format(t, d, key)
	alloc(t, p, 0)
	for range writes {
		is(t, "P7.2: Write", p.Write(0, []byte("elder")), api.OK)
	}
	commit(t, p, 0, "")
	elder := raw(t, d, 0)
	is(t, "P7.2: Free", p.Free(0), api.OK)
	for range commits {
		commit(t, p, 0, "")
	}
	alloc(t, p, 0)
	is(t, "P7.2: Write", p.Write(0, []byte("newer")), api.OK)
	commit(t, p, 0, "")
	return p, elder, raw(t, d, 0)
}

// P7.2: behind an Open, too, an elder page isn't the one that was written last, however many Writes and Commits ago.
func TestElderBehindOpen(t *testing.T) {
	for _, pages := range []int{4, 5, 64, 95, 96, 97, 100, 128, 200, 256, 399, 400} {
		for _, c := range [][2]int{{58, 40}, {57, 40}, {59, 40}, {58, 41}, {1, 1}, {2, 1}, {1, 64}, {64, 1}, {3, 128}, {200, 3}} {
			d := diskOf(pages)
			p, elder, newer := elderRow(t, d, c[0], c[1])
			for range 3 {
				putRaw(t, d, 0, elder)
				is(t, "a Flush", d.Flush(), api.OK)
				readRefused(t, p, 0, api.ErrSeal)
				p = open(t, d, key)
				readRefused(t, p, 0, api.ErrSeal)
				putRaw(t, d, 0, newer)
				has(t, p, 0, "newer")
			}
		}
	}
}

// P7.2: of all that ever stood in a page, behind Opens and crashes, only what was written last is read.
func TestAllElders(t *testing.T) {
	for _, pages := range []int{4, 96, 97, 300, 400} {
		r := rand.New(rand.NewSource(int64(pages)))
		d := diskOf(pages)
		p := format(t, d, key)
		var all [][]byte
		for n := range 400 {
			alloc(t, p, 0)
			for k := range 1 + r.Intn(12) {
				is(t, "P7.2: Write", p.Write(0, []byte(fmt.Sprint(n, " ", k))), api.OK)
				all = append(all, raw(t, d, 0))
			}
			if r.Intn(8) == 0 {
				d.Crash(nil)
				p = open(t, d, key)
				continue
			}
			commit(t, p, 0, "")
			if r.Intn(8) == 0 {
				p = open(t, d, key)
			}
			is(t, "P7.2: Free", p.Free(0), api.OK)
			for range 1 + r.Intn(4) {
				commit(t, p, 0, "")
			}
		}
		alloc(t, p, 0)
		is(t, "P7.2: Write", p.Write(0, []byte("last")), api.OK)
		commit(t, p, 0, "")
		last := raw(t, d, 0)
		p = open(t, d, key)
		for i, page := range all {
			putRaw(t, d, 0, page)
			if b, e := p.Read(0); e != api.ErrSeal {
				t.Fatalf("P7.2: %d pages, elder %d of %d: %q, %v", pages, i, len(all), b, e)
			}
		}
		putRaw(t, d, 0, last)
		has(t, p, 0, "last")
	}
}

// P7.2: behind an Open no gen but a page's own will do, of any number of pages: whichever bits are unlike.
func TestNoOtherGen(t *testing.T) {
	for _, pages := range []int{4, 96, 97, 250, 400} {
		d := diskOf(pages)
		p := format(t, d, key)
		for i := range pages {
			put(t, p, fmt.Sprint("page ", i))
		}
		commit(t, p, 0, "")
		for _, p := range []*Pager{p, open(t, d, key)} {
			for _, id := range []uint32{0, 1, 2, uint32(pages / 2), uint32(pages - 2), uint32(pages - 1)} {
				page := raw(t, d, id)
				gen, _, _ := bits.Get(page, 8)
				for bit := range 64 {
					for _, other := range []uint64{gen ^ 1<<bit, gen + 1<<bit, gen - 1<<bit} {
						putRaw(t, d, id, resealed(key, id, other, "page", text(3, "two")))
						readRefused(t, p, id, api.ErrSeal)
					}
				}
				putRaw(t, d, id, resealed(key, id, gen, "page", text(3, "two")))
				has(t, p, id, "two")
				putRaw(t, d, id, page)
			}
			for i := range pages {
				has(t, p, uint32(i), fmt.Sprint("page ", i))
			}
		}
	}
}

// P7.2: wherever gens begin, pages have theirs behind an Open: also where the bits that are kept of them wrap.
func TestGensWrap(t *testing.T) {
	for _, begin := range []uint64{1<<29 - 300, 1<<29 - 2, 1 << 29, 7<<29 - 150, 1<<32 - 40, 1<<59 - 170} {
		d := diskOf(40)
		putHeads(d, [2]uint64{begin, begin - 1})
		p := format(t, d, key)
		for i := range 40 {
			alloc(t, p, uint32(i))
			for k := range 5 {
				is(t, "P7.2: Write", p.Write(uint32(i), []byte(fmt.Sprint(i, " ", k))), api.OK)
			}
		}
		if gen, _, _ := bits.Get(raw(t, d, 0), 8); gen < begin || gen > begin+20 {
			t.Fatalf("gens begin at %d, want %d", gen, begin)
		}
		commit(t, p, 0, "")
		for range 100 {
			p = open(t, d, key)
			commit(t, p, 0, "")
		}
		for i := range 40 {
			has(t, p, uint32(i), fmt.Sprint(i, " 4"))
		}
		has(t, open(t, d, key), 39, "39 4")
	}
}

// P7.2: a page has its gen behind an Open, however many gens were taken since it was written.
func TestGensFar(t *testing.T) {
	d := diskOf(400)
	p := format(t, d, key)
	for i := range 399 {
		put(t, p, fmt.Sprint("page ", i))
	}
	commit(t, p, 0, "")
	alloc(t, p, 399)
	for range 20000 {
		is(t, "P7.2: Write", p.Write(399, nil), api.OK)
	}
	commit(t, p, 0, "near")
	tells(t, "P7.2", open(t, d.Copy(), key), told(p))
	// As many more as there may be: the limit of the Commit is 2^29 above the first page's gen.
	gen, _, _ := bits.Get(raw(t, d, 0), 8)
	p.gens = gensFrom(gen + 1<<29 - 1)
	commit(t, p, 0, "far")
	tells(t, "P7.2", open(t, d.Copy(), key), told(p))
}

// P7.2: gens rise by at most two of each Write, and one of each superblock, crashes or not: so the bits that are kept
// of them are enough for as many steps as are promised.
func TestGensAreFew(t *testing.T) {
	r := rand.New(rand.NewSource(29))
	d := diskOf(4)
	p := format(t, d, key)
	writes, most := 0, uint64(0)
	for range 300 {
		alloc(t, p, 0)
		for range 1 + r.Intn(40) {
			is(t, "P7.2: Write", p.Write(0, nil), api.OK)
			writes++
			gen, _, _ := bits.Get(raw(t, d, 0), 8)
			if gen <= most {
				t.Fatalf("P7.3: gen %d behind %d", gen, most)
			}
			most = gen
			if blocks := (d.Steps() - 8*writes) / 7; gen > uint64(2*writes+blocks+2) {
				t.Fatalf("P7.2: gen %d behind %d Writes and %d superblocks", gen, writes, blocks)
			}
		}
		switch r.Intn(3) {
		case 0:
			d.Crash(nil)
			p = open(t, d, key)
		case 1:
			commit(t, p, 0, "")
			p.Free(0)
			commit(t, p, 0, "")
		case 2:
			p.Undo()
		}
	}
}

// P7.3: a pager that goes on beside another one neither loses what that one kept, nor takes its gens.
func TestGensBeside(t *testing.T) {
	d := diskOf(8)
	format(t, d, key)
	p, q := open(t, d, key), open(t, d, key)
	id, e := p.Alloc()
	is(t, "P7.2: Alloc", e, api.OK)
	alloc(t, q, id)
	s := seen{}
	for n := range 200 {
		writer := []*Pager{p, q}[n/3%2]
		is(t, "P7.2: Write", writer.Write(id, []byte(fmt.Sprint(n))), api.OK)
		page := raw(t, d, id)
		name := fmt.Sprint(page[:8])
		if s[name] != "" {
			t.Fatalf("P7.3: sealed twice under one nonce: %s", name)
		}
		s[name] = string(page)
	}
	is(t, "P7.2: Write", q.Write(id, []byte("q's")), api.OK)
	commit(t, q, 5, "q")
	want := told(q)
	is(t, "P7.2: Free", p.Free(id), api.OK)
	alloc(t, p, id)
	p.Free(id)
	for other := range uint32(6) {
		alloc(t, p, other)
	}
	for range 50 {
		is(t, "P7.2: Write", p.Write(3, []byte("p's")), api.OK)
	}
	tells(t, "P7.3", open(t, d, key), want)
}

// P7.2: nor is an elder page read, if its gen is laid into the table beside it.
func TestElderTable(t *testing.T) {
	for commits := 1; commits < 5; commits++ {
		d := diskOf(30)
		p := format(t, d, key)
		put(t, p, "elder", "stays")
		commit(t, p, 0, "")
		page, area := raw(t, d, 0), d.Image()[:areaSize]
		is(t, "P7.2: Free", p.Free(0), api.OK)
		for range commits {
			commit(t, p, 0, "")
		}
		put(t, p, "newer")
		commit(t, p, 0, "")
		for range 3 {
			putRaw(t, d, 0, page)
			now := d.Image()[:areaSize]
			copy(now[blockSize:][:tableSize], area[blockSize:])
			for i := range 32 {
				is(t, "a sector", d.Write(i, now[64*i:][:64]), api.OK)
			}
			is(t, "a Flush", d.Flush(), api.OK)
			q, e := Open(d.Copy(), key)
			if e != api.OK {
				is(t, "P7.1: Open", e, api.ErrSuper)
			} else if b, e := q.Read(0); e == api.OK {
				t.Fatalf("P7.2: %d commits: %q", commits, b)
			}
			commit(t, p, 0, "")
		}
	}
}

// P7.1: whatever is changed in the first sectors, what is opened is a Commit's, whole, or there is no superblock.
func TestSuperChanged(t *testing.T) {
	d := lived(t, key, true)
	last := toldBy(d, key)
	before := toldBy(lived(t, key, false), key)
	counts := map[string]int{}
	for at := range areaSize {
		c := d.Copy()
		b, _ := c.Read(at / 64)
		b[at%64] ^= byte(1 << (at % 8))
		c.Write(at/64, b)
		c.Flush()
		got := toldBy(c, key)
		if got != last && got != before && got != api.ErrSuper.Error() {
			t.Fatalf("P7.1: byte %d: %s", at, got)
		}
		counts[got]++
	}
	if counts[last] < 1024 || counts[before] < 200 {
		t.Fatalf("P7.1: %d times the last, %d times the one ahead of it", counts[last], counts[before])
	}
}
