package pager

import (
	"bytes"
	"fmt"
	"math"
	"slices"
	"strings"
	"testing"

	"sacristy/api"
	"sacristy/bits"
	"sacristy/mac"
	"sacristy/seal"
	"sacristy/sector"
)

var (
	key   = api.Key{3: 1}
	other = api.Key{3: 2}
)

const pageSize = 512

func diskOf(pages int) *sector.Disk {
	return sector.New(32 + 8*pages)
}

// trash is a disk of which no byte is a nought.
func trash(pages int, mark byte) *sector.Disk {
	d := diskOf(pages)
	for i := range d.Len() {
		d.Write(i, bytes.Repeat([]byte{mark | 1}, 64))
	}
	d.Flush()
	return d
}

func powerless(d *sector.Disk) *sector.Disk {
	d.Power(1)
	d.Flush()
	return d
}

func format(t *testing.T, d *sector.Disk, k api.Key) *Pager {
	t.Helper()
	p, e := Format(d, k)
	if e != api.OK || p == nil {
		t.Fatalf("P7.1: Format: %v", e)
	}
	return p
}

func open(t *testing.T, d *sector.Disk, k api.Key) *Pager {
	t.Helper()
	p, e := Open(d, k)
	if e != api.OK || p == nil {
		t.Fatalf("P7.1: Open: %v", e)
	}
	return p
}

func openRefused(t *testing.T, d *sector.Disk, k api.Key, want api.Errno) {
	t.Helper()
	if p, e := Open(d, k); p != nil || e != want {
		t.Fatalf("P7.1: Open: %v, want %v", e, want)
	}
}

func alloc(t *testing.T, p *Pager, want uint32) {
	t.Helper()
	if id, e := p.Alloc(); e != api.OK || id != want {
		t.Fatalf("P7.2: Alloc: %d, %v, want %d", id, e, want)
	}
}

func is(t *testing.T, what string, got, want api.Errno) {
	t.Helper()
	if got != want {
		t.Fatalf("%s: %v, want %v", what, got, want)
	}
}

func has(t *testing.T, p *Pager, id uint32, want string) {
	t.Helper()
	if b, e := p.Read(id); e != api.OK || string(b) != want {
		t.Fatalf("P7.2: Read(%d): %q, %v, want %q", id, b, e, want)
	}
}

func readRefused(t *testing.T, p *Pager, id uint32, want api.Errno) {
	t.Helper()
	if b, e := p.Read(id); e != want || len(b) != 0 {
		t.Fatalf("P7.2: Read(%d): %q, %v, want nothing, %v", id, b, e, want)
	}
}

// put allocates and writes a page of each text.
func put(t *testing.T, p *Pager, texts ...string) []uint32 {
	t.Helper()
	var ids []uint32
	for _, s := range texts {
		id, e := p.Alloc()
		is(t, "P7.2: Alloc", e, api.OK)
		is(t, "P7.2: Write", p.Write(id, []byte(s)), api.OK)
		ids = append(ids, id)
	}
	return ids
}

func commit(t *testing.T, p *Pager, root uint32, meta string) {
	t.Helper()
	is(t, "P7.3: Commit", p.Commit(root, meta), api.OK)
}

// told is all that a pager tells.
func told(p *Pager) string {
	var s strings.Builder
	fmt.Fprintf(&s, "%d pages, room %d, root %d, meta %q", p.Len(), p.Room(), p.Root(), p.Meta())
	for _, id := range p.Used() {
		b, e := p.Read(id)
		fmt.Fprintf(&s, ", %d: %q %v", id, b, e)
	}
	return s.String()
}

func tells(t *testing.T, promise string, p *Pager, want string) {
	t.Helper()
	if got := told(p); got != want {
		t.Fatalf("%s:\n%s\nwant\n%s", promise, got, want)
	}
}

func usedAre(t *testing.T, p *Pager, room int, want ...uint32) {
	t.Helper()
	if got := p.Used(); !slices.Equal(got, want) || p.Room() != room {
		t.Fatalf("P7.2: used %v, room %d, want %v, %d", got, p.Room(), want, room)
	}
}

// raw is what stands in a page, as it was written last.
func raw(t *testing.T, d *sector.Disk, id uint32) []byte {
	t.Helper()
	var page []byte
	for i := range 8 {
		b, e := d.Read(32 + 8*int(id) + i)
		is(t, "a sector", e, api.OK)
		page = append(page, b...)
	}
	return page
}

func putRaw(t *testing.T, d *sector.Disk, id uint32, page []byte) {
	t.Helper()
	for i := range 8 {
		is(t, "a sector", d.Write(32+8*int(id)+i, page[64*i:][:64]), api.OK)
	}
}

// resealed is a page made by hand.
func resealed(k api.Key, id uint32, gen uint64, aad string, text []byte) []byte {
	page := make([]byte, pageSize)
	copy(page, bits.Put(nil, gen, 8))
	copy(page[8:], seal.Seal(mac.Derive(k, "page", 0), seal.NonceOf(id, gen), []byte(aad), text))
	return page
}

// text is what is sealed in a page, the length said apart.
func text(size uint64, plain string) []byte {
	b := make([]byte, 482)
	copy(b, bits.Put(nil, size, 2))
	copy(b[2:], plain)
	return b
}

// P7.1: fewer than 4 pages are too few, 400 the most; what is beyond the last whole page isn't one.
func TestFormatSizes(t *testing.T) {
	for _, sectors := range []int{0, 1, 31, 32, 40, 56, 63} {
		if p, e := Format(sector.New(sectors), key); p != nil || e != api.ErrSpace {
			t.Fatalf("P7.1: %d sectors: %v", sectors, e)
		}
		if p, e := Format(powerless(sector.New(sectors)), key); p != nil || e != api.ErrSpace {
			t.Fatalf("P7.1: %d sectors without power: %v", sectors, e)
		}
		openRefused(t, sector.New(sectors), key, api.ErrSuper)
		openRefused(t, powerless(sector.New(sectors)), key, api.ErrSuper)
	}
	for sectors, pages := range map[int]int{64: 4, 71: 4, 72: 5, 32 + 8*399: 399, 32 + 8*400 - 1: 399, 32 + 8*400: 400, 32 + 8*401: 400, 4000: 400} {
		d := sector.New(sectors)
		want := fmt.Sprintf("%d pages, room %d, root 0, meta \"\"", pages, pages)
		tells(t, "P7.1", format(t, d, key), want)
		tells(t, "P7.1", open(t, d, key), want)
	}
	if p, e := Format(powerless(diskOf(4)), key); p != nil || e != api.ErrPower {
		t.Fatalf("P7.1: Format without power: %v", e)
	}
}

// P7.1: whatever stood there ahead of Format.
func TestFormatOver(t *testing.T) {
	for _, mark := range []byte{0x01, 0x7f, 0x81, 0xff} {
		d := trash(6, mark)
		openRefused(t, d, key, api.ErrSuper)
		p := format(t, d, key)
		usedAre(t, p, 6)
		put(t, p, "a", "b")
		commit(t, p, 1, "m")
		d.Crash(nil)
		tells(t, "P7.1", open(t, d, key), `6 pages, room 4, root 1, meta "m", 0: "a" error 0, 1: "b" error 0`)
		again := format(t, d, key)
		usedAre(t, again, 6)
		if again.Root() != 0 || again.Meta() != "" {
			t.Fatalf("P7.1: formatted again: %d, %q", again.Root(), again.Meta())
		}
		usedAre(t, open(t, d, key), 6)
		format(t, d, other)
		openRefused(t, d, key, api.ErrSuper)
		usedAre(t, open(t, d, other), 6)
	}
}

// putHeads makes the two superblocks' places begin with these limits.
func putHeads(d *sector.Disk, limits [2]uint64) {
	for i, limit := range limits {
		for k, c := range bits.Put(nil, limit, 8) {
			at := blockFrom(i) + k
			b, _ := d.Read(at / 64)
			b[at%64] = c
			d.Write(at/64, b)
		}
	}
	d.Flush()
}

// P7.1: trash that looks like a superblock's beginning.
func TestFormatOverHeads(t *testing.T) {
	heads := []uint64{0, 1, 1<<28 - 1, 1<<29 - 3, 1<<29 - 1, 1 << 29, 5<<29 - 2, 1<<32 - 2, 1<<60 - 2, 1<<60 - 1, 1 << 60, 1<<63 - 1, 1 << 63, math.MaxUint64 - 9, math.MaxUint64 - 1, math.MaxUint64}
	for _, a := range heads {
		for _, b := range heads {
			d := diskOf(4)
			putHeads(d, [2]uint64{a, b})
			openRefused(t, d, key, api.ErrSuper)
			p := format(t, d, key)
			for i := range 5 {
				put(t, p, fmt.Sprint(i))
				commit(t, p, uint32(i), "")
				want := told(p)
				p = open(t, d, key)
				tells(t, "P7.1", p, want)
				is(t, "P7.2: Free", p.Free(p.Used()[0]), api.OK)
				commit(t, p, 9, "")
				usedAre(t, open(t, d, key), 4)
			}
		}
	}
}

// P7.1: none of that key is ErrSuper, ahead of the disk's error; an Open is as behind the last Commit, as often as it is done.
func TestOpen(t *testing.T) {
	openRefused(t, diskOf(8), key, api.ErrSuper)
	openRefused(t, powerless(diskOf(8)), key, api.ErrSuper)
	d := diskOf(8)
	p := format(t, d, key)
	put(t, p, "a", "", strings.Repeat("x", 480))
	commit(t, p, math.MaxUint32, "meta")
	p.Free(1)
	put(t, p, "lost")
	want := fmt.Sprintf(`8 pages, room 5, root 4294967295, meta "meta", 0: "a" error 0, 1: "" error 0, 2: %q error 0`, strings.Repeat("x", 480))
	for range 5 {
		tells(t, "P7.1", open(t, d, key), want)
		openRefused(t, d, other, api.ErrSuper)
	}
	d.Crash(nil)
	tells(t, "P7.1", open(t, d, key), want)
	powerless(d)
	openRefused(t, d, key, api.ErrPower)
	openRefused(t, d, other, api.ErrSuper)
	d.Crash(nil)
	tells(t, "P7.1", open(t, d, key), want)
	for at := 1; ; at++ {
		c := d.Copy()
		c.Power(at)
		q, e := Open(c, key)
		if e == api.OK {
			break
		}
		is(t, "P7.1: Open, the power goes", e, api.ErrPower)
		if q != nil || at > 100 {
			t.Fatalf("P7.1: %v at step %d", q, at)
		}
	}
}

// P7.2: the least page that isn't used, and wasn't at the last Commit.
func TestAlloc(t *testing.T) {
	p := format(t, diskOf(6), key)
	for id := range uint32(6) {
		usedAre(t, p, 6-int(id), []uint32{0, 1, 2, 3, 4, 5}[:id]...)
		alloc(t, p, id)
	}
	if id, e := p.Alloc(); id != 0 || e != api.ErrSpace {
		t.Fatalf("P7.2: Alloc: %d, %v", id, e)
	}
	usedAre(t, p, 0, 0, 1, 2, 3, 4, 5)
	for _, id := range []uint32{4, 1, 5} {
		is(t, "P7.2: Free", p.Free(id), api.OK)
	}
	usedAre(t, p, 3, 0, 2, 3)
	alloc(t, p, 1)
	for _, id := range []uint32{0, 1, 2, 3} {
		is(t, "P7.2: Write", p.Write(id, nil), api.OK)
	}
	commit(t, p, 0, "")
	usedAre(t, p, 2, 0, 1, 2, 3)
	is(t, "P7.2: Free", p.Free(0), api.OK)
	is(t, "P7.2: Free", p.Free(2), api.OK)
	usedAre(t, p, 2, 1, 3)
	put(t, p, "4", "5")
	usedAre(t, p, 0, 1, 3, 4, 5)
	if id, e := p.Alloc(); id != 0 || e != api.ErrSpace {
		t.Fatalf("P7.2: Alloc: %d, %v", id, e)
	}
	commit(t, p, 0, "")
	usedAre(t, p, 2, 1, 3, 4, 5)
	alloc(t, p, 0)
	alloc(t, p, 2)
}

// P7.2: all 400 pages, and no more.
func TestAllPages(t *testing.T) {
	d := sector.New(4000)
	p := format(t, d, key)
	var ids []uint32
	for i := range 400 {
		ids = append(ids, put(t, p, fmt.Sprint("page ", i))...)
	}
	if _, e := p.Alloc(); e != api.ErrSpace {
		t.Fatalf("P7.2: Alloc: %v", e)
	}
	is(t, "P7.2: Write", p.Write(400, nil), api.ErrPage)
	commit(t, p, 399, strings.Repeat("m", 200))
	usedAre(t, p, 0, ids...)
	for i := 0; i < 400; i += 3 {
		is(t, "P7.2: Free", p.Free(uint32(i)), api.OK)
	}
	commit(t, p, 399, strings.Repeat("n", 200))
	d.Crash(nil)
	q := open(t, d, key)
	for i := range 400 {
		if i%3 == 0 {
			readRefused(t, q, uint32(i), api.ErrPage)
		} else {
			has(t, q, uint32(i), fmt.Sprint("page ", i))
		}
	}
	if q.Room() != 134 || q.Meta() != strings.Repeat("n", 200) || q.Root() != 399 {
		t.Fatalf("P7.3: room %d, %q", q.Room(), q.Meta())
	}
}

// P7.2: what isn't fresh isn't written, what is too long neither; an ErrPower comes behind both.
func TestWrite(t *testing.T) {
	d := diskOf(6)
	p := format(t, d, key)
	put(t, p, "kept", "goes")
	commit(t, p, 0, "")
	p.Free(1)
	alloc(t, p, 2)
	alloc(t, p, 3)
	p.Free(3)
	long := make([]byte, api.MaxPlain+1)
	for _, off := range []bool{false, true} {
		if off {
			powerless(d)
		}
		for _, id := range []uint32{0, 1, 3, 4, 5, 6, 7, 400, 1 << 28, 1 << 29, 1 << 31, math.MaxUint32} {
			is(t, fmt.Sprint("P7.2: Write of ", id), p.Write(id, nil), api.ErrPage)
			is(t, fmt.Sprint("P7.2: a long Write of ", id), p.Write(id, long), api.ErrPage)
		}
		is(t, "P7.2: a long Write", p.Write(2, long), api.ErrLong)
		readRefused(t, p, 2, api.ErrPage)
		usedAre(t, p, 3, 0, 2)
	}
	is(t, "P7.2: Write", p.Write(2, nil), api.ErrPower)
}

// P7.2: the page has what was written last, as long as it was.
func TestWrittenLast(t *testing.T) {
	p := format(t, diskOf(4), key)
	alloc(t, p, 0)
	for _, n := range []int{0, 480, 1, 479, 63, 64, 65, 255, 256, 257, 0} {
		want := strings.Repeat("w", n)
		is(t, "P7.2: Write", p.Write(0, []byte(want)), api.OK)
		has(t, p, 0, want)
	}
	zeros := string(make([]byte, 17))
	is(t, "P7.2: Write", p.Write(0, []byte(zeros)), api.OK)
	has(t, p, 0, zeros)
}

// P7.2: a page that is allocated again has nothing; one that isn't used can't be read, nor freed.
func TestReadFree(t *testing.T) {
	p := format(t, diskOf(4), key)
	for _, id := range []uint32{0, 3, 4, 1 << 29, math.MaxUint32} {
		readRefused(t, p, id, api.ErrPage)
		is(t, "P7.2: Free", p.Free(id), api.ErrPage)
	}
	put(t, p, "first")
	is(t, "P7.2: Free", p.Free(0), api.OK)
	is(t, "P7.2: Free twice", p.Free(0), api.ErrPage)
	readRefused(t, p, 0, api.ErrPage)
	alloc(t, p, 0)
	readRefused(t, p, 0, api.ErrPage)
	is(t, "P7.3: Commit", p.Commit(1, ""), api.ErrPage)
	is(t, "P7.2: Write", p.Write(0, []byte("second")), api.OK)
	has(t, p, 0, "second")
	commit(t, p, 0, "")
	has(t, p, 0, "second")
	is(t, "P7.2: Free", p.Free(0), api.OK)
	is(t, "P7.2: Free twice", p.Free(0), api.ErrPage)
	readRefused(t, p, 0, api.ErrPage)
}

// P7.1: how a page stands on the disk.
func TestStands(t *testing.T) {
	d := diskOf(5)
	p := format(t, d, key)
	ids := put(t, p, "", "a", strings.Repeat("y", 479), strings.Repeat("z", 480))
	for k, plain := range []string{"", "a", strings.Repeat("y", 479), strings.Repeat("z", 480)} {
		page := raw(t, d, ids[k])
		gen, _, _ := bits.Get(page, 8)
		if want := resealed(key, ids[k], gen, "page", text(uint64(len(plain)), plain)); !bytes.Equal(page, want) {
			t.Fatalf("P7.1: page %d: %x, want %x", ids[k], page, want)
		}
	}
	commit(t, p, 0, "")
	image := d.Image()
	for _, id := range ids {
		if !bytes.Equal(image[64*32+512*int(id):][:512], raw(t, d, id)) {
			t.Fatalf("P7.3: page %d isn't kept", id)
		}
	}
	if bytes.Contains(image, bytes.Repeat([]byte("z"), 4)) {
		t.Fatal("P7.1: a plain text stands on the disk")
	}
}

// P7.2: whatever is changed in a page, it isn't read; behind the sealed bytes nothing is held against anything.
func TestReadChanged(t *testing.T) {
	d := diskOf(5)
	p := format(t, d, key)
	put(t, p, "zero", "one")
	commit(t, p, 0, "")
	for _, p := range []*Pager{p, open(t, d, key)} {
		page := raw(t, d, 1)
		for at := range pageSize {
			changed := bytes.Clone(page)
			changed[at] ^= byte(1 << (at % 8))
			putRaw(t, d, 1, changed)
			if at < 506 {
				readRefused(t, p, 1, api.ErrSeal)
			} else {
				has(t, p, 1, "one")
			}
			has(t, p, 0, "zero")
		}
		putRaw(t, d, 1, raw(t, d, 0))
		readRefused(t, p, 1, api.ErrSeal)
		putRaw(t, d, 1, make([]byte, pageSize))
		readRefused(t, p, 1, api.ErrSeal)
		putRaw(t, d, 1, page)
		has(t, p, 1, "one")
	}
}

// P7.2: what was sealed by hand is read, if the gen is the page's, and the key, the number and the aad are.
func TestReadSealedByHand(t *testing.T) {
	d := diskOf(5)
	p := format(t, d, key)
	put(t, p, "zero", "one")
	commit(t, p, 0, "")
	gen, _, _ := bits.Get(raw(t, d, 1), 8)
	for _, p := range []*Pager{p, open(t, d, key)} {
		for i, c := range []struct {
			page []byte
			want string
			e    api.Errno
		}{
			{resealed(key, 1, gen, "page", text(3, "two")), "two", api.OK},
			{resealed(key, 1, gen, "page", text(2, "two")), "tw", api.OK},
			{resealed(key, 1, gen, "page", text(0, "two")), "", api.OK},
			{resealed(key, 1, gen, "page", text(480, "two")), "two" + string(make([]byte, 477)), api.OK},
			{resealed(key, 1, gen, "page", text(481, "two")), "two" + string(make([]byte, 477)), api.OK},
			{resealed(key, 1, gen, "page", text(65535, "two")), "two" + string(make([]byte, 477)), api.OK},
			{resealed(key, 1, gen+1, "page", text(3, "two")), "", api.ErrSeal},
			{resealed(key, 1, gen-1, "page", text(3, "two")), "", api.ErrSeal},
			{resealed(key, 1, gen^1<<63, "page", text(3, "two")), "", api.ErrSeal},
			{resealed(key, 1, gen^1<<32, "page", text(3, "two")), "", api.ErrSeal},
			{resealed(key, 1, 0, "page", text(3, "two")), "", api.ErrSeal},
			{resealed(key, 0, gen, "page", text(3, "two")), "", api.ErrSeal},
			{resealed(other, 1, gen, "page", text(3, "two")), "", api.ErrSeal},
			{resealed(key, 1, gen, "pag", text(3, "two")), "", api.ErrSeal},
			{resealed(key, 1, gen, "page", text(3, "two")[:481]), "", api.ErrSeal},
		} {
			putRaw(t, d, 1, c.page)
			if b, e := p.Read(1); e != c.e || string(b) != c.want {
				t.Fatalf("P7.2: row %d: %q, %v", i, b, e)
			}
		}
	}
}

// P7.2: an elder page, once good, isn't the one that was written last: in the same life, and behind an Open.
func TestReadElder(t *testing.T) {
	for _, pages := range []int{4, 96, 97, 200, 400} {
		d := diskOf(pages)
		p := format(t, d, key)
		put(t, p, "stays")
		alloc(t, p, 1)
		var elder [][]byte
		for i := range 6 {
			is(t, "P7.2: Write", p.Write(1, []byte{byte(i)}), api.OK)
			elder = append(elder, raw(t, d, 1))
		}
		commit(t, p, 0, "")
		// The same again behind a crash: what it took must not pass for what comes in its place.
		is(t, "P7.2: Free", p.Free(1), api.OK)
		commit(t, p, 0, "")
		for range 3 {
			alloc(t, p, 1)
			is(t, "P7.2: Write", p.Write(1, []byte("lost")), api.OK)
			elder = append(elder, raw(t, d, 1))
			d.Crash(nil)
			p = open(t, d, key)
		}
		alloc(t, p, 1)
		is(t, "P7.2: Write", p.Write(1, []byte("last")), api.OK)
		last := raw(t, d, 1)
		commit(t, p, 0, "")
		for life := range 3 {
			for i, page := range elder {
				putRaw(t, d, 1, page)
				if b, e := p.Read(1); e != api.ErrSeal {
					t.Fatalf("P7.2: %d pages, life %d, elder %d: %q, %v", pages, life, i, b, e)
				}
			}
			p = open(t, d, key) // while an elder one stands there
			readRefused(t, p, 1, api.ErrSeal)
			putRaw(t, d, 1, last)
			has(t, p, 1, "last")
			has(t, p, 0, "stays")
		}
	}
}

// P7.3: which error, and in which order; with an error nothing is changed.
func TestCommitRefused(t *testing.T) {
	d := diskOf(5)
	p := format(t, d, key)
	put(t, p, "zero")
	commit(t, p, 7, strings.Repeat("m", 200))
	p.Free(0)
	alloc(t, p, 1)
	for _, off := range []bool{false, true} {
		if off {
			powerless(d)
		}
		is(t, "P7.3: Commit of a long meta", p.Commit(8, strings.Repeat("n", 201)), api.ErrLong)
		is(t, "P7.3: Commit", p.Commit(8, "n"), api.ErrPage)
		if p.Root() != 7 || p.Meta() != strings.Repeat("m", 200) {
			t.Fatalf("P7.3: %d, %q", p.Root(), p.Meta())
		}
		usedAre(t, p, 3, 1)
	}
	is(t, "P7.2: Free", p.Free(1), api.OK) // not written, but not used either
	is(t, "P7.3: Commit", p.Commit(8, "n"), api.ErrPower)
	if p.Root() != 7 || p.Meta() != strings.Repeat("m", 200) {
		t.Fatalf("P7.3: %d, %q", p.Root(), p.Meta())
	}
	d.Crash(nil)
	p = open(t, d, key)
	tells(t, "P7.3", p, fmt.Sprintf(`5 pages, room 4, root 7, meta %q, 0: "zero" error 0`, strings.Repeat("m", 200)))
	alloc(t, p, 1)
	is(t, "P7.2: Free", p.Free(1), api.OK)
	commit(t, p, 8, "n")
}

// P7.3: all that is kept, by any root and any bytes of meta; each Commit in the place of the one ahead of it.
func TestCommitKept(t *testing.T) {
	d := diskOf(6)
	p := format(t, d, key)
	metas := []string{"", "a", "\x00", "\x00\x00\xff", strings.Repeat("\xff", 200), string(make([]byte, 199)), "b"}
	for i, root := range []uint32{0, 1, 5, 6, 1 << 31, math.MaxUint32, 77} {
		if i > 0 {
			is(t, "P7.2: Free", p.Free(p.Used()[0]), api.OK)
		}
		put(t, p, fmt.Sprint("page ", i))
		commit(t, p, root, metas[i])
		if p.Root() != root || p.Meta() != metas[i] {
			t.Fatalf("P7.3: %d, %q", p.Root(), p.Meta())
		}
		want := told(p)
		tells(t, "P7.3", open(t, d.Copy(), key), want)
		c := d.Copy()
		c.Crash(nil)
		tells(t, "P7.3", open(t, c, key), want)
	}
}

// P7.3: Undo is as behind the last Commit; behind Format, Open, a Commit.
func TestUndo(t *testing.T) {
	d := diskOf(6)
	p := format(t, d, key)
	p.Undo()
	put(t, p, "x", "y")
	alloc(t, p, 2)
	p.Undo()
	tells(t, "P7.3", p, `6 pages, room 6, root 0, meta ""`)
	is(t, "P7.2: Write", p.Write(0, nil), api.ErrPage)
	put(t, p, "zero", "one")
	commit(t, p, 1, "m")
	want := `6 pages, room 4, root 1, meta "m", 0: "zero" error 0, 1: "one" error 0`
	for range 2 {
		for range 3 {
			tells(t, "P7.3", p, want)
			p.Free(0)
			put(t, p, "two", "three")
			p.Free(2)
			alloc(t, p, 2)
			p.Undo()
		}
		p.Undo()
		tells(t, "P7.3", p, want)
		p = open(t, d, key)
	}
	p.Free(1)
	commit(t, p, 0, "")
	p.Undo()
	tells(t, "P7.3", p, `6 pages, room 5, root 0, meta "", 0: "zero" error 0`)
}

// P7.3: with an ErrPower, whoever told it, the pager is broken, until it is opened again.
func TestBroken(t *testing.T) {
	for i, breaks := range []func(p *Pager) api.Errno{
		func(p *Pager) api.Errno { return p.Write(1, nil) },
		func(p *Pager) api.Errno { _, e := p.Read(0); return e },
		func(p *Pager) api.Errno { return p.Commit(5, "n") },
		func(p *Pager) api.Errno { // as many that the pager must take more gens
			for range 9 {
				if e := p.Write(1, nil); e != api.OK {
					return e
				}
			}
			return api.OK
		},
	} {
		for at := 1; ; at++ {
			d := diskOf(4)
			p := format(t, d, key)
			put(t, p, "zero")
			commit(t, p, 1, "m")
			alloc(t, p, 1)
			is(t, "P7.2: Write", p.Write(1, []byte("one")), api.OK)
			d.Power(at)
			if i == 1 {
				for range at {
					d.Flush()
				}
			}
			e := breaks(p)
			if e == api.OK || i == 1 && at > 20 {
				if at < 8 {
					t.Fatalf("P7.3: row %d, step %d: %v", i, at, e)
				}
				break
			}
			is(t, fmt.Sprintf("P7.3: row %d, step %d", i, at), e, api.ErrPower)
			brokenTells(t, p)
			d.Crash(nil)
			brokenTells(t, p)
			p.Undo()
			brokenTells(t, p)
			tells(t, "P7.3", open(t, d, key), `4 pages, room 3, root 1, meta "m", 0: "zero" error 0`)
			brokenTells(t, p)
		}
	}
}

func brokenTells(t *testing.T, p *Pager) {
	t.Helper()
	id, e := p.Alloc()
	if id != 0 {
		t.Fatalf("P7.3: Alloc: %d", id)
	}
	is(t, "P7.3: broken, Alloc", e, api.ErrPower)
	for _, id := range []uint32{0, 1, 2, 9} {
		is(t, "P7.3: broken, Write", p.Write(id, nil), api.ErrPower)
		is(t, "P7.3: broken, Write", p.Write(id, make([]byte, 481)), api.ErrPower)
		is(t, "P7.3: broken, Free", p.Free(id), api.ErrPower)
		readRefused(t, p, id, api.ErrPower)
	}
	is(t, "P7.3: broken, Commit", p.Commit(3, "x"), api.ErrPower)
	is(t, "P7.3: broken, Commit", p.Commit(3, string(make([]byte, 201))), api.ErrPower)
	if p.Root() != 1 || p.Meta() != "m" || p.Len() != 4 {
		t.Fatalf("P7.3: broken: %d, %q, %d", p.Root(), p.Meta(), p.Len())
	}
}

// P7.3: a disk that is opened beside a pager doesn't lose what that one keeps later.
func TestOpenedBeside(t *testing.T) {
	d := diskOf(8)
	p := format(t, d, key)
	for i := range 6 {
		for range i {
			open(t, d, key)
		}
		if i > 0 {
			is(t, "P7.2: Free", p.Free(p.Used()[0]), api.OK)
		}
		put(t, p, fmt.Sprint("page ", i))
		commit(t, p, uint32(i), "m")
		want := told(p)
		for range i {
			tells(t, "P7.3", open(t, d, key), want)
		}
	}
}

// P7.2: nothing that is handed in is changed or kept; what is answered is new.
func TestMemory(t *testing.T) {
	d := diskOf(5)
	p := format(t, d, key)
	alloc(t, p, 0)
	whole := bytes.Repeat([]byte{0xee}, 700)
	plain := whole[:100]
	is(t, "P7.2: Write", p.Write(0, plain), api.OK)
	if !bytes.Equal(whole, bytes.Repeat([]byte{0xee}, 700)) {
		t.Fatal("P7.2: Write changed what it was handed")
	}
	clear(whole)
	want := strings.Repeat("\xee", 100)
	has(t, p, 0, want)
	a, _ := p.Read(0)
	b, _ := p.Read(0)
	for i := range a[:cap(a)] {
		a[:cap(a)][i] ^= 0xff
	}
	if string(b) != want {
		t.Fatal("P7.2: two answers share memory")
	}
	has(t, p, 0, want)
	put(t, p, "one")
	u, v := p.Used(), p.Used()
	u[0] = 9
	_ = append(u[:1], 9)
	if !slices.Equal(v, []uint32{0, 1}) || !slices.Equal(p.Used(), v) {
		t.Fatal("P7.2: two answers share memory")
	}
	commit(t, p, 0, "")
	is(t, "P7.2: Free", p.Free(0), api.OK)
	p.Undo()
	is(t, "P7.2: Free", p.Free(1), api.OK)
	p.Undo()
	usedAre(t, p, 3, 0, 1)
}

// P7.1: the superblocks tell neither root, meta nor text in the clear, and hang on nothing but what was asked.
func TestSuperblocks(t *testing.T) {
	meta := strings.Repeat("meta", 50)
	var images [2][]byte
	for i := range images {
		d := diskOf(30)
		p := format(t, d, key)
		for k := range 20 {
			put(t, p, fmt.Sprint("page ", k))
		}
		commit(t, p, 3, meta)
		for k := range 7 {
			p.Free(uint32(2 * k))
		}
		commit(t, p, 4, meta)
		open(t, d, key)
		images[i] = d.Image()
	}
	if !bytes.Equal(images[0], images[1]) {
		t.Fatal("P7.3: the same calls, unlike disks")
	}
	if bytes.Contains(images[0], []byte("meta")) {
		t.Fatal("P7.3: meta stands there in the clear")
	}
}
