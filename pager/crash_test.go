package pager

import (
	"bytes"
	"fmt"
	"maps"
	"math/rand"
	"slices"
	"strings"
	"testing"

	"sacristy/api"
	"sacristy/sector"
)

// leftovers are ways in which a crash may leave pending sectors.
func leftovers() [][]uint8 {
	all := [][]uint8{nil, bytes.Repeat([]byte{255}, 200)}
	for _, c := range []uint8{1, 3, 4, 5, 63, 100} {
		all = append(all, bytes.Repeat([]byte{c}, 200))
	}
	r := rand.New(rand.NewSource(70))
	for range 10 {
		choices := make([]uint8, 200)
		for i := range choices {
			choices[i] = []uint8{0, 255, 255, uint8(r.Intn(256))}[r.Intn(4)]
		}
		all = append(all, choices)
	}
	for i := range 16 { // all but one
		choices := bytes.Repeat([]byte{255}, 200)
		choices[i] = uint8(3 * i)
		all = append(all, choices)
	}
	return all
}

// toldBy is what an Open tells; the disk isn't touched.
func toldBy(d *sector.Disk, k api.Key) string {
	p, e := Open(d.Copy(), k)
	if e != api.OK {
		return e.Error()
	}
	return told(p)
}

// lived is a disk with a pager that has commits behind it, one more if more.
func lived(t *testing.T, k api.Key, more bool) *sector.Disk {
	d := diskOf(6)
	p := format(t, d, k)
	put(t, p, "a", "b")
	commit(t, p, 1, "one")
	p.Free(0)
	put(t, p, "c")
	commit(t, p, 2, "two")
	if more {
		p.Free(1)
		commit(t, p, 3, "three")
	}
	return d
}

// P7.1: a Format that is cut off leaves what there was, an empty one, or none; of another key what there was, or none.
func TestFormatCut(t *testing.T) {
	empty, none := `6 pages, room 6, root 0, meta ""`, api.ErrSuper.Error()
	torn := lived(t, other, true)
	torn.Write(1, []byte("torn"))
	torn.Flush()
	for i, begin := range []*sector.Disk{diskOf(6), trash(6, 3), lived(t, key, false), lived(t, key, true), lived(t, other, false), lived(t, other, true), torn} {
		was, others := toldBy(begin, key), toldBy(begin, other)
		for at := 1; ; at++ {
			d := begin.Copy()
			d.Power(at)
			p, e := Format(d, key)
			if e == api.OK {
				tells(t, "P7.1", p, empty)
				break
			}
			is(t, "P7.1: Format cut off", e, api.ErrPower)
			if p != nil || at > 200 {
				t.Fatal("P7.1: Format cut off")
			}
			for _, choices := range leftovers() {
				c := d.Copy()
				c.Crash(choices)
				if got := toldBy(c, key); got != was && got != empty && got != none {
					t.Fatalf("P7.1: disk %d, step %d: %s", i, at, got)
				}
				if got := toldBy(c, other); got != others && got != none {
					t.Fatalf("P7.1: disk %d, step %d, the other key: %s", i, at, got)
				}
				tells(t, "P7.1", format(t, c, key), empty)
				if got := toldBy(c, other); got != none {
					t.Fatalf("P7.1: disk %d, step %d, the other key: %s", i, at, got)
				}
			}
		}
	}
}

// row does some commits, and tells what was behind each.
func row(p *Pager) ([]string, api.Errno) {
	behind := []string{}
	for i := range 3 {
		p.Free(uint32(i))
		for k := range 2 {
			id, e := p.Alloc()
			if e == api.OK {
				e = p.Write(id, []byte(fmt.Sprint("page ", i, " ", k)))
			}
			if e != api.OK {
				return behind, e
			}
		}
		if e := p.Commit(uint32(i), fmt.Sprint("meta ", i)); e != api.OK {
			return behind, e
		}
		behind = append(behind, told(p))
	}
	return behind, api.OK
}

// P7.3, P7.4: whenever the power goes in a row of calls, and whatever is left: as behind the last Commit, or the one under way.
func TestCutAnywhere(t *testing.T) {
	d := diskOf(9)
	p := format(t, d, key)
	first, begin := told(p), d.Steps()
	behind, e := row(p)
	is(t, "P7.3: not cut off", e, api.OK)
	wants := append([]string{first}, behind...)
	for at := 1; at <= d.Steps()-begin; at++ {
		d := diskOf(9)
		p := format(t, d, key)
		d.Power(at)
		behind, e := row(p)
		is(t, "P7.3: cut off", e, api.ErrPower)
		for i, choices := range leftovers() {
			c := d.Copy()
			c.Crash(choices)
			got := toldBy(c, key)
			if !slices.Contains(wants[len(behind):][:2], got) {
				t.Fatalf("P7.3: step %d: %s\nwant\n%s", at, got, wants[len(behind)])
			}
			if (i+at)%7 == 0 {
				openedCut(t, c, choices, got)
			}
		}
	}
}

// openedCut opens a disk with the power going within that, again and again.
func openedCut(t *testing.T, d *sector.Disk, choices []uint8, want string) {
	t.Helper()
	for at := 1; ; at++ {
		d.Power(at)
		_, e := Open(d, key)
		if e == api.OK && at > 2 {
			return
		}
		is(t, fmt.Sprintf("P7.3: Open cut off at step %d", at), e, api.ErrPower)
		d.Crash(choices)
		if got := toldBy(d, key); got != want {
			t.Fatalf("P7.3: Open cut off at step %d: %s\nwant\n%s", at, got, want)
		}
	}
}

// halfUsed is a pager of which each second page was used at the last Commit; then others are written, and some are freed.
func halfUsed(t *testing.T, pages int) (*sector.Disk, *Pager) {
	d := diskOf(pages)
	p := format(t, d, key)
	for i := range pages {
		put(t, p, fmt.Sprint("old ", i))
	}
	for i := 1; i < pages; i += 2 {
		is(t, "P7.2: Free", p.Free(uint32(i)), api.OK)
	}
	commit(t, p, 1, "old")
	for i := 0; i < pages; i += 6 {
		is(t, "P7.2: Free", p.Free(uint32(i)), api.OK)
	}
	for i := range pages / 3 {
		put(t, p, fmt.Sprint("new ", i))
	}
	return d, p
}

// P7.3, P7.4: a Commit of many pages, cut off at each step: what there was, or what it makes.
func TestCutCommitOfMany(t *testing.T) {
	for pages, tries := range map[int]int{30: 34, 97: 12, 400: 3} {
		d, p := halfUsed(t, pages)
		was := toldBy(d, key)
		commit(t, p, 2, "new")
		behind := told(p)
		for at := 1; ; at++ {
			d, p := halfUsed(t, pages)
			d.Power(at)
			if p.Commit(2, "new") == api.OK {
				if at < 8 {
					t.Fatalf("P7.3: a Commit of %d steps", at)
				}
				break
			}
			for i := range tries {
				c := d.Copy()
				c.Crash(leftovers()[(i*at)%34])
				if got := toldBy(c, key); got != was && got != behind {
					t.Fatalf("P7.3: %d pages, step %d, leftover %d: %s", pages, at, i, got)
				}
			}
		}
	}
}

// P7.4: until the next Commit what was committed stands on the disk, byte by byte.
func TestCommittedStays(t *testing.T) {
	d := diskOf(8)
	p := format(t, d, key)
	put(t, p, "zero", "one", "two", "three")
	p.Free(1)
	commit(t, p, 2, "m")
	want, pages := told(p), d.Image()
	r := rand.New(rand.NewSource(4))
	for range 300 {
		switch r.Intn(4) {
		case 0:
			p.Alloc()
		case 1:
			p.Free(uint32(r.Intn(8)))
		case 2:
			p.Write(uint32(r.Intn(8)), []byte("new"))
		case 3:
			p.Commit(1, strings.Repeat("x", 201))
			if r.Intn(8) == 0 {
				p.Undo()
			}
		}
		now := d.Copy()
		now.Flush()
		for _, id := range []int{0, 2, 3} {
			if at := 64*32 + 512*id; !bytes.Equal(now.Image()[at:at+512], pages[at:at+512]) {
				t.Fatalf("P7.4: page %d was touched", id)
			}
		}
		if got := toldBy(now, key); got != want {
			t.Fatalf("P7.4: %s\nwant\n%s", got, want)
		}
	}
}

// seen: each nonce that something was sealed under, and the bytes of that.
type seen map[string]string

func (s seen) once(t *testing.T, name string, sealed []byte) {
	t.Helper()
	if was, ok := s[name]; ok && was != string(sealed) {
		t.Fatalf("P7.3: sealed twice under one nonce: %s", name)
	}
	s[name] = string(sealed)
}

// P7.3: no page is sealed twice under one nonce: crashes, Opens, Undos, Formats of this key and of another.
func TestNonces(t *testing.T) {
	r := rand.New(rand.NewSource(77))
	for range 60 {
		d := diskOf(4 + r.Intn(4))
		all := map[api.Key]seen{key: {}, other: {}}
		k := key
		p := format(t, d, k)
		texts := 0
		for range 60 {
			if r.Intn(6) == 0 {
				d.Power(1 + r.Intn(30))
			}
			if id, e := p.Alloc(); e == api.OK {
				before := d.Copy()
				texts++
				p.Write(id, []byte(fmt.Sprint("text ", texts)))
				lookAt(t, all[k], before, d, id)
			}
			switch r.Intn(8) {
			case 0:
				p.Undo()
			case 1, 2:
				for _, id := range p.Used() {
					if r.Intn(2) == 0 {
						p.Free(id)
					}
				}
			case 3, 4, 5:
				p.Commit(uint32(r.Intn(9)), fmt.Sprint(r.Intn(9)))
			}
			if _, e := d.Read(0); e == api.OK && r.Intn(6) > 0 {
				continue
			}
			d.Crash(leftovers()[r.Intn(30)])
			if r.Intn(4) == 0 {
				k = []api.Key{key, other}[r.Intn(2)]
				for cut := range r.Intn(3) {
					d.Power(1 + r.Intn(40))
					Format(d, k)
					d.Crash(leftovers()[cut])
				}
				p = format(t, d, k)
				continue
			}
			p = open(t, d, k)
		}
	}
}

// P7.3: nor with ever so many Writes ahead of a Commit, or of a crash.
func TestManyNonces(t *testing.T) {
	d := diskOf(4)
	s := seen{}
	p := format(t, d, key)
	for life := range 4 {
		for range 3 {
			p.Free(0)
			p.Free(1)
			id, e := p.Alloc()
			is(t, "P7.2: Alloc", e, api.OK)
			for n := range 1500 {
				is(t, "P7.2: Write", p.Write(id, []byte(fmt.Sprint(life, n))), api.OK)
				b, _ := d.Read(32 + 8*int(id))
				name := fmt.Sprint(id, " ", b[:8])
				if s[name] != "" {
					t.Fatalf("P7.3: sealed twice under one nonce: %s", name)
				}
				s[name] = string(b)
			}
			commit(t, p, 0, "")
		}
		d.Crash(nil)
		p = open(t, d, key)
	}
}

// asWritten is all that a disk has, as it was written last, with or without power.
func asWritten(d *sector.Disk) []byte {
	c := d.Copy()
	c.Crash(bytes.Repeat([]byte{255}, 4000))
	return c.Image()
}

// lookAt notes the nonce of a page that was written, as far as it was, unless nothing of it was.
func lookAt(t *testing.T, s seen, before, after *sector.Disk, id uint32) {
	t.Helper()
	at := 64*32 + 512*int(id)
	was, is := asWritten(before)[at:][:64], asWritten(after)[at:][:64]
	if !bytes.Equal(was, is) {
		s.once(t, fmt.Sprint(id, " ", is[:8]), is[8:])
	}
}

// P7.3: nor is a superblock, which may be cut off and come again with other things in it.
func TestSuperNonces(t *testing.T) {
	s := seen{}
	note := func(d *sector.Disk) {
		area := asWritten(d)[:2048]
		for i, b := range groundOf(keysOf(key), 5, area).both {
			if b.valid {
				stands := area[blockFrom(i):][:blockSize]
				s.once(t, fmt.Sprintf("%x", stands[8:20]), stands[20:])
			}
		}
	}
	r := rand.New(rand.NewSource(8))
	for range 20 {
		d := diskOf(5)
		p := format(t, d, key)
		for i := range 40 {
			if r.Intn(2) == 0 {
				d.Power(1 + r.Intn(8))
			}
			e := p.Commit(uint32(i), fmt.Sprint("meta", r.Intn(1000)))
			note(d)
			if e == api.OK && r.Intn(5) > 0 {
				continue
			}
			d.Crash(leftovers()[r.Intn(30)])
			if r.Intn(6) == 0 {
				p = format(t, d, key)
			} else {
				p = open(t, d, key)
			}
			note(d)
		}
	}
}

// plainPager is another pager, without a disk.
type plainPager struct {
	texts []*string // of the pages that are used; "-": not written
	kept  []*string
	root  uint32
	meta  string
}

const unwritten = "-"

func (m *plainPager) alloc() (uint32, api.Errno) {
	for i := range m.texts {
		if m.texts[i] == nil && m.kept[i] == nil {
			s := unwritten
			m.texts[i] = &s
			return uint32(i), api.OK
		}
	}
	return 0, api.ErrSpace
}

func (m *plainPager) write(id uint32, s string) api.Errno {
	if int(id) >= len(m.texts) || m.texts[id] == nil || m.kept[id] != nil {
		return api.ErrPage
	}
	if len(s) > 480 {
		return api.ErrLong
	}
	m.texts[id] = &s
	return api.OK
}

func (m *plainPager) read(id uint32) (string, api.Errno) {
	if int(id) >= len(m.texts) || m.texts[id] == nil || *m.texts[id] == unwritten {
		return "", api.ErrPage
	}
	return *m.texts[id], api.OK
}

func (m *plainPager) free(id uint32) api.Errno {
	if int(id) >= len(m.texts) || m.texts[id] == nil {
		return api.ErrPage
	}
	m.texts[id] = nil
	return api.OK
}

func (m *plainPager) commit(root uint32, meta string) api.Errno {
	if len(meta) > 200 {
		return api.ErrLong
	}
	for _, s := range m.texts {
		if s != nil && *s == unwritten {
			return api.ErrPage
		}
	}
	m.kept, m.root, m.meta = slices.Clone(m.texts), root, meta
	return api.OK
}

func (m *plainPager) told() string {
	room := 0
	var s strings.Builder
	for i := range m.texts {
		if m.texts[i] == nil && m.kept[i] == nil {
			room++
		}
		if m.texts[i] == nil {
			continue
		}
		text, e := m.read(uint32(i))
		fmt.Fprintf(&s, ", %d: %q %v", i, text, e)
	}
	return fmt.Sprintf("%d pages, room %d, root %d, meta %q", len(m.texts), room, m.root, m.meta) + s.String()
}

// P7.1, P7.2, P7.3: rows of calls are answered as another pager does, which has no disk.
func TestRowsOfCalls(t *testing.T) {
	r := rand.New(rand.NewSource(7))
	counts := map[api.Errno]int{}
	for range 120 {
		pages := 4 + r.Intn(9)
		d := diskOf(pages)
		p := format(t, d, key)
		m := &plainPager{texts: make([]*string, pages), kept: make([]*string, pages)}
		for n := range 80 {
			id := uint32(r.Intn(pages + 1))
			var got, want string
			var e api.Errno
			switch r.Intn(12) {
			case 0, 1, 2:
				a, f := p.Alloc()
				b, g := m.alloc()
				got, want, e = fmt.Sprint(a, f), fmt.Sprint(b, g), g
			case 3, 4, 5, 6:
				s := strings.Repeat(string(rune('a'+n%26)), []int{1, 2, 50, 480, 481}[r.Intn(5)])
				f, g := p.Write(id, []byte(s)), m.write(id, s)
				got, want, e = fmt.Sprint(f), fmt.Sprint(g), g
			case 7:
				f, g := p.Free(id), m.free(id)
				got, want, e = fmt.Sprint(f), fmt.Sprint(g), g
			case 8, 9:
				meta := strings.Repeat("m", []int{0, 3, 200, 201}[r.Intn(4)])
				f, g := p.Commit(id, meta), m.commit(id, meta)
				got, want, e = fmt.Sprint(f), fmt.Sprint(g), g
			case 10:
				if r.Intn(3) == 0 {
					p.Undo()
					m.texts = slices.Clone(m.kept)
				}
			case 11:
				if r.Intn(3) == 0 {
					d.Crash(leftovers()[r.Intn(30)])
					p = open(t, d, key)
					m.texts = slices.Clone(m.kept)
				}
			}
			counts[e]++
			if got != want {
				t.Fatalf("P7.2: call %d: %s, want %s", n, got, want)
			}
			tells(t, "P7.2", p, m.told())
		}
	}
	for _, e := range []api.Errno{api.OK, api.ErrSpace, api.ErrPage, api.ErrLong} {
		if counts[e] < 20 {
			t.Fatalf("too seldom: %v of %v", e, slices.Sorted(maps.Keys(counts)))
		}
	}
}
