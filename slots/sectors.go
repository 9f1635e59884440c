package slots

import (
	"maps"
	"slices"

	"sacristy/api"
	"sacristy/bits"
	"sacristy/mac"
	"sacristy/sector"
)

// On the disk stand two counts of the Puts, written by turns, then a sector for each slot: the wrapped key, and behind it
// the mark of its gen. Of a torn sector the first bytes are new, so that a mark that is whole has the whole key ahead of
// it, if it was written where no mark stood. So a mark goes first, and is kept so, ahead of any change of the key.
// A mark is made of no key: which slots a crash empties doesn't hang on the keys in them.
const (
	countSectors = 2
	wrappedSize  = 48
	numberSize   = 8
	checkSize    = 8
	placeSize    = 2
	markSize     = numberSize + checkSize
	markLabel    = "slots"
)

// content of a sector.
type content [api.SectorSize]byte

// mark: a number and a check of it by which it is known whether it stands there whole.
type mark [markSize]byte

// phase: what sectors are to be kept, all of it or not, ahead of the next phase.
type phase map[int]content

// entry: what a slot holds that isn't empty.
type entry struct {
	gen uint64
	key [wrappedSize]byte
}

func countAt(puts uint64) int {
	return int(puts % countSectors)
}

func slotAt(i int) int {
	return countSectors + i
}

// markOf is a mark for one sector alone: none counts anywhere else.
func markOf(at int, n uint64) mark {
	number := bits.Put(nil, n, numberSize)
	sum := mac.Mac([]byte(markLabel), bits.Put(number, uint64(at), placeSize))
	return mark(slices.Concat(number, sum[:checkSize]))
}

// numberOf is the number of a mark of that sector; false of what is none. (There is no mark of 0: nothing was put yet.)
func numberOf(at int, m mark) (uint64, bool) {
	n, _, _ := bits.Get(m[:], numberSize)
	return n, n > 0 && m == markOf(at, n)
}

func countContent(puts uint64) content {
	m := markOf(countAt(puts), puts)
	var c content
	copy(c[:], m[:])
	return c
}

// unmarked is how an entry stands there when it counts no more; noughts, of none.
func (x entry) unmarked() content {
	var c content
	copy(c[:], x.key[:])
	return c
}

// marked is how an entry stands in slot i.
func (x entry) marked(i int) content {
	c := x.unmarked()
	m := markOf(slotAt(i), x.gen)
	copy(c[wrappedSize:], m[:])
	return c
}

// entryOf is what stands in slot i; false, if that is empty.
func entryOf(i int, c content) (entry, bool) {
	gen, ok := numberOf(slotAt(i), mark(c[wrappedSize:]))
	if !ok {
		return entry{}, false
	}
	return entry{gen: gen, key: [wrappedSize]byte(c[:wrappedSize])}, true
}

// load tells what stands on the disk, and how the empty slots must stand where something else was left.
func load(d *sector.Disk) (*Slots, phase, api.Errno) {
	if d.Len() < leastSectors {
		return nil, nil, api.ErrSpace
	}
	puts, e := loadCount(d)
	if e != api.OK {
		return nil, nil, e
	}
	s, left := &Slots{disk: d, held: map[int]entry{}, puts: puts}, phase{}
	for i := range api.MaxSlots {
		c, e := read(d, slotAt(i))
		if e != api.OK {
			return nil, nil, e
		}
		now, ok := entryOf(i, c)
		switch {
		case ok:
			s.held[i] = now
		case puts > 0 && c != content{}: // without any Put it is nothing that a slot left
			left[slotAt(i)] = content{}
		}
	}
	return s, left, api.OK
}

// loadCount is the newest count; 0, if there is none.
func loadCount(d *sector.Disk) (uint64, api.Errno) {
	newest := uint64(0)
	for at := range countSectors {
		c, e := read(d, at)
		if e != api.OK {
			return 0, e
		}
		if n, ok := numberOf(at, mark(c[:markSize])); ok {
			newest = max(newest, n)
		}
	}
	return newest, api.OK
}

func read(d *sector.Disk, at int) (content, api.Errno) {
	b, e := d.Read(at)
	if e != api.OK {
		return content{}, e
	}
	return content(b), api.OK
}

// keep writes one phase behind the other, each of them kept ahead of the next one.
func keep(d *sector.Disk, phases ...phase) api.Errno {
	for _, p := range phases {
		for _, at := range slices.Sorted(maps.Keys(p)) {
			c := p[at]
			if e := d.Write(at, c[:]); e != api.OK {
				return e
			}
		}
		if e := d.Flush(); e != api.OK {
			return e
		}
	}
	return api.OK
}
