package pager

import (
	"bytes"
	"slices"

	"sacristy/api"
	"sacristy/bits"
	"sacristy/seal"
	"sacristy/sector"
)

const (
	pageSectors = api.PageSize / api.SectorSize
	genSize     = 8
	lengthSize  = 2
	textSize    = lengthSize + api.MaxPlain
	sealedSize  = textSize + len(api.Tag{})
	pageAad     = "page"
)

// index: a page's number as its bytes, by which its state is found.
type index [4]byte

// state of a used page.
type state struct {
	gen uint64 // that it was written with; 0: it was never written
}

func (s state) written() bool {
	return s.gen > 0
}

func indexOf(id uint32) index {
	return bits.PutBig(id)
}

func pagesOf(d *sector.Disk) int {
	return min(max(d.Len()-superSectors, 0)/pageSectors, api.MaxPages)
}

func firstSector(id uint32) int {
	return superSectors + int(id)*pageSectors
}

func pageBytes(k api.Key, id uint32, gen uint64, plain []byte) []byte {
	text := append(bits.Put(nil, uint64(len(plain)), lengthSize), plain...)
	sealed := seal.Seal(k, seal.NonceOf(id, gen), []byte(pageAad), filledUp(text, textSize))
	return filledUp(append(bits.Put(nil, gen, genSize), sealed...), api.PageSize)
}

func plainOf(k api.Key, id uint32, s state, page []byte) ([]byte, api.Errno) {
	gen, sealed, _ := bits.Get(page, genSize)
	if gen != s.gen {
		return nil, api.ErrSeal
	}
	text, e := seal.Open(k, seal.NonceOf(id, gen), []byte(pageAad), sealed[:sealedSize])
	if e != api.OK {
		return nil, api.ErrSeal
	}
	// Whoever has the key may have sealed any length.
	size, plain, _ := bits.Get(text, lengthSize)
	return plain[:min(size, api.MaxPlain)], api.OK
}

// filledUp is b and noughts, in new memory.
func filledUp(b []byte, size int) []byte {
	out := make([]byte, size)
	copy(out, b)
	return out
}

func readSectors(d *sector.Disk, from, n int) ([]byte, api.Errno) {
	all := make([]byte, 0, n*api.SectorSize)
	for i := range n {
		b, e := d.Read(from + i)
		if e != api.OK {
			return nil, e
		}
		all = append(all, b...)
	}
	return all, api.OK
}

func writeSectors(d *sector.Disk, from int, b []byte) api.Errno {
	for part := range slices.Chunk(b, api.SectorSize) {
		if e := d.Write(from, part); e != api.OK {
			return e
		}
		from++
	}
	return api.OK
}

// rewriteArea writes those of the first sectors that are unlike what stands there, and flushes them.
func rewriteArea(d *sector.Disk, stands, area []byte) api.Errno {
	for i := range superSectors {
		at := i * api.SectorSize
		part := area[at:][:api.SectorSize]
		if bytes.Equal(part, stands[at:][:api.SectorSize]) {
			continue
		}
		if e := d.Write(i, part); e != api.OK {
			return e
		}
	}
	return d.Flush()
}
