package pager

import (
	"sacristy/api"
	"sacristy/bits"
	"sacristy/mac"
	"sacristy/seal"
)

const (
	superSectors = 32
	blockSectors = superSectors / 2
	blockSize    = blockSectors * api.SectorSize
	editionSize  = 4
	nonceSize    = len(api.Nonce{})
	rootSize     = 4
	maxMeta      = 200
	bodySize     = blockSize - editionSize - nonceSize - len(api.Tag{})
	cellsSize    = bodySize - rootSize - lengthSize - maxMeta

	pageLabel  = "page"
	superLabel = "super"

	// No disk lives through as many editions: where more are told something else stands there.
	mostEditions = 1 << 31
	// More gens than an edition can need; and a bit more, so that the lowest bits of the gens of one edition, too,
	// aren't those of the next one, which are all that a superblock of many pages has room for.
	gensOfEdition = 1<<32 + api.MaxPages + 1
)

// keys that are derived from a pager's.
type keys struct {
	page, super, nonce api.Key
}

func keysOf(k api.Key) keys {
	return keys{
		page:  mac.Derive(k, pageLabel, 0),
		super: mac.Derive(k, superLabel, 0),
		nonce: mac.Derive(k, superLabel, 1),
	}
}

// super: what a superblock keeps.
type super struct {
	root  uint32
	meta  string
	pages map[index]state
}

// block: what stands in one of the two places; valid, if it is a superblock of the key.
// Its edition stands there in the clear: it goes on from one key to another.
type block struct {
	edition uint32
	valid   bool
	body    []byte
}

func firstGen(edition uint32) uint64 {
	return uint64(edition) * gensOfEdition
}

// superBytes: the nonce is made of all that is sealed, as an edition that a crash cut off may come again with other things.
func superBytes(k keys, edition uint32, pages int, s super) []byte {
	body := append(bits.Put(nil, uint64(s.root), rootSize), bits.Text(nil, s.meta)...)
	body = filledUp(append(body, cellsOf(pages, s.pages)...), bodySize)
	aad := superAad(edition, pages)
	sum := mac.Mac(k.nonce[:], append(superAad(edition, pages), body...))
	nonce := api.Nonce(sum[:nonceSize])
	b := append(bits.Put(nil, uint64(edition), editionSize), nonce[:]...)
	return append(b, seal.Seal(k.super, nonce, aad, body)...)
}

func blockOf(k keys, pages int, b []byte) block {
	edition := bits.Big(b)
	nonce := api.Nonce(b[editionSize:][:nonceSize])
	body, e := seal.Open(k.super, nonce, superAad(edition, pages), b[editionSize+nonceSize:])
	return block{edition: edition, valid: e == api.OK, body: body}
}

func superOf(pages int, body []byte) super {
	root, rest, _ := bits.Get(body, rootSize)
	meta, cells, _ := bits.GetText(rest, maxMeta)
	return super{root: uint32(root), meta: meta, pages: statesOf(pages, cells)}
}

func superAad(edition uint32, pages int) []byte {
	aad := bits.Put([]byte(superLabel), uint64(edition), editionSize)
	return bits.Put(aad, uint64(pages), lengthSize)
}

func blocksOf(k keys, pages int, area []byte) [2]block {
	return [2]block{blockOf(k, pages, area[:blockSize]), blockOf(k, pages, area[blockSize:])}
}

// newest is the place of the newest superblock of the key, or -1.
func newest(both [2]block) int {
	at := -1
	for i, b := range both {
		if b.valid && (at < 0 || b.edition > both[at].edition) {
			at = i
		}
	}
	return at
}

// next tells in which place the next superblock is to be written, and its edition.
func next(both [2]block) (int, uint32) {
	if at := newest(both); at >= 0 {
		return 1 - at, both[at].edition + 1
	}
	// There may be another key's: its elder one goes first, else a cut would leave that as if it were its last.
	at := 0
	if both[1].edition < both[0].edition {
		at = 1
	}
	return at, 1 + max(likely(both[0].edition), likely(both[1].edition))
}

func likely(edition uint32) uint32 {
	if edition >= mostEditions {
		return 0
	}
	return edition
}

// keptBits: how many of a gen's lowest bits a superblock has room for, beside the one that tells that a page is used.
func keptBits(pages int) int {
	return min(8*cellsSize/pages-1, genBits)
}

// cellsOf tells of each page whether it is used, and the lowest bits of its gen.
func cellsOf(pages int, states map[index]state) []byte {
	cells := make([]byte, cellsSize)
	kept := keptBits(pages)
	for id := range pages {
		s, used := states[indexOf(uint32(id))]
		if !used {
			continue
		}
		at := id * (1 + kept)
		putBits(cells, at, 1, 1)
		putBits(cells, at+1, s.gen, kept)
	}
	return cells
}

func statesOf(pages int, cells []byte) map[index]state {
	states := map[index]state{}
	kept := keptBits(pages)
	for id := range pages {
		at := id * (1 + kept)
		if getBits(cells, at, 1) == 1 {
			states[indexOf(uint32(id))] = state{gen: getBits(cells, at+1, kept), known: kept}
		}
	}
	return states
}

// putBits expects noughts there.
func putBits(b []byte, at int, n uint64, size int) {
	for i := range size {
		bit := byte(n>>(size-1-i)) & 1
		b[(at+i)/8] |= bit << ((at + i) % 8)
	}
}

func getBits(b []byte, at, size int) uint64 {
	n := uint64(0)
	for i := range size {
		n = n<<1 | uint64(b[(at+i)/8]>>((at+i)%8)&1)
	}
	return n
}
