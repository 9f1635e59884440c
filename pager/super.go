package pager

import (
	"sacristy/api"
	"sacristy/bits"
	"sacristy/mac"
	"sacristy/seal"
)

// The first sectors are: a superblock, the table of the pages' gens, the other superblock.
// Both superblocks share the table, as there is no room for the gens of all pages twice. They can: a page that was used
// at the last Commit isn't written until the next one, so that it has one gen in both; and the gen of a page that wasn't
// is asked for by the new superblock alone.
const (
	superSectors = 32
	areaSize     = superSectors * api.SectorSize
	// The bits of a gen that there is room for. With them it is known whole, as 2^29 gens are never taken: a page's costs
	// eight steps of the disk, a superblock's seven, and at most as many again as pages took are left out by crashes.
	lowBits    = 29
	tableSize  = (api.MaxPages*lowBits + 7) / 8
	blockSize  = (areaSize - tableSize) / 2
	limitSize  = 8
	nonceSize  = len(api.Nonce{})
	rootSize   = 4
	maxMeta    = 200
	marksSize  = (api.MaxPages + 7) / 8
	sealedFrom = limitSize + nonceSize
	bodySize   = blockSize - sealedFrom - len(api.Tag{})

	pageLabel  = "page"
	superLabel = "super"

	// No disk lives through as many gens: where more are told something else stands there.
	mostGens = 1 << 60
)

// keys that are derived from a pager's.
type keys struct {
	page, super, nonce api.Key
}

func keysOf(k api.Key) keys {
	return keys{
		page:  mac.Derive(k, pageLabel, 0),
		super: mac.Derive(k, superLabel, 0),
		nonce: mac.Derive(k, superLabel, 1),
	}
}

// super: what a superblock keeps.
type super struct {
	root  uint32
	meta  string
	pages map[index]state
}

// block: what stands in one of the two places; valid, if it is a superblock of the key.
// Its limit is above all gens that were taken, and above the elder superblock's. It stands there in the clear: it goes
// on from one key to another.
type block struct {
	limit uint64
	valid bool
	super super
}

// ground: what stands in the first sectors.
type ground struct {
	area []byte
	both [2]block
}

func groundOf(k keys, pages int, area []byte) ground {
	return ground{area: area, both: [2]block{blockOf(k, pages, area, 0), blockOf(k, pages, area, 1)}}
}

// newest is the place of the newest superblock of the key, or -1.
func (g ground) newest() int {
	at := -1
	for i, b := range g.both {
		if b.valid && (at < 0 || b.limit > g.both[at].limit) {
			at = i
		}
	}
	return at
}

// next tells in which place the next superblock is to be written, and the limit of the one ahead of it.
func (g ground) next() (int, uint64) {
	if at := g.newest(); at >= 0 {
		return 1 - at, g.both[at].limit
	}
	// There may be another key's: its elder one goes first, else a cut would leave that as if it were its last.
	if g.both[1].limit < g.both[0].limit {
		return 1, 0
	}
	return 0, 0
}

// limit is above all gens that were taken for pages, with whatever key.
func (g ground) limit() uint64 {
	limit := uint64(1)
	for _, b := range g.both {
		if b.valid || b.limit < mostGens {
			limit = max(limit, b.limit+1)
		}
	}
	return limit
}

// withGens is the area with the gens of these pages in its table; the others' stay.
func withGens(area []byte, pages map[index]state) []byte {
	out := filledUp(area, areaSize)
	for i, s := range pages {
		putBits(out[blockSize:], int(bits.Big(i[:]))*lowBits, s.gen, lowBits)
	}
	return out
}

// withBlock is the area with that superblock in that place.
func withBlock(area []byte, at int, b []byte) []byte {
	out := filledUp(area, areaSize)
	copy(out[blockFrom(at):], b)
	return out
}

func blockFrom(at int) int {
	return at * (areaSize - blockSize)
}

func blockBytes(k keys, pages int, limit uint64, s super) []byte {
	body := bodyOf(s)
	nonce := superNonce(k, pages, limit, body, s.pages)
	b := append(bits.Put(nil, limit, limitSize), nonce[:]...)
	return append(b, seal.Seal(k.super, nonce, superAad(pages, limit), body)...)
}

func blockOf(k keys, pages int, area []byte, at int) block {
	b := area[blockFrom(at):][:blockSize]
	limit, _, _ := bits.Get(b[:limitSize], limitSize)
	nonce := api.Nonce(b[limitSize:sealedFrom])
	body, e := seal.Open(k.super, nonce, superAad(pages, limit), b[sealedFrom:])
	if e != api.OK {
		return block{limit: limit}
	}
	s := superOf(pages, limit, body, area[blockSize:])
	return block{limit: limit, valid: nonce == superNonce(k, pages, limit, body, s.pages), super: s}
}

// superNonce is made of all that a superblock tells: one that a crash cut off may come again with other things, and the
// gens, which aren't sealed with it, must be those that it was made with.
func superNonce(k keys, pages int, limit uint64, body []byte, states map[index]state) api.Nonce {
	all := append(superAad(pages, limit), body...)
	for id := range uint32(pages) {
		if s, used := states[indexOf(id)]; used {
			gen := bits.Put(nil, s.gen, genSize)
			all = append(all, gen...)
		}
	}
	sum := mac.Mac(k.nonce[:], all)
	return api.Nonce(sum[:nonceSize])
}

func superAad(pages int, limit uint64) []byte {
	aad := bits.Put([]byte(superLabel), limit, limitSize)
	return bits.Put(aad, uint64(pages), lengthSize)
}

func bodyOf(s super) []byte {
	body := append(bits.Put(nil, uint64(s.root), rootSize), marksOf(s.pages)...)
	return filledUp(bits.Text(body, s.meta), bodySize)
}

func superOf(pages int, limit uint64, body, table []byte) super {
	root, rest, _ := bits.Get(body, rootSize)
	meta, _, _ := bits.GetText(rest[marksSize:], maxMeta)
	return super{root: uint32(root), meta: meta, pages: statesOf(pages, limit, rest[:marksSize], table)}
}

// marksOf tells of each page by a bit whether it is used.
func marksOf(states map[index]state) []byte {
	marks := make([]byte, marksSize)
	for i := range states {
		putBits(marks, int(bits.Big(i[:])), 1, 1)
	}
	return marks
}

func statesOf(pages int, limit uint64, marks, table []byte) map[index]state {
	states := map[index]state{}
	for id := range pages {
		if getBits(marks, id, 1) == 1 {
			states[indexOf(uint32(id))] = state{gen: genBelow(limit, getBits(table, id*lowBits, lowBits))}
		}
	}
	return states
}

// genBelow is the greatest gen below a limit that has those lowest bits.
func genBelow(limit, low uint64) uint64 {
	last := limit - 1
	return last - (last-low)&(1<<lowBits-1)
}

func putBits(b []byte, at int, n uint64, size int) {
	for i := range size {
		place, shift := (at+i)/8, (at+i)%8
		b[place] = b[place]&^(1<<shift) | byte(n>>i)&1<<shift
	}
}

func getBits(b []byte, at, size int) uint64 {
	n := uint64(0)
	for i := range size {
		n |= uint64(b[(at+i)/8]>>((at+i)%8)&1) << i
	}
	return n
}
