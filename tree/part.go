package tree

import (
	"cmp"
	"slices"

	"sacristy/api"
	"sacristy/node"
)

const (
	smallSize  = api.MaxPlain / 2 // below it a node is joined with one beside it, if both fit into a page
	headSize   = 3                // of a branch
	keySize    = 2                // of a branch's key, beside its bytes
	kidSize    = 4
	leastPairs = 1 // of a leaf that is cut off another one
	leastKids  = 2
)

// part is a node in memory: a branch, if it has kids, else a leaf. A branch's key i is above all keys of kid i, and above none of kid i + 1.
type part struct {
	pairs []api.Pair
	keys  []string
	kids  []kid
}

// kid is a node as it stands on its page, or one that is made and not written yet.
type kid struct {
	page uint32
	made *part
}

func (n part) isLeaf() bool {
	return len(n.kids) == 0
}

func (n part) isEmpty() bool {
	return n.isLeaf() && len(n.pairs) == 0
}

// isLone: of a branch that has lost all kids but one, which is none any more.
func (n part) isLone() bool {
	return len(n.kids) == 1
}

// isSmall is true of what is empty or lone, too.
func (n part) isSmall() bool {
	return n.size() < smallSize
}

func (n part) fits() bool {
	return n.size() <= api.MaxPlain
}

// size tells how many bytes node makes of it, also where those are too many.
func (n part) size() int {
	if n.isLeaf() {
		return node.Size(n.pairs)
	}
	size := headSize + kidSize*len(n.kids)
	for _, k := range n.keys {
		size += keySize + len(k)
	}
	return size
}

// bytes asks that all kids are written.
func (n part) bytes() ([]byte, api.Errno) {
	if n.isLeaf() {
		return node.Leaf(n.pairs)
	}
	pages := make([]uint32, len(n.kids))
	for i, k := range n.kids {
		pages[i] = k.page
	}
	return node.Branch(n.keys, pages)
}

// find tells where in a leaf the key is, or would be.
func (n part) find(key string) (int, bool) {
	return slices.BinarySearchFunc(n.pairs, key, func(x api.Pair, k string) int { return cmp.Compare(x.Key, k) })
}

// kidOf tells which kid of a branch the key belongs to.
func (n part) kidOf(key string) int {
	i, same := slices.BinarySearch(n.keys, key)
	if same {
		i++
	}
	return i
}

// withPairs is a leaf that has in what was the key's place.
func (n part) withPairs(key string, in []api.Pair) part {
	i, had := n.find(key)
	end := i
	if had {
		end++
	}
	return part{pairs: replaced(n.pairs, i, end, in)}
}

// withKids is a branch that has a row of kids where the kids from first to last were.
func (n part) withKids(first, last int, row part) part {
	return part{
		keys: replaced(n.keys, first, last, row.keys),
		kids: replaced(n.kids, first, last+1, row.kids),
	}
}

// joined is both as one; key parts them.
func joined(left part, key string, right part) part {
	if left.isLeaf() {
		return part{pairs: replaced(left.pairs, len(left.pairs), len(left.pairs), right.pairs)}
	}
	end := len(left.keys)
	keys := replaced(left.keys, end, end, []string{key})
	return part{
		keys: replaced(keys, end+1, end+1, right.keys),
		kids: replaced(left.kids, end+1, end+1, right.kids),
	}
}

// row is n as kids of a branch: one kid if it fits into a page, else two with the key between. (A node that was changed by one pair or one kid fits into two.)
func (n part) row() part {
	if n.fits() {
		return part{kids: []kid{{made: &n}}}
	}
	left, key, right := n.cut(n.middle())
	return part{keys: []string{key}, kids: []kid{{made: &left}, {made: &right}}}
}

// cut gives n's first i pairs or kids, the key that parts them from the others, and those.
func (n part) cut(i int) (part, string, part) {
	if n.isLeaf() {
		return part{pairs: n.pairs[:i]}, n.pairs[i].Key, part{pairs: n.pairs[i:]}
	}
	return part{keys: n.keys[:i-1], kids: n.kids[:i]}, n.keys[i-1], part{keys: n.keys[i:], kids: n.kids[i:]}
}

// middle tells where to cut, so that the greater half is as small as it can be.
func (n part) middle() int {
	count, least := len(n.pairs), leastPairs
	if !n.isLeaf() {
		count, least = len(n.kids), leastKids
	}
	best, size := least, n.size()
	for i := least; i <= count-least; i++ {
		left, _, right := n.cut(i)
		if greater := max(left.size(), right.size()); greater < size {
			best, size = i, greater
		}
	}
	return best
}

// replaced is l with in where it had those from first until end; always a copy, as what was read may be a part of another node too.
func replaced[T any](l []T, first, end int, in []T) []T {
	out := make([]T, len(l)-(end-first)+len(in))
	n := copy(out, l[:first])
	n += copy(out[n:], in)
	copy(out[n:], l[end:])
	return out
}
