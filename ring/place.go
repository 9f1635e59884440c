package ring

import (
	"slices"

	"sacristy/api"
	"sacristy/path"
)

// place is a path by its segments, with "" for those that it hasn't (the root has none): each path is one place, so
// that places can be compared and be the keys of maps.
type place [api.MaxDepth]string

// placeOf is the place of a path; the root and false of what is none.
func placeOf(s string) (place, bool) {
	var p place
	copy(p[:], path.Split(s))
	return p, path.Is(s)
}

func (p place) isRoot() bool {
	return p == place{}
}

func (p place) depth() int {
	n := 0
	for n < len(p) && p[n] != "" {
		n++
	}
	return n
}

// upTo is the place of p's first n segments.
func (p place) upTo(n int) place {
	var up place
	copy(up[:n], p[:n])
	return up
}

// parent of the root is the root.
func (p place) parent() place {
	return p.upTo(max(p.depth()-1, 0))
}

func (p place) text() string {
	return path.Join(p[:p.depth()])
}

// byCode compares places as their codes are, byte by byte: the byte behind each segment is below all of a segment's, so
// that the segments tell, and the codes needn't be made.
func byCode(p, q place) int {
	return slices.Compare(p[:], q[:])
}
