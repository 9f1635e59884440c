package path

import (
	"slices"
	"strings"

	"sacristy/api"
)

// place is a path by its segments, with "" for those that it hasn't: each path is one place, so that places can be
// compared and be the keys of maps.
type place [api.MaxDepth]string

// places is a set of them.
type places map[place]struct{}

func root() place {
	return place{}
}

// placeOf is the place of a path; the root and false of what is none.
func placeOf(s string) (place, bool) {
	if s == "" {
		return root(), true
	}
	return placeAt(parts(s, between))
}

// placeAt is the place that has these segments; the root and false where none has.
func placeAt(segments []string) (place, bool) {
	if len(segments) > api.MaxDepth {
		return root(), false
	}
	var p place
	for i, s := range segments {
		if !Segment(s) {
			return root(), false
		}
		// A piece of the text that was handed in would go out with the answer.
		p[i] = strings.Clone(s)
	}
	return p, true
}

func (p place) depth() int {
	n := slices.Index(p[:], "")
	if n < 0 {
		return len(p)
	}
	return n
}

func (p place) segments() []string {
	return slices.Clone(p[:p.depth()])
}

func (p place) text() string {
	return strings.Join(p.segments(), between)
}

// parent of the root is the root.
func (p place) parent() place {
	if p != root() {
		p[p.depth()-1] = ""
	}
	return p
}

// above is the places that p is under: p itself, and so on up to the root.
func (p place) above() places {
	all := places{root(): {}}
	for p != root() {
		all[p] = struct{}{}
		p = p.parent()
	}
	return all
}
