package names

import (
	"strings"

	"sacristy/api"
	"sacristy/path"
)

// space is a namespace as it is told, and how much of what it has is its own, of none under it: that goes with it too,
// and into copies.
type space struct {
	api.Space
	OwnBytes, OwnEntries int
}

// place is where a namespace stands: its parent's path, and its own last segment ("" of the root alone). Each path is
// one place, so that places can be compared and be the keys of maps.
type place struct{ parent, last string }

func root() place {
	return place{}
}

// placeOf is the place of a path; the root and false of what is none.
func placeOf(s string) (place, bool) {
	segments := path.Split(s)
	if len(segments) == 0 {
		return root(), path.Is(s)
	}
	end := len(segments) - 1
	return place{path.Join(segments[:end]), segments[end]}, true
}

// text of the root is "": its last segment is none, and makes no path.
func (p place) text() string {
	return path.Join(append(path.Split(p.parent), p.last))
}

// above the root is the root.
func (p place) above() place {
	up, _ := placeOf(p.parent)
	return up
}

func (p place) isUnder(top place) bool {
	return path.Under(p.text(), top.text())
}

func byCode(p, q place) int {
	return strings.Compare(path.Code(p.text()), path.Code(q.text()))
}
