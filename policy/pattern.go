package policy

import (
	"strings"

	"sacristy/api"
)

const (
	betweenParts = "/"
	anyOne       = "+" // any one segment, of a byte or more
	anyRest      = "*" // one or more, all that are left
	deepest      = 4   // parts of a pattern
	longest      = deepest*(api.MaxSegment+len(betweenParts)) - len(betweenParts)
)

// partsOf a pattern; none of what is no pattern.
func partsOf(pattern string) []string {
	// The length first: what is longer isn't gone through.
	if len(pattern) > longest {
		return nil
	}
	parts := strings.Split(pattern, betweenParts)
	if len(parts) > deepest {
		return nil
	}
	for i, part := range parts {
		last := i == len(parts)-1
		if !isSegment(part) && part != anyOne && !(last && part == anyRest) {
			return nil
		}
	}
	return parts
}

func isSegment(s string) bool {
	if len(s) < 1 || len(s) > api.MaxSegment {
		return false
	}
	for i := range len(s) {
		if !smallOrDigit(s[i]) {
			return false
		}
	}
	return true
}

func smallOrDigit(c byte) bool {
	return 'a' <= c && c <= 'z' || '0' <= c && c <= '9'
}

// placeOf a path: its segments, all behind the deepest that a pattern tells of as one: that there is more is all that
// matters of it.
func placeOf(path string) []string {
	return strings.SplitN(path, betweenParts, deepest+1)
}

func matches(pattern string, place []string) bool {
	parts := partsOf(pattern)
	if len(parts) == 0 || len(parts) > len(place) {
		return false
	}
	for i, part := range parts {
		if part == anyRest {
			return true
		}
		if !matchesOne(part, place[i]) {
			return false
		}
	}
	return len(parts) == len(place)
}

func matchesOne(part, segment string) bool {
	if part == anyOne {
		return segment != ""
	}
	return part == segment
}
