package policy

import (
	"math/rand"
	"regexp"
	"slices"
	"strings"

	"sacristy/api"
)

const ten = "abcdefgh09"

var sixWords = []string{"read", "write", "delete", "list", "admin", "deny"}

// The model tells policies another way: patterns by an expression, the texts of abilities by a list of all 63, matches
// by an expression that is made of the pattern.
var (
	patternForm = regexp.MustCompile(`\A(([a-z0-9]{1,10}|\+)/){0,3}([a-z0-9]{1,10}|\+|\*)\z`)
	canTexts    = modelCanTexts()
)

// modelCanTexts: of each set of abilities, by its number, the words with commas between.
func modelCanTexts() [64]string {
	var all [64]string
	for bit, word := range sixWords {
		for can := range 1 << bit {
			all[can+1<<bit] = strings.TrimPrefix(all[can]+","+word, ",")
		}
	}
	return all
}

func modelParse(s string) ([]api.Rule, bool) {
	var l []api.Rule
	for _, text := range strings.Split(s, ";") {
		halves := strings.Split(text, " ")
		if len(halves) != 2 || !patternForm.MatchString(halves[0]) {
			return nil, false
		}
		can := slices.Index(canTexts[:], halves[1])
		if can < 1 {
			return nil, false
		}
		l = append(l, api.Rule{Pattern: halves[0], Can: can})
	}
	return l, len(l) <= 6
}

func modelIs(l []api.Rule) bool {
	wrong := func(r api.Rule) bool {
		return !patternForm.MatchString(r.Pattern) || r.Can < 1 || r.Can > 63
	}
	return len(l) >= 1 && len(l) <= 6 && !slices.ContainsFunc(l, wrong)
}

func modelPrint(l []api.Rule) string {
	if !modelIs(l) {
		return ""
	}
	s := ""
	for _, r := range l {
		s += ";" + r.Pattern + " " + canTexts[r.Can]
	}
	return s[1:]
}

// modelMatch of a pattern: an expression of all paths that it matches; of what is no pattern nil.
func modelMatch(pattern string) *regexp.Regexp {
	if !patternForm.MatchString(pattern) {
		return nil
	}
	form := strings.ReplaceAll(pattern, "+", `[^/]+`)
	form = strings.ReplaceAll(form, "*", `[^/]*(/[^/]*)*`)
	return regexp.MustCompile(`\A` + form + `\z`)
}

func modelCan(l []api.Rule, path string) int {
	can := 0
	for _, r := range l {
		if m := modelMatch(r.Pattern); m != nil && m.MatchString(path) {
			can |= r.Can
		}
	}
	if can&32 != 0 {
		return 0
	}
	return can
}

// rows of pieces, with that between: all of at most n of them.
func rows(pieces []string, between string, n int) []string {
	var all []string
	level := []string{""}
	for depth := range n {
		var next []string
		for _, s := range level {
			for _, piece := range pieces {
				if depth == 0 {
					next = append(next, piece)
				} else {
					next = append(next, s+between+piece)
				}
			}
		}
		all = append(all, next...)
		level = next
	}
	return all
}

func randomPattern(r *rand.Rand) string {
	var parts []string
	for range 1 + r.Intn(4) {
		parts = append(parts, []string{"a", "b", "+", "9", ten}[r.Intn(5)])
	}
	switch r.Intn(6) {
	case 0:
		parts = append(parts[:len(parts)-1], "*")
	case 1:
		parts = append(parts[:len(parts)-1], "*")
		return strings.Join(parts, "/")
	case 2:
		return strings.Join(append(parts, []string{"", "*", "A", ten + "a"}[r.Intn(4)]), "/")
	}
	return strings.Join(parts, "/")
}

func randomPath(r *rand.Rand) string {
	var segments []string
	for range r.Intn(7) {
		segments = append(segments, []string{"a", "b", "9", ten, "", "+", "*", "\xff", " B"}[r.Intn(9)])
	}
	return strings.Join(segments, "/")
}
