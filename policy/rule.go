package policy

import (
	"strings"

	"sacristy/api"
)

const (
	beforeCans  = " "
	betweenCans = ","
)

// words of the abilities, from the lowest bit on.
var words = [...]string{"read", "write", "delete", "list", "admin", "deny"}

// ability of the word at that place of the table.
func ability(place int) int {
	return api.CanRead << place
}

// abilityOf a word; 0 of none.
func abilityOf(text string) int {
	for i, word := range words {
		if word == text {
			return ability(i)
		}
	}
	return 0
}

func isRule(r api.Rule) bool {
	return len(partsOf(r.Pattern)) > 0 && 0 < r.Can && r.Can < ability(len(words))
}

// ruleOf a text, in memory of its own; false of what is no rule's.
func ruleOf(text string) (api.Rule, bool) {
	pattern, cans, _ := strings.Cut(text, beforeCans)
	r := api.Rule{Pattern: pattern, Can: cansOf(cans)}
	if !isRule(r) {
		return api.Rule{}, false
	}
	r.Pattern = strings.Clone(pattern)
	return r, true
}

func ruleText(r api.Rule) string {
	return r.Pattern + beforeCans + cansText(r.Can)
}

// cansOf a text: all its abilities together; 0 of what isn't theirs.
func cansOf(text string) int {
	can := 0
	for more := true; more; {
		var word string
		word, text, more = strings.Cut(text, betweenCans)
		next := abilityOf(word)
		if next <= can {
			return 0 // it is no word, or doesn't stand behind those ahead of it: their bits are lower ones
		}
		can |= next
	}
	return can
}

func cansText(can int) string {
	var has []string
	for i, word := range words {
		if can&ability(i) != 0 {
			has = append(has, word)
		}
	}
	return strings.Join(has, betweenCans)
}
