package closure

import (
	"sacristy/api"
	"sacristy/term"
)

const mostKids = 2

// shape of a term: what it is, the numbers of its kids in place of themselves. Alike terms have one shape.
type shape struct {
	kind, n int
	count   int // of the kids
	kids    [mostKids]int
}

// web of terms and of all that is in them: each has a number, and alike ones have one.
type web struct {
	numberOf map[shape]int
	shapes   []shape // by number
	around   [][]int // by number: those of the terms of which it is a kid
}

func newWeb() *web {
	return &web{numberOf: map[shape]int{}}
}

// addAll adds those of base that are terms, and answers their numbers in that order.
func (w *web) addAll(base []api.Term) []int {
	var numbers []int
	for _, t := range base {
		if term.Is(t) {
			numbers = append(numbers, w.add(t))
		}
	}
	return numbers
}

// add answers the number of t, which is a term.
func (w *web) add(t api.Term) int {
	s := shape{kind: t.Kind, n: t.N, count: len(t.Kids)}
	for i, kid := range t.Kids {
		s.kids[i] = w.add(kid)
	}
	number, ok := w.numberOf[s]
	if ok {
		return number
	}
	number = len(w.shapes)
	w.numberOf[s] = number
	w.shapes = append(w.shapes, s)
	w.around = append(w.around, nil)
	for _, kid := range s.kids[:s.count] {
		w.around[kid] = append(w.around[kid], number)
	}
	return number
}

// kids are the numbers of a term's kids.
func (w *web) kids(number int) []int {
	s := &w.shapes[number]
	return s.kids[:s.count]
}

// terms of the numbers, in new memory.
func (w *web) terms(numbers []int) []api.Term {
	if len(numbers) == 0 {
		return nil
	}
	all := make([]api.Term, len(numbers))
	for i, number := range numbers {
		s := w.shapes[number]
		all[i] = api.Term{Kind: s.kind, N: s.n, Kids: w.terms(s.kids[:s.count])}
	}
	return all
}
