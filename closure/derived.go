package closure

import (
	"slices"

	"sacristy/api"
)

// derived is those terms of a web that can be derived from what was learned. Terms outside the web aren't needed on the
// way to them: one that is put together serves as a part of another one or as the key of a seal in the web, where it has
// its number, and taking it apart again gives nothing new.
type derived struct {
	web   *web
	known map[int]struct{} // by number
	row   []int            // the same, as they came
}

func newDerived(w *web) *derived {
	return &derived{web: w, known: map[int]struct{}{}}
}

func (d *derived) has(number int) bool {
	_, ok := d.known[number]
	return ok
}

// learn takes in the numbers, and all that can be derived with them.
func (d *derived) learn(numbers []int) {
	var todo []int
	for _, number := range numbers {
		todo = append(todo, number)
		for len(todo) > 0 {
			next := todo[len(todo)-1]
			todo = todo[:len(todo)-1]
			if d.has(next) {
				continue
			}
			d.known[next] = struct{}{}
			d.row = append(d.row, next)
			todo = append(todo, d.apart(next)...)
			for _, whole := range d.web.around[next] {
				todo = append(todo, d.apart(whole)...)
				todo = append(todo, d.together(whole)...)
			}
		}
	}
}

// apart is what can be taken out of a term, if it is derivable.
func (d *derived) apart(number int) []int {
	if !d.has(number) {
		return nil
	}
	kids := d.web.kids(number)
	switch d.web.shapes[number].kind {
	case api.TPair:
		return kids
	case api.TSeal:
		if d.has(kids[0]) {
			return kids[1:]
		}
	}
	return nil
}

// together is the term itself, which has kids, if they are all derivable.
func (d *derived) together(number int) []int {
	for _, kid := range d.web.kids(number) {
		if !d.has(kid) {
			return nil
		}
	}
	return []int{number}
}

// forget leaves only the first n in the row, as if no more had been learned.
func (d *derived) forget(n int) {
	for _, number := range d.row[n:] {
		delete(d.known, number)
	}
	d.row = d.row[:n]
}

// least is those of the numbers that are left when, from the last one on, each is left out without which goal can be
// derived; with all of them it can. What was learned ahead stays, beside more that least learns.
func (d *derived) least(numbers []int, goal int) []int {
	if d.has(goal) {
		return nil
	}
	if len(numbers) <= 1 {
		return numbers
	}
	// By halves, since mostly few of many are needed: none of a half is tried if goal can be derived without it.
	first, second := numbers[:len(numbers)/2], numbers[len(numbers)/2:]
	learned := len(d.row)
	d.learn(first)
	second = d.least(second, goal)
	d.forget(learned)
	d.learn(second)
	return slices.Concat(d.least(first, goal), second)
}
