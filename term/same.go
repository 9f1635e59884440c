package term

import "sacristy/api"

// list of kids, one or more, by where it lies.
type list struct {
	first *api.Term
	n     int
}

// classes of lists that were held against each other: a list leads on to another one of its class, the last to none.
type classes map[list]list

// Same: see the chapter.
func Same(a, b api.Term) bool {
	// Terms may share their kids, and be trees of more than can be gone through: no two lists are held against each
	// other that are in one class. Where they lie tells only that, never the answer.
	held := classes{}
	todo := [][2][]api.Term{{{a}, {b}}}
	for len(todo) > 0 {
		lists := todo[len(todo)-1]
		todo = todo[:len(todo)-1]
		for i, x := range lists[0] {
			y := lists[1][i]
			if !alikeOnTop(x, y) {
				return false
			}
			if len(x.Kids) > 0 && held.join(listOf(x), listOf(y)) {
				todo = append(todo, [2][]api.Term{x.Kids, y.Kids})
			}
		}
	}
	return true
}

// alikeOnTop tells whether nothing but their kids could make the two unlike.
func alikeOnTop(a, b api.Term) bool {
	return a.Kind == b.Kind && a.N == b.N && len(a.Kids) == len(b.Kids)
}

func listOf(t api.Term) list {
	return list{&t.Kids[0], len(t.Kids)}
}

// join tells whether a and b were of two classes; now they are of one.
func (c classes) join(a, b list) bool {
	a, b = c.last(a), c.last(b)
	if a == b {
		return false
	}
	c[a] = b
	return true
}

// last of l's class. The way to it is made shorter, or many joins would make it as long as they are many.
func (c classes) last(l list) list {
	for {
		next, ok := c[l]
		if !ok {
			return l
		}
		if further, ok := c[next]; ok {
			c[l] = further
		}
		l = next
	}
}
