package term

import (
	"strconv"
	"strings"

	"sacristy/api"
)

const (
	ahead   = "(" // of the first kid
	between = ","
	behind  = ")"
	digits  = "0123456789"
)

// text of what is a term.
func text(t api.Term) string {
	f, _ := formOf(t.Kind)
	s := f.word
	if f.numbered {
		s += strconv.Itoa(t.N)
	}
	if f.kids == 0 {
		return s
	}
	var kids []string
	for _, kid := range t.Kids {
		kids = append(kids, text(kid))
	}
	return s + ahead + strings.Join(kids, between) + behind
}

// Parse: see the chapter.
func Parse(s string) (api.Term, api.Errno) {
	r := reader{rest: s, room: most}
	t, ok := r.term()
	if !ok || r.rest != "" {
		return api.Term{}, api.ErrForm
	}
	return t, api.OK
}

// reader of a text from its beginning on: what is behind that, and how many terms there may still be.
type reader struct {
	rest string
	room int
}

func (r *reader) term() (api.Term, bool) {
	if r.room == 0 {
		return api.Term{}, false
	}
	r.room--
	t := api.Term{Kind: r.kind()}
	f, _ := formOf(t.Kind)
	var ok bool
	if f.numbered {
		if t.N, ok = r.number(); !ok {
			return api.Term{}, false
		}
	}
	if f.kids > 0 {
		if t.Kids, ok = r.kids(f.kids); !ok {
			return api.Term{}, false
		}
	}
	return t, true
}

// kind is that of the word that comes next; without any word it is a pair.
func (r *reader) kind() int {
	for _, kind := range []int{api.TName, api.TKey, api.TSeal, api.TDerived} {
		f, _ := formOf(kind)
		if r.skip(f.word) {
			return kind
		}
	}
	return api.TPair
}

// number is the one that comes next, if it stands there as it is printed.
func (r *reader) number() (int, bool) {
	s := r.rest[:len(r.rest)-len(strings.TrimLeft(r.rest, digits))]
	// The length first: an error of Atoi would take the whole of s along.
	if len(s) > len(strconv.Itoa(mostN)) {
		return 0, false
	}
	n, err := strconv.Atoi(s)
	if err != nil || n > mostN || strconv.Itoa(n) != s {
		return 0, false
	}
	return n, r.skip(s)
}

// kids are the n that come next, one or more.
func (r *reader) kids(n int) ([]api.Term, bool) {
	mark := ahead
	kids := make([]api.Term, 0, n)
	for range n {
		if !r.skip(mark) {
			return nil, false
		}
		kid, ok := r.term()
		if !ok {
			return nil, false
		}
		kids = append(kids, kid)
		mark = between
	}
	return kids, r.skip(behind)
}

// skip goes behind s if it comes next.
func (r *reader) skip(s string) bool {
	rest, ok := strings.CutPrefix(r.rest, s)
	r.rest = rest
	return ok
}
