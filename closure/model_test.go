package closure

import (
	"math"
	"math/rand"
	"slices"
	"strings"
	"testing"

	"sacristy/api"
	"sacristy/term"
)

func name(n int) api.Term {
	return api.Term{Kind: api.TName, N: n}
}

func key(n int) api.Term {
	return api.Term{Kind: api.TKey, N: n}
}

func sealed(under, what api.Term) api.Term {
	return api.Term{Kind: api.TSeal, Kids: []api.Term{under, what}}
}

func pair(a, b api.Term) api.Term {
	return api.Term{Kind: api.TPair, Kids: []api.Term{a, b}}
}

func labelled(n int, t api.Term) api.Term {
	return api.Term{Kind: api.TDerived, N: n, Kids: []api.Term{t}}
}

// chain is t within n derived ones.
func chain(n int, t api.Term) api.Term {
	for range n {
		t = labelled(1, t)
	}
	return t
}

// bush is of pairs whose two kids are one list each: few lists, and 2^(n+1) - 1 terms.
func bush(n int, t api.Term) api.Term {
	for range n {
		t = pair(t, t)
	}
	return t
}

// ring is within itself.
func ring(kind, n int) api.Term {
	l := make([]api.Term, n)
	for i := range l {
		l[i] = api.Term{Kind: kind, Kids: l}
	}
	return l[0]
}

// wrong is of what isn't a term each kind of fault, all about n1, k1 and n2.
func wrong() []api.Term {
	return []api.Term{
		{}, {Kind: -1}, {Kind: 6}, {Kind: math.MaxInt}, name(-1), name(100), name(math.MinInt), key(-1), key(100), {N: 1},
		{Kind: api.TName, N: 1, Kids: []api.Term{name(1)}}, {Kind: api.TKey, N: 1, Kids: []api.Term{key(1), name(2)}},
		{Kind: api.TPair}, {Kind: api.TPair, Kids: []api.Term{name(1)}}, {Kind: api.TPair, Kids: []api.Term{name(1), name(2), key(1)}},
		{Kind: api.TPair, N: 1, Kids: []api.Term{name(1), name(2)}}, pair(name(1), name(100)), pair(api.Term{}, key(1)),
		{Kind: api.TSeal, Kids: []api.Term{key(1)}}, {Kind: api.TSeal, N: 1, Kids: []api.Term{key(1), name(2)}}, sealed(key(100), name(2)),
		{Kind: api.TDerived, N: 1}, {Kind: api.TDerived, N: 1, Kids: []api.Term{key(1), key(1)}}, labelled(-1, key(1)), labelled(100, key(1)), labelled(1, key(100)),
		pair(key(1), chain(58, name(1))), chain(60, key(1)), bush(5, name(1)), bush(50, name(1)), ring(api.TPair, 2), ring(api.TDerived, 1), ring(0, 1),
	}
}

// read is the terms of texts.
func read(t *testing.T, texts string) []api.Term {
	t.Helper()
	var l []api.Term
	for _, s := range strings.Fields(texts) {
		x, e := term.Parse(s)
		if e != api.OK {
			t.Fatalf("%s: %v", s, e)
		}
		l = append(l, x)
	}
	return l
}

// told is the texts of terms; of what is none "?".
func told(l []api.Term) string {
	var texts []string
	for _, x := range l {
		s := term.Print(x)
		if s == "" {
			s = "?"
		}
		texts = append(texts, s)
	}
	return strings.Join(texts, " ")
}

// model of what can be derived, by what is had (texts): what was known and taken apart, and what is made of that.
type model map[string]bool

func newModel(base []api.Term) model {
	m := model{}
	had := slices.DeleteFunc(slices.Clone(base), func(t api.Term) bool { return !term.Is(t) })
	for before := -1; before < len(m); {
		before = len(m)
		for i := 0; i < len(had); i++ {
			x := had[i]
			m[term.Print(x)] = true
			if x.Kind == api.TPair && (!m[term.Print(x.Kids[0])] || !m[term.Print(x.Kids[1])]) {
				had = append(had, x.Kids...)
			}
			if x.Kind == api.TSeal && !m[term.Print(x.Kids[1])] && m.makes(x.Kids[0]) {
				had = append(had, x.Kids[1])
			}
		}
	}
	return m
}

func (m model) makes(t api.Term) bool {
	if !term.Is(t) {
		return false
	}
	return m[term.Print(t)] || len(t.Kids) > 0 && !slices.ContainsFunc(t.Kids, func(kid api.Term) bool { return !m.makes(kid) })
}

func modelAll(base []api.Term) string {
	m := newModel(base)
	var texts []string
	for _, t := range base {
		for _, x := range term.Parts(t) {
			if m.makes(x) {
				texts = append(texts, term.Print(x))
			}
		}
	}
	slices.Sort(texts)
	return strings.Join(slices.Compact(texts), " ")
}

func modelMinimal(base []api.Term, goal api.Term) string {
	if !newModel(base).makes(goal) {
		return ""
	}
	left := slices.DeleteFunc(slices.Clone(base), func(t api.Term) bool { return !term.Is(t) })
	for i := len(left) - 1; i >= 0; i-- {
		if without := slices.Delete(slices.Clone(left), i, i+1); newModel(without).makes(goal) {
			left = without
		}
	}
	return told(left)
}

// random is a term of at most n terms, of few numbers, so that terms often have parts that are alike.
func random(r *rand.Rand, n int) api.Term {
	switch kind := r.Intn(6); {
	case n > 1 && kind == 0:
		return labelled(r.Intn(2), random(r, n-1))
	case n > 2 && kind < 5:
		left := 1 + r.Intn(n-2)
		if kind < 4 {
			left = min(left, 3) // mostly small keys, which are found more often
			return sealed(random(r, left), random(r, n-1-left))
		}
		return pair(random(r, left), random(r, n-1-left))
	case kind%2 == 0:
		return name(r.Intn(3))
	}
	return key(r.Intn(3))
}

// randomBase is some terms; of about one in eight wrongs what isn't one.
func randomBase(r *rand.Rand, wrongs []api.Term) []api.Term {
	var base []api.Term
	for range r.Intn(9) {
		if len(wrongs) > 0 && r.Intn(8) == 0 {
			base = append(base, wrongs[r.Intn(len(wrongs))])
			continue
		}
		base = append(base, random(r, 1+r.Intn(9)))
	}
	return base
}

// randomGoal is a part of base's terms, or what is made of two of them, or any term, or none.
func randomGoal(r *rand.Rand, base, wrongs []api.Term) api.Term {
	var parts []api.Term
	for _, t := range base {
		parts = append(parts, term.Parts(t)...)
	}
	if len(parts) > 0 && r.Intn(8) > 0 {
		a, b := parts[r.Intn(len(parts))], parts[r.Intn(len(parts))]
		return []api.Term{a, a, a, pair(a, b), sealed(a, b), labelled(r.Intn(2), a)}[r.Intn(6)]
	}
	if r.Intn(8) == 0 {
		return wrongs[r.Intn(len(wrongs))]
	}
	return random(r, 1+r.Intn(5))
}
