package term

import (
	"math"
	"math/rand"
	"reflect"
	"slices"
	"testing"

	"sacristy/api"
)

func name(n int) api.Term {
	return api.Term{Kind: api.TName, N: n}
}

func key(n int) api.Term {
	return api.Term{Kind: api.TKey, N: n}
}

func sealed(under, what api.Term) api.Term {
	return api.Term{Kind: api.TSeal, Kids: []api.Term{under, what}}
}

func pair(a, b api.Term) api.Term {
	return api.Term{Kind: api.TPair, Kids: []api.Term{a, b}}
}

func derived(n int, t api.Term) api.Term {
	return api.Term{Kind: api.TDerived, N: n, Kids: []api.Term{t}}
}

// chain is t within n derived ones.
func chain(n int, t api.Term) api.Term {
	for range n {
		t = derived(1, t)
	}
	return t
}

// row is n names side by side, within n-1 pairs.
func row(n int) api.Term {
	t := name(n % 100)
	for i := n - 1; i > 0; i-- {
		t = pair(name(i%100), t)
	}
	return t
}

// bush is of pairs whose two kids are one list each: few lists, and 2^(n+1) - 1 terms.
func bush(n int, t api.Term) api.Term {
	for range n {
		t = pair(t, t)
	}
	return t
}

// ring is within itself.
func ring(kind, n int) api.Term {
	l := make([]api.Term, n)
	for i := range l {
		l[i] = api.Term{Kind: kind, Kids: l}
	}
	return l[0]
}

// model tells the terms by the chapter's words, and counts them; only of what is small.
func model(t api.Term) (is bool, count int) {
	inRange := t.N >= 0 && t.N <= 99
	switch t.Kind {
	case 1, 2:
		is = inRange && len(t.Kids) == 0
	case 3, 4:
		is = t.N == 0 && len(t.Kids) == 2
	case 5:
		is = inRange && len(t.Kids) == 1
	}
	count = 1
	for _, kid := range t.Kids {
		kidIs, n := model(kid)
		is, count = is && kidIs, count+n
	}
	return is && count <= 60, count
}

func modelSame(a, b api.Term) bool {
	return a.Kind == b.Kind && a.N == b.N && slices.EqualFunc(a.Kids, b.Kids, modelSame)
}

// random is a term of at most n terms.
func random(r *rand.Rand, n int) api.Term {
	switch kind := r.Intn(5); {
	case n > 1 && kind == 0:
		return derived(r.Intn(100), random(r, n-1))
	case n > 2 && kind < 4:
		left := 1 + r.Intn(n-2)
		a, b := random(r, left), random(r, n-1-left)
		if kind == 1 {
			return sealed(a, b)
		}
		return pair(a, b)
	case kind%2 == 0:
		return name(r.Intn(100))
	}
	return key(r.Intn(100))
}

// spoilt is t with one thing in it changed, at random.
func spoilt(r *rand.Rand, t api.Term) api.Term {
	t = deep(t)
	at := &t
	for len(at.Kids) > 0 && r.Intn(3) > 0 {
		at = &at.Kids[r.Intn(len(at.Kids))]
	}
	switch r.Intn(5) {
	case 0:
		at.Kind = r.Intn(8) - 1
	case 1:
		at.N = []int{-1, 0, 1, 99, 100, math.MinInt, math.MaxInt}[r.Intn(7)]
	case 2:
		at.Kids = append(at.Kids, name(r.Intn(100)))
	case 3:
		if len(at.Kids) > 0 {
			at.Kids = at.Kids[1:]
		}
	case 4:
		slices.Reverse(at.Kids)
	}
	return t
}

// deep is t, with an empty list in place of none.
func deep(t api.Term) api.Term {
	kids := []api.Term{}
	for _, kid := range t.Kids {
		kids = append(kids, deep(kid))
	}
	t.Kids = kids
	return t
}

// few is all terms of a few numbers, of at most three levels, and of each kind some that are none.
func few() []api.Term {
	leaves := []api.Term{{}, name(-1), name(0), name(1), key(0), key(1)}
	all := slices.Clone(leaves)
	for range 2 {
		lower := all
		if len(lower) > 40 {
			lower = append(slices.Clone(leaves), all[len(all)-30:]...)
		}
		for _, a := range lower {
			all = append(all, derived(0, a), derived(99, a))
			for _, b := range lower {
				all = append(all, sealed(a, b), pair(a, b))
			}
		}
	}
	return all
}

func TestFormOfEachKind(t *testing.T) {
	numbers := []int{math.MinInt, math.MinInt32, -100, -1, 0, 1, 9, 10, 50, 98, 99, 100, 101, 256, 1 << 32, math.MaxInt}
	for _, kind := range []int{math.MinInt, -1, 0, 1, 2, 3, 4, 5, 6, 7, 256 + 1, 1<<32 + 1, math.MaxInt} {
		for _, n := range numbers {
			for kids := range 5 {
				x := api.Term{Kind: kind, N: n}
				for i := range kids {
					x.Kids = append(x.Kids, key(i))
				}
				want, count := model(x)
				if Is(x) != want || Count(x) != count {
					t.Errorf("P14.1: kind %d, N %d, %d kids: %v, %d", kind, n, kids, Is(x), Count(x))
				}
				if (Print(x) != "") != want || (len(Parts(x)) > 0) != want {
					t.Errorf("P14.2: kind %d, N %d, %d kids: %q, %v", kind, n, kids, Print(x), Parts(x))
				}
			}
		}
	}
}

func TestFormOfAllBelow(t *testing.T) {
	terms := 0
	for _, x := range few() {
		want, count := model(x)
		if want {
			terms++
		}
		if Is(x) != want || Count(x) != count || Is(deep(x)) != want {
			t.Fatalf("P14.1: %v: %v, %d", x, Is(x), Count(x))
		}
	}
	r := rand.New(rand.NewSource(14))
	for range 20000 {
		x := spoilt(r, random(r, 1+r.Intn(62)))
		want, count := model(x)
		if want {
			terms++
		}
		if Is(x) != want || Count(x) != min(count, 61) || (Print(x) != "") != want || (len(Parts(x)) > 0) != want {
			t.Fatalf("P14.1: %v: %v, %d", x, Is(x), Count(x))
		}
	}
	if terms < 5000 {
		t.Errorf("only %d terms among the samples", terms)
	}
}

func TestSixtyTermsAndOneMore(t *testing.T) {
	for n := 1; n < 70; n++ {
		for _, x := range []api.Term{chain(n-1, key(9)), row((n + 1) / 2)} {
			is, count := model(x)
			if Is(x) != is || is != (count <= 60) || Count(x) != min(count, 61) {
				t.Errorf("P14.1: %d terms: %v, %d", count, Is(x), Count(x))
			}
			if (Print(x) != "") != is || (len(Parts(x)) > 0) != is {
				t.Errorf("P14.2: %d terms: %q", count, Print(x))
			}
		}
	}
	if x := derived(0, row(30)); !Is(x) || Count(x) != 60 || len(Parts(x)) != 60 {
		t.Errorf("P14.1: 60 terms: %v, %d, %d parts", Is(x), Count(x), len(Parts(x)))
	}
	if x := pair(row(30), key(0)); Is(x) || Count(x) != 61 {
		t.Errorf("P14.1: 61 terms: %v, %d", Is(x), Count(x))
	}
}

func TestTermsTooManyToBeGoneThrough(t *testing.T) {
	wide := api.Term{Kind: api.TPair, Kids: make([]api.Term, 1<<22)}
	for i, x := range []api.Term{chain(1<<16, key(0)), row(1 << 15), bush(6, name(1)), bush(60, name(1)), bush(1<<15, key(1)), wide, ring(api.TDerived, 1), ring(api.TPair, 2), ring(0, 3)} {
		if Is(x) || Count(x) != 61 || Print(x) != "" || len(Parts(x)) != 0 {
			t.Errorf("P14.1: row %d: %v, %d, %q", i, Is(x), Count(x), Print(x))
		}
	}
	if x := bush(5, name(1)); Is(x) || Count(x) != 61 {
		t.Errorf("P14.1: 63 terms: %v, %d", Is(x), Count(x))
	}
	if x := bush(4, name(1)); !Is(x) || Count(x) != 31 || len(Parts(x)) != 5 {
		t.Errorf("P14.1: 31 terms: %v, %d, %d parts", Is(x), Count(x), len(Parts(x)))
	}
}

func TestSameIsAlikeInAll(t *testing.T) {
	all := append(few()[:120], few()[800:1000]...)
	alike := 0
	for _, a := range all {
		for _, b := range all {
			want := modelSame(a, b)
			if want {
				alike++
			}
			if Same(a, b) != want || Same(deep(a), b) != want {
				t.Fatalf("P14.1: Same(%v, %v): %v", a, b, !want)
			}
		}
	}
	if alike < len(all) || alike > 2*len(all) {
		t.Errorf("%d are alike of %d", alike, len(all))
	}
	r := rand.New(rand.NewSource(41))
	for range 20000 {
		a := random(r, 1+r.Intn(90))
		b := spoilt(r, a)
		if want := modelSame(a, b); Same(a, b) != want || Same(b, a) != want || !Same(a, deep(a)) || !Same(b, deep(b)) {
			t.Fatalf("P14.1: Same(%v, %v): %v", a, b, !want)
		}
	}
}

func TestSameOfWhatIsNoTerm(t *testing.T) {
	odd := []api.Term{{}, {Kind: -1}, {Kind: 6}, {Kind: math.MaxInt}, {N: 1}, {N: math.MinInt}, name(100), name(-1), {Kids: []api.Term{{}}}, {Kids: []api.Term{{}, {}}}, {Kids: []api.Term{{N: 1}, {}}}, {Kids: []api.Term{{}, {N: 1}}}, {Kind: api.TPair}, {Kind: api.TName, Kids: []api.Term{{}}}, {Kids: []api.Term{{Kids: []api.Term{{}}}}}, chain(60, key(0)), chain(61, key(0)), chain(61, key(1)), row(40), row(41)}
	for i, a := range odd {
		for j, b := range odd {
			if Same(a, b) != (i == j) || Same(a, deep(b)) != (i == j) {
				t.Errorf("P14.1: rows %d, %d: %v", i, j, i != j)
			}
		}
	}
}

// What is alike and what isn't lies in shared lists here, on the two sides otherwise.
func TestSameOfTermsThatShareTheirKids(t *testing.T) {
	shared := func(n int, last api.Term) api.Term { // each level has three lists, alike
		level := []api.Term{last, last, last}
		for i := range n {
			a, b, c := level[i%3], level[(i+1)%3], level[(i*7+2)%3]
			level = []api.Term{pair(a, b), pair(b, c), pair(c, a)}
		}
		return level[0]
	}
	for _, n := range []int{1, 2, 5, 40, 1 << 14} {
		a, b, c := bush(n, name(1)), shared(n, name(1)), shared(n, name(2))
		if !Same(a, b) || !Same(b, a) || !Same(a, bush(n, name(1))) || Same(a, c) || Same(c, b) || Same(a, bush(n+1, name(1))) {
			t.Errorf("P14.1: %d levels", n)
		}
		if x := pair(a, c); Same(x, pair(a, b)) || Same(x, pair(b, b)) || !Same(x, pair(b, c)) || Same(x, pair(c, b)) {
			t.Errorf("P14.1: %d levels, in pairs", n)
		}
	}
	kids := []api.Term{name(1), name(2), name(2), name(1), name(2), name(2), name(1), name(1)}
	part := func(from, to int) api.Term { return api.Term{Kind: api.TSeal, Kids: kids[from:to]} }
	for _, c := range []struct {
		a, b api.Term
		want bool
	}{{part(0, 2), part(3, 5), true}, {part(0, 2), part(0, 3), false}, {part(0, 2), part(1, 3), false}, {part(0, 3), part(3, 6), true}, {part(0, 0), part(3, 3), true}, {pair(part(0, 2), part(0, 2)), pair(part(3, 5), part(1, 3)), false}, {pair(part(0, 1), part(0, 2)), pair(part(6, 7), part(6, 8)), false}} {
		if Same(c.a, c.b) != c.want || Same(c.b, c.a) != c.want {
			t.Errorf("P14.1: Same(%v, %v): %v", c.a, c.b, !c.want)
		}
	}
}

func TestSameOfManyTerms(t *testing.T) {
	deepest := chain(1<<16, key(0))
	wide := func(last int) api.Term {
		kids := make([]api.Term, 1<<20)
		kids[len(kids)-1].N = last
		return api.Term{Kids: kids}
	}
	if !Same(deepest, chain(1<<16, key(0))) || Same(deepest, chain(1<<16, key(1))) || Same(deepest, chain(1<<16-1, key(0))) {
		t.Errorf("P14.1: deep ones")
	}
	if !Same(wide(0), wide(0)) || Same(wide(0), wide(1)) {
		t.Errorf("P14.1: wide ones")
	}
	if !Same(ring(api.TPair, 2), ring(api.TPair, 2)) || Same(ring(api.TPair, 2), ring(api.TSeal, 2)) || Same(ring(api.TPair, 2), ring(api.TPair, 3)) {
		t.Errorf("P14.1: within themselves")
	}
}

// modelParts by the chapter's words: t, the Parts of its kids, and of what is there twice the first one.
func modelParts(t api.Term) []api.Term {
	all := []api.Term{t}
	for _, kid := range t.Kids {
		all = append(all, modelParts(kid)...)
	}
	var once []api.Term
	for _, x := range all {
		if !slices.ContainsFunc(once, func(y api.Term) bool { return modelSame(x, y) }) {
			once = append(once, x)
		}
	}
	return once
}

func TestParts(t *testing.T) {
	check := func(x api.Term) {
		t.Helper()
		var want []api.Term
		if is, _ := model(x); is {
			want = modelParts(x)
		}
		if got := Parts(x); !slices.EqualFunc(got, want, modelSame) {
			t.Fatalf("P14.2: Parts(%v): %v", x, got)
		}
	}
	for _, x := range few() {
		check(x)
	}
	r := rand.New(rand.NewSource(2))
	for range 3000 {
		x := random(r, 1+r.Intn(60))
		check(x)
		check(spoilt(r, x))
		if half := random(r, 1+r.Intn(29)); Count(half) < 30 {
			check(sealed(half, half)) // the whole right half is there already
		}
	}
}

func TestPartsAreNewMemory(t *testing.T) {
	x := sealed(derived(7, pair(key(1), name(2))), pair(key(1), pair(key(1), name(2))))
	kept := deep(x)
	one, two := Parts(x), Parts(x)
	seen := map[*api.Term]bool{}
	var look func(l []api.Term)
	look = func(l []api.Term) {
		for i := range l[:cap(l)] {
			at := &l[:cap(l)][i]
			if seen[at] {
				t.Fatalf("rule 3: a list lies in another one")
			}
			seen[at] = true
		}
		for _, kid := range l {
			look(kid.Kids)
		}
	}
	look([]api.Term{x})
	look(one)
	look(two)
	spoil(one)
	if !modelSame(x, kept) || !slices.EqualFunc(two, modelParts(kept), modelSame) || !slices.EqualFunc(Parts(x), two, modelSame) {
		t.Errorf("rule 3: changed by what was done with an answer: %v, %v", x, two)
	}
	a, _ := Parse("((k1,n2),(k1,n2))")
	b, _ := Parse("((k1,n2),(k1,n2))")
	look([]api.Term{a})
	look([]api.Term{b})
	spoil([]api.Term{a})
	if again, e := Parse("((k1,n2),(k1,n2))"); e != api.OK || !modelSame(again, b) || Print(b) != "((k1,n2),(k1,n2))" {
		t.Errorf("rule 3: Parse: %v, %v", b, again)
	}
}

// spoil overwrites a list, what hangs on it, and its spare room.
func spoil(l []api.Term) {
	for i := range l {
		spoil(l[i].Kids)
	}
	for i := range l[:cap(l)] {
		l[:cap(l)][i] = api.Term{Kind: 77, N: 77, Kids: []api.Term{{}}}
	}
}

func TestArgumentsStay(t *testing.T) {
	kids := []api.Term{key(1), pair(name(2), name(2)), key(3), name(4)}
	x := api.Term{Kind: api.TSeal, Kids: kids[:2]}
	wanted := []api.Term{key(1), pair(name(2), name(2)), key(3), name(4)}
	for range 2 {
		Is(x)
		Count(x)
		Same(x, api.Term{Kind: api.TSeal, Kids: kids[1:3]})
		spoil(Parts(x))
		if got := Print(x); got != "seal(k1,(n2,n2))" || !reflect.DeepEqual(kids, wanted) {
			t.Errorf("rule 3: %q, %v", got, kids)
		}
	}
}
