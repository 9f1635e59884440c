package closure

import (
	"math/rand"
	"reflect"
	"slices"
	"strings"
	"testing"

	"sacristy/api"
	"sacristy/term"
)

// lists of terms that were seen already, by each place in them, the spare room too.
type lists map[*api.Term]bool

func (l lists) look(t *testing.T, terms []api.Term) {
	t.Helper()
	for i := range terms[:cap(terms)] {
		at := &terms[:cap(terms)][i]
		if l[at] {
			t.Fatalf("rule 3: a list lies in another one")
		}
		l[at] = true
	}
	for _, x := range terms {
		l.look(t, x.Kids)
	}
}

// spoil overwrites a list, what hangs on it, and its spare room.
func spoil(l []api.Term) {
	for i := range l {
		spoil(l[i].Kids)
	}
	for i := range l[:cap(l)] {
		l[:cap(l)][i] = api.Term{Kind: 77, N: 77, Kids: []api.Term{{}}}
	}
}

func TestAnswersAreNewMemory(t *testing.T) {
	texts := "seal((k1,n2),(n3,(k1,n2))) (k1,n2) (k1,n2) seal(k4,d5((k1,n2))) k1 n9"
	base, goal := read(t, texts), read(t, "(seal(k4,d5((k1,n2))),(n3,seal((k1,n2),(n3,(k1,n2)))))")[0]
	all, least := told(All(base)), told(Minimal(base, goal))
	if least != "seal((k1,n2),(n3,(k1,n2))) (k1,n2) seal(k4,d5((k1,n2)))" {
		t.Errorf("P15.1: %s", least)
	}
	one, two, three, four := All(base), All(base), Minimal(base, goal), Minimal(base, goal)
	l := lists{}
	for _, terms := range [][]api.Term{base, {goal}, one, two, three, four} {
		l.look(t, terms)
	}
	spoil(one)
	spoil(three)
	if told(base) != texts || told(two) != all || told(four) != least || told(All(base)) != all || told(Minimal(base, goal)) != least {
		t.Errorf("rule 3: changed by what was done with an answer: %s", told(base))
	}
	spoil(base)
	if told(two) != all || told(four) != least {
		t.Errorf("rule 3: changed by what was done with base: %s, %s", told(two), told(four))
	}
}

// What is handed in lies in one list with more behind it here, and its kids in one list too.
func TestArgumentsStay(t *testing.T) {
	kids := read(t, "k1 n2 (n3,k4) k1 n2")
	part := func(kind, from, to int) api.Term { return api.Term{Kind: kind, Kids: kids[from:to]} }
	room := []api.Term{part(api.TSeal, 0, 2), part(api.TPair, 1, 3), part(api.TSeal, 3, 5), {Kind: 9, Kids: kids}, part(api.TPair, 0, 2), key(1), key(5), key(6)}
	kept := slices.Clone(room)
	keptKids := read(t, "k1 n2 (n3,k4) k1 n2")
	base := room[:6]
	for range 2 {
		for _, goal := range []api.Term{room[0], part(api.TPair, 3, 5), key(4), key(6), room[3]} {
			Knows(base, goal)
			spoil(All(base))
			spoil(Minimal(base, goal))
		}
		if !reflect.DeepEqual(room, kept) || !reflect.DeepEqual(kids, keptKids) {
			t.Fatalf("rule 3: base has changed: %v, %v", room, kids)
		}
	}
	if got := told(Minimal(base, key(4))); got != "(n2,(n3,k4))" {
		t.Errorf("P15.1: %s", got)
	}
}

func TestNoKidsAndAnEmptyListAreTheSame(t *testing.T) {
	empty := api.Term{Kind: api.TKey, N: 1, Kids: []api.Term{}}
	base := []api.Term{{Kind: api.TSeal, Kids: []api.Term{key(1), name(2)}}, empty}
	if !Knows(base, name(2)) || told(All(base)) != "k1 n2 seal(k1,n2)" || told(Minimal(base, name(2))) != "seal(k1,n2) k1" {
		t.Errorf("rule 2: no kids and an empty list: %s", told(All(base)))
	}
}

// The keys are seals here, which are more than the numbers: who has the first one and all links has the last one.
func nth(i int) api.Term {
	return sealed(name(i%100), pair(name(i/100%100), name(i/10000)))
}

func links(n int) []api.Term {
	base := []api.Term{nth(0)}
	for i := range n {
		base = append(base, sealed(nth(i), nth(i+1)))
	}
	return base
}

func TestLongWays(t *testing.T) {
	for _, n := range []int{1, 2, 3, 10, 100, 1000, 20000} {
		base := links(n)
		goal := nth(n)
		orders := [][]api.Term{base, slices.Clone(base)}
		slices.Reverse(orders[1])
		if n <= 1000 {
			mixed := slices.Clone(base)
			rand.New(rand.NewSource(int64(n))).Shuffle(len(mixed), func(i, j int) { mixed[i], mixed[j] = mixed[j], mixed[i] })
			orders = append(orders, mixed)
		}
		for i, order := range orders {
			if !Knows(order, goal) || Knows(order[1:], goal) || Knows(order[:len(order)-1], goal) || Knows(order, nth(n+1)) {
				t.Errorf("P15.1: %d links, order %d", n, i)
			}
			if all := All(order); len(all) != 2*n+1 || !slices.IsSortedFunc(all, byText) {
				t.Errorf("P15.1: %d links, order %d: %d in all", n, i, len(all))
			}
			more := slices.Concat([]api.Term{key(1), {}, sealed(key(2), goal)}, order, read(t, "k3"), order)
			if !slices.EqualFunc(Minimal(more, goal), order, term.Same) {
				t.Errorf("P15.1: %d links, order %d: the least are others", n, i)
			}
		}
	}
}

func byText(a, b api.Term) int {
	return strings.Compare(term.Print(a), term.Print(b))
}

func TestManyTerms(t *testing.T) {
	const n = 100000
	under, alike := make([]api.Term, n), make([]api.Term, n)
	big := pair(chain(28, name(1)), chain(28, key(1)))
	for i := range n {
		under[i] = sealed(key(1), nth(i))
		alike[i] = big
	}
	goal := nth(n - 1)
	if Knows(under, goal) || !Knows(append(slices.Clip(under), key(1)), goal) {
		t.Errorf("P15.1: many seals of one key")
	}
	if got := told(Minimal(append(slices.Clip(under), key(1)), goal)); got != told([]api.Term{under[n-1], key(1)}) {
		t.Errorf("P15.1: many seals of one key, least %s", got)
	}
	if !Knows(alike, chain(28, key(1))) || Knows(alike, key(1)) || len(All(alike)) != 3 {
		t.Errorf("P15.1: one term again and again: %s", told(All(alike)))
	}
	if got := told(Minimal(alike, chain(30, name(1)))); got != term.Print(big) {
		t.Errorf("P15.1: one term again and again, least %s", got)
	}
}
