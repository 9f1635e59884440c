package closure

import (
	"math/rand"
	"slices"
	"strings"
	"testing"

	"sacristy/api"
	"sacristy/term"
)

func TestExample(t *testing.T) {
	base := read(t, "seal(k1,n2) k1")
	if !Knows(base, name(2)) || Knows(base[:1], name(2)) || Knows(base[1:], name(2)) {
		t.Errorf("P15.1: seal(k1,n2) and k1: %s", told(All(base)))
	}
}

func TestEachRule(t *testing.T) {
	for _, c := range []struct{ base, derivable, not string }{
		{"", "", "n0 n1 k0 k1 d0(n0) (n0,n0) seal(k0,n0)"},
		// Each of them, and what is like it in part only isn't it.
		{"n1", "n1", "k1 n0 n2 n11 d1(n2)"},
		{"k1", "k1", "n1 k0 k10"},
		{"seal(k1,n2)", "seal(k1,n2)", "k1 n2 (k1,n2) seal(n2,k1) seal(k1,n1) seal(k2,n2) d0(seal(k1,n1))"},
		{"d5(k1)", "d5(k1) d0(d5(k1))", "k1 d4(k1) d5(k2) d5(n1) n5 k5"},
		// Both parts of a pair, at any depth.
		{"(n1,k2)", "n1 k2 (n1,k2) (k2,n1) (n1,n1)", "n2 k1"},
		{"((n1,(n2,n3)),(k4,d5(k5)))", "n1 n2 n3 (n2,n3) k4 d5(k5)", "k5"},
		// What is sealed, if the key is derivable; never the key.
		{"seal(k1,n2) k1", "k1 n2", "k2 n1"},
		{"seal(k1,n2) n1 n2 k2", "n2", "k1"},
		{"seal(k1,n3) n1 k2 d1(k1)", "", "n3 k1"},
		{"seal(k1,k1)", "seal(k1,k1)", "k1"},
		{"seal(k1,k2) n3", "", "k1 k2"},
		{"seal(k1,k2) k2", "k2", "k1"},
		{"seal(k2,k1) seal(k1,k2)", "", "k1 k2"},
		{"seal(n1,n2) n1", "n2", ""}, // any term is a key
		{"seal(k1,seal(k2,n3)) k1", "seal(k2,n3)", "n3 k2"},
		{"seal(k1,seal(k2,n3)) k2", "", "seal(k2,n3) n3"},
		{"seal(k1,seal(k2,n3)) k2 k1", "seal(k2,n3) n3", ""},
		{"seal(k1,(n2,n3)) k1", "(n2,n3) n2 n3", ""},
		{"(seal(k1,n2),seal(k2,k1)) k2", "k1 n2", ""},
		// A key that must be put together.
		{"seal((k1,k2),n3) k2 k1", "n3", ""},
		{"seal((k1,k2),n3) k2", "", "n3 k1"},
		{"seal((k1,k2),n3) (k2,k1)", "n3", ""},
		{"seal(d5(k1),n2) k1", "n2 d5(k1)", ""},
		{"seal(d5(k1),n2) d4(k1)", "", "n2 k1"},
		{"seal(seal(k1,n2),n3) k1 n2", "n3", ""},
		{"seal(seal(k1,n2),n3) k1", "", "n3 n2"},
		{"seal(seal(k1,n2),n2) seal(k1,n2)", "n2", "k1"},
		{"seal(d1((d2(k1),seal(n2,k3))),n9) k1 (k3,n2)", "n9", "n1"},
		{"seal((n1,k2),n3) seal(n3,k2) n1", "", "n3 k2"}, // each needs the other one
		// What is put together, in what isn't known otherwise.
		{"n1", "(n1,n1) seal(n1,n1) d0(n1) d99(n1) d1(((n1,n1),seal(n1,d7(n1))))", "(n1,n2) (n2,n1) seal(n1,n2) seal(n2,n1) d0(n2) d1(((n1,n1),seal(n1,d7(k1))))"},
		{"n1 k2", "seal(k2,n1) seal(n1,k2) (k2,n1)", ""},
		{"seal(k1,n2) n2", "(n2,seal(k1,n2)) seal(n2,seal(k1,n2))", "(n2,k1)"},
	} {
		base := read(t, c.base)
		for _, goal := range read(t, c.derivable) {
			if !Knows(base, goal) {
				t.Errorf("P15.1: %s isn't derivable of %s", term.Print(goal), c.base)
			}
		}
		for _, goal := range read(t, c.not) {
			if Knows(base, goal) || len(Minimal(base, goal)) > 0 {
				t.Errorf("P15.1: %s is derivable of %s, least %s", term.Print(goal), c.base, told(Minimal(base, goal)))
			}
		}
	}
}

func TestAllInTheOrderOfTheirTexts(t *testing.T) {
	for base, want := range map[string]string{
		"":                                 "",
		"n2 n10 n1 n1 k1 n2":               "k1 n1 n10 n2",
		"seal(k1,n2)":                      "seal(k1,n2)",
		"seal(k1,n2) k1":                   "k1 n2 seal(k1,n2)",
		"d5(k1)":                           "d5(k1)",
		"(n2,(n1,n2)) d5(k1)":              "(n1,n2) (n2,(n1,n2)) d5(k1) n1 n2",
		"k1 seal(d1(k1),n2)":               "d1(k1) k1 n2 seal(d1(k1),n2)",
		"seal(k9,(n1,n2)) n2 n1":           "(n1,n2) n1 n2 seal(k9,(n1,n2))", // put together
		"seal(k9,(n1,n2)) n2":              "n2 seal(k9,(n1,n2))",
		"d1(d1(n1)) d1(n1)":                "d1(d1(n1)) d1(n1)",
		"d2(n1) d10(n1) d1(n1) d1(n2)":     "d1(n1) d1(n2) d10(n1) d2(n1)",
		"seal(n1,n2) (n3,n4) n1 k1 d1(k1)": "(n3,n4) d1(k1) k1 n1 n2 n3 n4 seal(n1,n2)",
	} {
		if got := told(All(read(t, base))); got != want {
			t.Errorf("P15.1: all of %s: %s", base, got)
		}
	}
}

func TestMinimalFromTheLastOneToTheFirst(t *testing.T) {
	for _, c := range []struct{ base, goal, want string }{
		{"n1", "n2", ""},
		{"n1", "n1", "n1"},
		{"n1 n1 n1", "n1", "n1"},
		{"n2 n1 n3 n1 n4", "n1", "n1"},
		{"n1 n2", "(n1,n2)", "n1 n2"},
		{"n1 n2", "(n2,n1)", "n1 n2"},
		{"n1 n2 (n1,n2)", "(n1,n2)", "n1 n2"},
		{"(n1,n2) n1 n2", "(n1,n2)", "(n1,n2)"},
		{"n1 (n1,n2) n2", "(n1,n2)", "(n1,n2)"},
		{"n1 (n1,n2) n2", "((n1,n2),n2)", "(n1,n2)"},
		{"n1 seal(n1,n2) n2", "(n1,n2)", "n1 seal(n1,n2)"},
		{"n9 k1 n8 seal(k1,n2) n7", "n2", "k1 seal(k1,n2)"},
		{"n2 k1 seal(k1,n2)", "n2", "n2"},
		{"k1 seal(k1,n2) n2", "n2", "k1 seal(k1,n2)"},
		{"k1 n2 seal(k1,n2)", "n2", "n2"},
		{"seal(k1,n2) (k1,n3) k1", "n2", "seal(k1,n2) (k1,n3)"},
		{"seal(k1,n2) k1 (k1,n3)", "n2", "seal(k1,n2) k1"},
		{"seal(k1,n2) seal(k3,k1) k3 k1 seal(k1,n2)", "n2", "seal(k1,n2) seal(k3,k1) k3"},
		{"k1 k2 (k1,k2) seal((k1,k2),n3)", "n3", "k1 k2 seal((k1,k2),n3)"},
		{"k1", "d5(d6(k1))", "k1"},
		{"d6(k1) k1", "d5(d6(k1))", "d6(k1)"},
		{"n1 n2 n3 n4 n5", "((n5,n1),n3)", "n1 n3 n5"},
	} {
		goal := read(t, c.goal)[0]
		if got := told(Minimal(read(t, c.base), goal)); got != c.want {
			t.Errorf("P15.1: of %s for %s: %s", c.base, c.goal, got)
		}
	}
}

func TestWhatIsNoTermCountsForNothing(t *testing.T) {
	goals := read(t, "n1 n2 k1 d1(k1) (n1,n2) seal(k1,n2)")
	wrongs := wrong()
	for i, bad := range wrongs {
		if term.Is(bad) {
			t.Fatalf("row %d is a term", i)
		}
		for _, base := range [][]api.Term{nil, read(t, "n1"), read(t, "seal(k1,n2) k2")} {
			with := slices.Concat([]api.Term{bad}, base, []api.Term{bad, bad})
			for _, goal := range goals {
				if Knows(with, goal) != newModel(base).makes(goal) || told(Minimal(with, goal)) != modelMinimal(base, goal) {
					t.Errorf("P15.1: row %d with %s: %s: %v, %s", i, told(base), term.Print(goal), Knows(with, goal), told(Minimal(with, goal)))
				}
			}
			if Knows(with, bad) || len(Minimal(with, bad)) > 0 {
				t.Errorf("P15.1: row %d is derivable of itself", i)
			}
			if got := told(All(with)); got != modelAll(base) {
				t.Errorf("P15.1: row %d: all with %s: %s", i, told(base), got)
			}
		}
	}
	if Knows(wrongs, name(1)) || len(All(wrongs)) > 0 || len(Minimal(wrongs, name(1))) > 0 {
		t.Errorf("P15.1: %s", told(All(wrongs)))
	}
	if Knows(nil, api.Term{}) || Knows([]api.Term{}, name(1)) || len(All(nil)) > 0 || len(Minimal(nil, name(1))) > 0 {
		t.Errorf("P15.1: of nothing")
	}
}

func TestSixtyTermsAndOneMore(t *testing.T) {
	names := func(n int) api.Term { // 2n - 1 terms
		x := name(0)
		for i := 1; i < n; i++ {
			x = pair(name(i), x)
		}
		return x
	}
	var each []api.Term
	for i := range 30 {
		each = append(each, name(i))
	}
	if goal := labelled(0, names(30)); !Knows(each, goal) || Knows(each, labelled(0, goal)) || Knows(each[1:], goal) || told(Minimal(each, goal)) != told(each) {
		t.Errorf("P15.1: 60 terms as a goal")
	}
	if !Knows(each, chain(59, name(3))) || Knows(each, chain(60, name(3))) || len(Minimal(each, chain(60, name(3)))) > 0 {
		t.Errorf("P15.1: 60 terms in one another as a goal")
	}
	whole := []api.Term{sealed(chain(56, key(1)), name(1)), key(1)} // 59 terms
	if goal := name(1); !Knows(whole, goal) || len(All(whole)) != 59 || told(Minimal(whole, goal)) != told(whole) {
		t.Errorf("P15.1: 59 terms in base: %s", told(All(whole)))
	}
	for n := 55; n < 63; n++ {
		base := []api.Term{sealed(chain(n, key(1)), name(1)), key(1)}
		if is := n+3 <= 60; Knows(base, name(1)) != is || (len(All(base)) == n+3) != is {
			t.Errorf("P15.1: %d terms in base: %s", n+3, told(All(base)))
		}
	}
	row := []api.Term{pair(name(77), names(29))} // 59 terms
	if !Knows(row, name(28)) || !Knows(row, name(0)) || !Knows(row, name(77)) || Knows(row, name(29)) {
		t.Errorf("P15.1: 59 terms side by side: %s", told(All(row)))
	}
}

// saturated is, of the terms of a world, those that the chapter's rules lead to, word by word. The world has all kids of
// its terms.
func saturated(world, base []api.Term) model {
	m := model{}
	for _, t := range base {
		m[term.Print(t)] = true
	}
	texts := make([][]string, len(world))
	for i, t := range world {
		texts[i] = append(texts[i], term.Print(t))
		for _, kid := range t.Kids {
			texts[i] = append(texts[i], term.Print(kid))
		}
	}
	for before := -1; before < len(m); {
		before = len(m)
		for i, t := range world {
			s, kids := texts[i][0], texts[i][1:]
			if m[s] && t.Kind == api.TPair {
				m[kids[0]], m[kids[1]] = true, true
			}
			if m[s] && t.Kind == api.TSeal && m[kids[0]] {
				m[kids[1]] = true
			}
			if len(kids) > 0 && !slices.ContainsFunc(kids, func(kid string) bool { return !m[kid] }) {
				m[s] = true
			}
		}
	}
	return m
}

func TestAgainstTheRulesInASmallWorld(t *testing.T) {
	world := []api.Term{name(1), key(1), key(2)}
	for range 2 {
		lower := slices.Clone(world)
		world = []api.Term{name(1), key(1), key(2)}
		for _, a := range lower {
			world = append(world, labelled(1, a))
			for _, b := range lower {
				world = append(world, pair(a, b), sealed(a, b))
			}
		}
	}
	r := rand.New(rand.NewSource(15))
	derivable := 0
	for range 60 {
		var base []api.Term
		for range 1 + r.Intn(6) {
			base = append(base, world[r.Intn(len(world))])
		}
		m := saturated(world, base)
		for _, goal := range world {
			want := m[term.Print(goal)]
			if want {
				derivable++
			}
			if Knows(base, goal) != want {
				t.Fatalf("P15.1: %s of %s: %v", term.Print(goal), told(base), !want)
			}
		}
		for _, x := range All(base) {
			if !m[term.Print(x)] {
				t.Fatalf("P15.1: all of %s: %s", told(base), term.Print(x))
			}
		}
	}
	if derivable < 10000 || derivable > 60*len(world)*3/4 {
		t.Errorf("%d of %d derivable", derivable, 60*len(world))
	}
}

func TestAgainstAModel(t *testing.T) {
	r := rand.New(rand.NewSource(151))
	wrongs := wrong()
	derivable, dropped := 0, 0
	for range 20000 {
		base := randomBase(r, wrongs)
		if got := told(All(base)); got != modelAll(base) {
			t.Fatalf("P15.1: all of %s: %s", told(base), got)
		}
		goal := randomGoal(r, base, wrongs)
		want := newModel(base).makes(goal)
		if Knows(base, goal) != want {
			t.Fatalf("P15.1: %s of %s: %v", term.Print(goal), told(base), !want)
		}
		least := Minimal(base, goal)
		if told(least) != modelMinimal(base, goal) {
			t.Fatalf("P15.1: of %s for %s: %s", told(base), term.Print(goal), told(least))
		}
		if want {
			derivable++
			dropped += len(base) - len(least)
		}
	}
	if derivable < 5000 || derivable > 15000 || dropped < derivable {
		t.Errorf("%d derivable, %d of their bases dropped", derivable, dropped)
	}
}

// Who knows more is told of more, whatever it is and wherever it stands.
func TestWhoKnowsMoreDerivesMore(t *testing.T) {
	r := rand.New(rand.NewSource(152))
	wrongs := wrong()
	more := 0
	for range 5000 {
		base := randomBase(r, wrongs)
		wider := slices.Concat(base, randomBase(r, wrongs))
		r.Shuffle(len(wider), func(i, j int) { wider[i], wider[j] = wider[j], wider[i] })
		all, widerAll := strings.Fields(told(All(base))), strings.Fields(told(All(wider)))
		for _, s := range all {
			if _, ok := slices.BinarySearch(widerAll, s); !ok {
				t.Fatalf("P15.2: %s is of all of %s, not of all of %s", s, told(base), told(wider))
			}
		}
		for range 5 {
			goal := randomGoal(r, wider, wrongs)
			if Knows(base, goal) && !Knows(wider, goal) {
				t.Fatalf("P15.2: %s of %s, not of %s", term.Print(goal), told(base), told(wider))
			}
			if Knows(base, goal) != Knows(wider, goal) {
				more++
			}
			if Knows(wider, goal) && !Knows(Minimal(wider, goal), goal) {
				t.Fatalf("P15.1: %s not of the least of %s", term.Print(goal), told(wider))
			}
		}
	}
	if more < 1000 {
		t.Errorf("only %d more", more)
	}
}

// Nothing that stood under an erased key can be had, whatever else there is: what the layers above build on.
func TestWithoutAWrappedKeyNothingBelowItCanBeHad(t *testing.T) {
	wrapped := read(t, "seal(d1(k1),k2) seal(d1(k2),k3) seal(d1(k1),k4)")
	texts := read(t, "seal(d9(k2),n2) seal(d9(k3),n3) seal(d9(k4),n4) seal(d9(k1),n1)")
	for erased, want := range []string{"n1 n4", "n1 n2 n4", "n1 n2 n3"} {
		base := slices.Concat(read(t, "k1"), texts, slices.Delete(slices.Clone(wrapped), erased, erased+1))
		for _, goal := range read(t, "n1 n2 n3 n4") {
			if Knows(base, goal) != strings.Contains(want, term.Print(goal)) {
				t.Errorf("P15.1: %s without %s", term.Print(goal), told(wrapped[erased:erased+1]))
			}
		}
	}
}
