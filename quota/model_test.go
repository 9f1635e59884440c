package quota

import (
	"fmt"
	"maps"
	"math/rand"
	"slices"
	"strings"
	"testing"

	"sacristy/api"
	"sacristy/names"
)

// one is a namespace of a model: limits and what it has of its own, each of bytes and of entries. What it has in all
// is counted when it is asked for.
type one struct{ limit, own [2]int }

type model map[string]one

func isWithin(p, top string) bool {
	return top == "" || p == top || strings.HasPrefix(p, top+"/")
}

func (m model) total(p string, kind int) int {
	n := 0
	for q, x := range m {
		if isWithin(q, p) {
			n += x.own[kind]
		}
	}
	return n
}

func (m model) charge(p string, much ...int) api.Errno {
	x, ok := m[p]
	if !ok {
		return api.ErrNone
	}
	for kind := range much {
		much[kind] = max(-1000000, min(1000000, much[kind]))
		x.own[kind] += much[kind]
	}
	if min(x.own[0], x.own[1]) < 0 {
		return api.ErrForm
	}
	for q := range m {
		for kind := range much {
			if isWithin(p, q) && much[kind] > 0 && m.total(q, kind)+much[kind] > m[q].limit[kind] {
				return api.ErrQuota
			}
		}
	}
	m[p] = x
	return api.OK
}

func (m model) remove(p string) []string {
	gone := slices.DeleteFunc(slices.Sorted(maps.Keys(m)), func(q string) bool { return !isWithin(q, p) })
	for _, q := range gone {
		delete(m, q)
	}
	return gone
}

// same tells whether the ledger is that of the model, by all that can be asked.
func (m model) same(t *testing.T, l *Ledger) {
	t.Helper()
	if all := l.Names().All(); len(all) != len(m) {
		t.Fatalf("P17.1: there are %v, not %v", all, m)
	}
	for p, x := range m {
		wanted := api.Space{Path: p, MaxBytes: x.limit[0], MaxEntries: x.limit[1], Bytes: m.total(p, 0), Entries: m.total(p, 1)}
		if s, ok := l.Names().Get(p); s != wanted || !ok {
			t.Fatalf("P17.1: %q is %v, not %v", p, s, wanted)
		}
		if bytes, entries, ok := l.Own(p); bytes != x.own[0] || entries != x.own[1] || !ok {
			t.Fatalf("P17.1: Own(%q): %d, %d, %v, not %v", p, bytes, entries, ok, x.own)
		}
		if wanted.Bytes > wanted.MaxBytes || wanted.Entries > wanted.MaxEntries {
			t.Fatalf("P17.2: %q is beyond a limit: %v", p, wanted)
		}
	}
	if !l.Check() {
		t.Fatalf("P17.1: Check is false of %s", told(l))
	}
}

func TestAgainstAModel(t *testing.T) {
	texts := []string{"", "a", "ab", "a/a", "a/b", "ab/a", "a/a/a", "a/a/b", "ab/a/b", "q", "a/"}
	counts := map[string]int{}
	for seed := range int64(300) {
		rnd := rand.New(rand.NewSource(seed))
		most := 10
		if seed%10 == 0 {
			most = 1000000
		}
		limit := func() int { return most - rnd.Intn(most/2) }
		much := func() int {
			if rnd.Intn(30) == 0 {
				return []int{-1 << 62, 1 << 62, -most, most}[rnd.Intn(4)]
			}
			return (rnd.Intn(9) - 3) * most / 20
		}
		top := [2]int{limit(), limit()}
		l, m := New(names.New(top[0], top[1])), model{"": {limit: top}}
		for range 150 {
			p := texts[rnd.Intn(len(texts))]
			switch k := rnd.Intn(20); {
			case k < 5:
				x := one{limit: [2]int{limit(), limit()}}
				if l.Names().Add(p, x.limit[0], x.limit[1]) == api.OK {
					m[p] = x
				}
			case k == 5:
				gone, e := l.Remove(p)
				counts["remove "+e.Error()]++
				if _, ok := m[p]; (e == api.OK) != (ok && p != "") {
					t.Fatalf("P17.1: Remove(%q): %q, %v", p, gone, e)
				} else if wanted := []string(nil); e == api.OK {
					if wanted = m.remove(p); !slices.Equal(gone, wanted) {
						t.Fatalf("P17.1: Remove(%q): %q, not %q", p, gone, wanted)
					}
				}
			default:
				bytes, entries := much(), much()
				ahead := told(l)
				can := l.Can(p, bytes, entries)
				got, wanted := l.Charge(p, bytes, entries), m.charge(p, bytes, entries)
				counts["charge "+wanted.Error()]++
				if got != wanted || can != (wanted == api.OK) {
					t.Fatalf("P17.1: %s: Charge(%q, %d, %d): %v, not %v; Can: %v", ahead, p, bytes, entries, got, wanted, can)
				}
			}
			m.same(t, l)
		}
	}
	for _, kind := range []string{"remove error 0", "remove error 100", "remove error 110", "charge error 0", "charge error 12", "charge error 100", "charge error 170"} {
		if counts[kind] < 50 {
			t.Errorf("%s: only %d of them were tried", kind, counts[kind])
		}
	}
}

// Every charge of a small world, from every state that charges lead to.
func TestEveryStateOfASmallWorld(t *testing.T) {
	paths := []string{"", "a", "a/b", "c"}
	limits := map[string][2]int{"": {3, 2}, "a": {2, 2}, "a/b": {3, 1}, "c": {1, 3}}
	type state struct {
		l *Ledger
		m model
	}
	l, m := New(names.New(3, 2)), model{}
	for _, p := range paths {
		l.Names().Add(p, limits[p][0], limits[p][1])
		m[p] = one{limit: limits[p]}
	}
	seen := map[string]bool{told(l): true}
	for work := []state{{l, m}}; len(work) > 0; work = work[1:] {
		for i := range len(paths) * 9 {
			p, bytes, entries := paths[i/9], i%3-1, i/3%3-1
			l, m := New(work[0].l.Names().Copy()), maps.Clone(work[0].m)
			if got, wanted := l.Charge(p, bytes, entries), m.charge(p, bytes, entries); got != wanted {
				t.Fatalf("P17.1: %s: Charge(%q, %d, %d): %v, not %v", told(work[0].l), p, bytes, entries, got, wanted)
			}
			m.same(t, l)
			if key := told(l); !seen[key] {
				seen[key] = true
				work = append(work, state{l, m})
			}
		}
	}
	if wanted := states(paths, limits); len(seen) != wanted {
		t.Errorf("P17.1: charges lead to %d states, not %d", len(seen), wanted)
	}
}

// states counts in how many ways bytes and entries can lie within the limits.
func states(paths []string, limits map[string][2]int) int {
	ways := 1
	for kind := range 2 {
		n := 0
		for i := range 256 { // two bits a path
			m := model{}
			for j, p := range paths {
				m[p] = one{own: [2]int{i >> (2 * j) & 3, 0}}
			}
			ok := true
			for _, p := range paths {
				ok = ok && m.total(p, 0) <= limits[p][kind]
			}
			if ok {
				n++
			}
		}
		ways *= n
	}
	return ways
}

// What is told doesn't hang on the order in which a map is gone through.
func TestToldInOneOrder(t *testing.T) {
	first := ""
	for range 50 {
		l := New(names.New(50, 50))
		s := ""
		for i, p := range []string{"b", "a", "a/b", "a/a", "b/a", "b/b", "b/b/b"} {
			s += fmt.Sprint(l.Names().Add(p, 20+i, 20+i), l.Charge(p, 9, i), l.Charge("", 1, 1), l.Can(p, 12, 12))
		}
		gone, e := l.Remove("b/b")
		s += fmt.Sprint(gone, e, told(l), l.Check())
		if first == "" {
			first = s
		}
		if s != first {
			t.Fatalf("rule 6: %s, and %s", first, s)
		}
	}
}
