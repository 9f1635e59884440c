package names

import (
	"fmt"
	"maps"
	"math/rand"
	"regexp"
	"slices"
	"strings"
	"testing"

	"sacristy/api"
)

var pathForm = regexp.MustCompile(`\A[a-z0-9]{1,10}(/[a-z0-9]{1,10}){0,2}\z`) // of any but the root

// model: names by words: paths as texts, each with its limits.
type model map[string][2]int

func modelCode(s string) string {
	if s == "" {
		return ""
	}
	return strings.ReplaceAll(s, "/", "\x00") + "\x00"
}

func modelParent(s string) string {
	return s[:max(strings.LastIndex(s, "/"), 0)]
}

func byModelCode(a, b string) int {
	return strings.Compare(modelCode(a), modelCode(b))
}

func (m model) kids(p string) []string {
	var kids []string
	for q := range m {
		if q != "" && modelParent(q) == p {
			kids = append(kids, q[strings.LastIndex(q, "/")+1:])
		}
	}
	slices.Sort(kids)
	return kids
}

func (m model) add(p string, bytes, entries int) api.Errno {
	_, there := m[p]
	_, parent := m[modelParent(p)]
	switch {
	case !pathForm.MatchString(p):
		return api.ErrPath
	case bytes < 0 || bytes > 1000000 || entries < 0 || entries > 1000000:
		return api.ErrForm
	case there:
		return api.ErrTwice
	case !parent:
		return api.ErrNone
	case len(m.kids(modelParent(p))) >= 2:
		return api.ErrMany
	}
	m[p] = [2]int{bytes, entries}
	return api.OK
}

func (m model) remove(p string) ([]string, api.Errno) {
	if !pathForm.MatchString(p) {
		return nil, api.ErrPath
	}
	if _, ok := m[p]; !ok {
		return nil, api.ErrNone
	}
	gone := slices.DeleteFunc(slices.SortedFunc(maps.Keys(m), byModelCode), func(q string) bool { return q != p && !strings.HasPrefix(q, p+"/") })
	for _, q := range gone {
		delete(m, q)
	}
	return gone, api.OK
}

func (m model) all() []api.Space {
	var all []api.Space
	for _, p := range slices.SortedFunc(maps.Keys(m), byModelCode) {
		all = append(all, api.Space{Path: p, MaxBytes: m[p][0], MaxEntries: m[p][1]})
	}
	return all
}

// same tells whether the names are those of the model, by all that can be asked; and whether each has its parent.
func (m model) same(t *testing.T, n *Names, texts []string) {
	t.Helper()
	if got := n.All(); !slices.Equal(got, m.all()) {
		t.Fatalf("P16.1: All: %v; it is %v", got, m.all())
	}
	for _, p := range texts {
		limits, there := m[p]
		wanted := api.Space{}
		if there {
			wanted = api.Space{Path: p, MaxBytes: limits[0], MaxEntries: limits[1]}
		}
		if s, ok := n.Get(p); s != wanted || ok != there {
			t.Fatalf("P16.1: Get(%q): %v, %v; it is %v, %v", p, s, ok, wanted, there)
		}
		if got := n.Kids(p); !slices.Equal(got, m.kids(p)) {
			t.Fatalf("P16.1: Kids(%q): %q; they are %q", p, got, m.kids(p))
		}
	}
	for _, s := range n.All() {
		if _, ok := n.Get(modelParent(s.Path)); !ok {
			t.Fatalf("P16.2: %q is there, and its parent isn't", s.Path)
		}
	}
}

func TestAgainstAModel(t *testing.T) {
	texts := []string{"", "a", "b", "ab", "0", "a/a", "a/b", "a/0", "b/a", "b/b", "ab/a", "a/a/a", "a/a/b", "a/a/0", "a/b/a", "b/a/ab", "ab/a/b", "c/c/c", "a/a/a/a", "A", "a/", "/a", ten + "a"}
	limits := []int{0, 1, 5, 5, 5, 999999, 1000000, 1000001, -1}
	told := map[string]int{}
	for seed := range int64(100) {
		rnd := rand.New(rand.NewSource(seed))
		n, m := New(7, 8), model{"": {7, 8}}
		for call := range 200 {
			p := texts[rnd.Intn(len(texts))]
			kind, got, wanted := "Add", api.OK, api.OK
			switch rnd.Intn(5) {
			case 0:
				kind = "Remove"
				var gone, paths []string
				gone, got = n.Remove(p)
				paths, wanted = m.remove(p)
				if !slices.Equal(gone, paths) {
					t.Fatalf("P16.1: life %d, call %d: Remove(%q): %q; they are %q", seed, call, p, gone, paths)
				}
			case 1:
				kind = "Copy"
				elder := n
				n = n.Copy()
				// What becomes of the one that was copied is nothing to the copy.
				elder.Remove("a")
				elder.Add(p, 1, 1)
			default:
				bytes, entries := limits[rnd.Intn(len(limits))], limits[rnd.Intn(len(limits))]
				got, wanted = n.Add(p, bytes, entries), m.add(p, bytes, entries)
			}
			if got != wanted {
				t.Fatalf("P16.1: life %d, call %d: %s(%q): %v, not %v", seed, call, kind, p, got, wanted)
			}
			told[fmt.Sprint(kind, got)]++
			m.same(t, n, texts)
		}
	}
	for _, e := range []api.Errno{api.OK, api.ErrPath, api.ErrForm, api.ErrTwice, api.ErrNone, api.ErrMany} {
		if told[fmt.Sprint("Add", e)] < 20 {
			t.Errorf("Add told %v only %d times", e, told[fmt.Sprint("Add", e)])
		}
	}
}

// Each call of each state that a few paths make.
func TestEachStateOfASmallWorld(t *testing.T) {
	texts := []string{"", "a", "b", "c", "a/a", "a/b", "a/c", "b/a", "a/a/a", "a/a/b", "a/a/c", "a/b/a", "c/a", "a/a/a/a", "B"}
	type state struct {
		n *Names
		m model
	}
	// Of a: 34 (1 without kids, 7 + 2 + 1 with one, 7*2 + 7*1 + 2*1 with two); of b and of c: 2; of them none, one, or two.
	const wanted = 1 + 34 + 2 + 2 + 34*2 + 34*2 + 2*2
	seen := map[string]bool{}
	work := []state{{New(1, 2), model{"": {1, 2}}}}
	for ; len(work) > 0 && len(seen) <= wanted; work = work[1:] {
		for i := range 2 * len(texts) {
			p := texts[i/2]
			n, m := work[0].n.Copy(), maps.Clone(work[0].m)
			if i%2 == 0 {
				if got, wanted := n.Add(p, 3, 4), m.add(p, 3, 4); got != wanted {
					t.Fatalf("P16.1: %q: Add(%q): %v, not %v", paths(work[0].n), p, got, wanted)
				}
			} else {
				gone, got := n.Remove(p)
				if wanted, e := m.remove(p); got != e || !slices.Equal(gone, wanted) {
					t.Fatalf("P16.1: %q: Remove(%q): %q, %v, not %q, %v", paths(work[0].n), p, gone, got, wanted, e)
				}
			}
			if key := strings.Join(paths(n), " "); !seen[key] {
				seen[key] = true
				m.same(t, n, texts)
				work = append(work, state{n, m})
			}
		}
		work[0].m.same(t, work[0].n, texts[:4])
	}
	if len(seen) != wanted {
		t.Errorf("%d states, not %d", len(seen), wanted)
	}
}

// What is told doesn't hang on the order in which all came to be there, nor on that in which a map is gone through.
func TestToldInOneOrder(t *testing.T) {
	all := slices.DeleteFunc(paths(full(t)), func(p string) bool { return p == "" })
	limit := func(p string) int { return slices.Index(all, p) }
	first := ""
	for seed := range int64(50) {
		rnd := rand.New(rand.NewSource(seed))
		n := New(0, 0)
		for range len(all) { // each time one more at least finds its parent there
			for _, i := range rnd.Perm(len(all)) {
				n.Add(all[i], limit(all[i]), 1)
			}
		}
		told := fmt.Sprint(n.All(), n.Kids(""), n.Kids(ten))
		gone, e := n.Remove(ten)
		told += fmt.Sprint(gone, e, n.All())
		if first == "" {
			first = told
		}
		if told != first {
			t.Fatalf("rule 6: %s, and %s", first, told)
		}
	}
}
