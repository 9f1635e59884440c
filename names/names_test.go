package names

import (
	"math"
	"slices"
	"strings"
	"testing"
	"unsafe"

	"sacristy/api"
)

const ten = "abcdefgh09"

// odd is texts that are no paths.
func odd() []string {
	all := []string{"/", "//", "a/", "/a", "a//b", "a/b/", "A", "a/B", "a b", "a\n", "a.b", "..", "a/..", "é", "a-b", "\x00", "a\x00", "a\x00b\x00", "\xff", "a/b/c/d", "a/b/c/", ten + "a", "a/" + ten + "a", "a/b/" + ten + "a"}
	return append(all, strings.Repeat("a", 1<<20), strings.Repeat("a/", 1<<20), strings.Repeat("/", 1<<20))
}

func want(t *testing.T, what string, got, wanted api.Errno) {
	t.Helper()
	if got != wanted {
		t.Errorf("P16.1: %s: %v, not %v", what, got, wanted)
	}
}

func paths(n *Names) []string {
	var all []string
	for _, s := range n.All() {
		all = append(all, s.Path)
	}
	return all
}

func wantPaths(t *testing.T, what string, n *Names, wanted ...string) {
	t.Helper()
	if got := paths(n); !slices.Equal(got, wanted) {
		t.Errorf("P16.1: %s: there are %q, not %q", what, got, wanted)
	}
}

func wantKids(t *testing.T, n *Names, path string, wanted ...string) {
	t.Helper()
	if got := n.Kids(path); !slices.Equal(got, wanted) {
		t.Errorf("P16.1: Kids(%.40q): %q, not %q", path, got, wanted)
	}
}

// grown is the root, with limits 10 and 20, and these, with limits that tell their numbers.
func grown(t *testing.T, all ...string) *Names {
	t.Helper()
	n := New(10, 20)
	for i, p := range all {
		want(t, "Add of "+p, n.Add(p, 100+i, 200+i), api.OK)
	}
	return n
}

func TestTheExample(t *testing.T) {
	n := grown(t, "a", "a/b")
	wantKids(t, n, "a", "b")
	wantPaths(t, "the example", n, "", "a", "a/b")
}

func TestNewHasTheRootAlone(t *testing.T) {
	for _, c := range []struct{ asked, held int }{{0, 0}, {1, 1}, {999999, 999999}, {1000000, 1000000}, {1000001, 1000000}, {-1, 0}, {math.MaxInt, 1000000}, {math.MinInt, 0}} {
		for i, n := range []*Names{New(c.asked, 7), New(7, c.asked)} {
			wanted := api.Space{MaxBytes: c.held, MaxEntries: 7}
			if i == 1 {
				wanted = api.Space{MaxBytes: 7, MaxEntries: c.held}
			}
			s, ok := n.Get("")
			if all := n.All(); !ok || s != wanted || len(all) != 1 || all[0] != wanted {
				t.Errorf("P16.1: New of %d: %v, %v, %v", c.asked, s, ok, all)
			}
			wantKids(t, n, "")
		}
	}
}

func TestAddedWithItsLimitsAndNothingInIt(t *testing.T) {
	for _, limit := range []int{0, 1, 999999, 1000000} {
		n := New(0, 0)
		want(t, "Add", n.Add("a", limit, 3), api.OK)
		want(t, "Add", n.Add("a/b", 4, limit), api.OK)
		for _, wanted := range []api.Space{{}, {Path: "a", MaxBytes: limit, MaxEntries: 3}, {Path: "a/b", MaxBytes: 4, MaxEntries: limit}} {
			if s, ok := n.Get(wanted.Path); !ok || s != wanted {
				t.Errorf("P16.1: Get(%s): %v, %v", wanted.Path, s, ok)
			}
		}
	}
	for _, limit := range []int{-1, 1000001, math.MinInt, math.MaxInt} {
		n := New(5, 5)
		want(t, "Add of wrong bytes", n.Add("a", limit, 0), api.ErrForm)
		want(t, "Add of wrong entries", n.Add("a", 0, limit), api.ErrForm)
		want(t, "Add of both wrong", n.Add("a", limit, limit), api.ErrForm)
		wantPaths(t, "refused", n, "")
	}
}

// Of the faults of a call the one that the chapter names first is told.
func TestAddTellsTheFirstFault(t *testing.T) {
	n := grown(t, "a", "b", "a/x", "a/y", "a/x/p", "a/x/q")
	ahead := n.All()
	for _, c := range []struct {
		path           string
		bytes, entries int
		wanted         api.Errno
	}{
		{"", 1, 1, api.ErrPath}, {"", -1, 1, api.ErrPath}, {"A", 1, -1, api.ErrPath}, {"a/x/p/z", 1000001, 1, api.ErrPath}, {"a/", 1, 1, api.ErrPath}, {"c/", 1, 1, api.ErrPath},
		{"a", -1, 1, api.ErrForm}, {"a/x/p", 1, 1000001, api.ErrForm}, {"c/z", 1, -1, api.ErrForm}, {"c", 1000001, 1, api.ErrForm}, {"a/x/r", -1, -1, api.ErrForm}, {"b/z", -1, 1, api.ErrForm},
		{"a", 100, 200, api.ErrTwice}, {"b", 0, 0, api.ErrTwice}, {"a/x", 1, 1, api.ErrTwice}, {"a/x/q", 1, 1, api.ErrTwice},
		{"c/z", 1, 1, api.ErrNone}, {"b/z/z", 1, 1, api.ErrNone}, {"a/z/z", 1, 1, api.ErrNone}, {"c/z/z", 1, 1, api.ErrNone}, {"x", 1, 1, api.ErrMany}, {"x/p", 1, 1, api.ErrNone},
		{"c", 1, 1, api.ErrMany}, {"aa", 1, 1, api.ErrMany}, {"a/z", 1, 1, api.ErrMany}, {"a/x/z", 1, 1, api.ErrMany},
	} {
		want(t, "Add of "+c.path, n.Add(c.path, c.bytes, c.entries), c.wanted)
		if !slices.Equal(n.All(), ahead) {
			t.Fatalf("rule 4: Add(%q) told %v, and changed something", c.path, c.wanted)
		}
	}
}

func TestEachHasAtMostTwoKids(t *testing.T) {
	for _, top := range []string{"", "a/", "a/b/"} {
		n := grown(t, "a", "a/b")
		has := len(n.Kids(strings.TrimSuffix(top, "/")))
		for _, segment := range []string{"c", "d", "e"} {
			wanted := api.ErrMany
			if has < 2 {
				wanted, has = api.OK, has+1
			}
			want(t, "Add of "+top+segment, n.Add(top+segment, 1, 1), wanted)
		}
		// What has gone makes room, for one.
		_, e := n.Remove(top + "c")
		want(t, "Remove", e, api.OK)
		want(t, "Add of another", n.Add(top+"f", 1, 1), api.OK)
		want(t, "Add of one more", n.Add(top+"g", 1, 1), api.ErrMany)
	}
}

// full is all that can be there with these two segments; ten and ten[:9] begin alike.
func full(t *testing.T) *Names {
	t.Helper()
	var all []string
	pair := []string{ten, ten[:9]}
	for _, a := range pair {
		all = append(all, a)
		for _, b := range pair {
			all = append(all, a+"/"+b)
			for _, c := range pair {
				all = append(all, a+"/"+b+"/"+c)
			}
		}
	}
	return grown(t, all...)
}

func TestFull(t *testing.T) {
	n := full(t)
	all := paths(n)
	if len(all) != 15 || !slices.IsSortedFunc(all, func(a, b string) int { return strings.Compare(modelCode(a), modelCode(b)) }) {
		t.Errorf("P16.1: %q", all)
	}
	for _, p := range all {
		if strings.Count(p, "/") == 2 {
			wantKids(t, n, p)
			want(t, "Add within the third", n.Add(p+"/a", 1, 1), api.ErrPath)
		} else {
			wantKids(t, n, p, ten[:9], ten)
			want(t, "Add of one more", n.Add(strings.TrimPrefix(p+"/z", "/"), 1, 1), api.ErrMany)
		}
	}
}

func TestKidsByteByByte(t *testing.T) {
	for _, c := range [][2]string{{"9", "10"}, {"z", "a"}, {"a0", "a"}, {"a", "0"}, {"ab", "aa"}, {"z", "0z"}, {ten, ten[:9]}} {
		for _, top := range []string{"", "top", "top/low"} {
			n := grown(t, "top", "top/low")
			if top == "" {
				n = New(1, 1)
			} else if top == "top" {
				n = grown(t, "top")
			}
			for _, segment := range c {
				want(t, "Add", n.Add(strings.TrimPrefix(top+"/"+segment, "/"), 1, 1), api.OK)
			}
			wantKids(t, n, top, c[1], c[0])
		}
	}
}

func TestRemoveTakesAllUnderIt(t *testing.T) {
	all := []string{"ab", "a", "a/b", "a/a", "a/b/c", "a/b/a", "ab/a", "ab/a/b"}
	for _, c := range []struct {
		path string
		gone []string
	}{
		{"a", []string{"a", "a/a", "a/b", "a/b/a", "a/b/c"}},
		{"ab", []string{"ab", "ab/a", "ab/a/b"}},
		{"a/b", []string{"a/b", "a/b/a", "a/b/c"}},
		{"a/a", []string{"a/a"}},
		{"ab/a", []string{"ab/a", "ab/a/b"}},
		{"a/b/c", []string{"a/b/c"}},
	} {
		n := grown(t, all...)
		stay := slices.DeleteFunc(n.All(), func(s api.Space) bool { return slices.Contains(c.gone, s.Path) })
		gone, e := n.Remove(c.path)
		if e != api.OK || !slices.Equal(gone, c.gone) {
			t.Errorf("P16.1: Remove(%s): %q, %v", c.path, gone, e)
		}
		if !slices.Equal(n.All(), stay) {
			t.Errorf("P16.1: behind Remove(%s) there are %q", c.path, paths(n))
		}
		for _, p := range c.gone {
			s, ok := n.Get(p)
			if s != (api.Space{}) || ok {
				t.Errorf("P16.1: %s is there still: %v", p, s)
			}
			wantKids(t, n, p)
			gone, e := n.Remove(p)
			want(t, "Remove again of "+p, e, api.ErrNone)
			want(t, "Add again of "+p, n.Add(p, 1, 2), api.OK) // in the order of their codes: its parent is there
			if s, _ := n.Get(p); len(gone) != 0 || s != (api.Space{Path: p, MaxBytes: 1, MaxEntries: 2}) {
				t.Errorf("P16.1: %s, again: %v; beside an error: %q", p, s, gone)
			}
		}
	}
}

func TestRemoveRefused(t *testing.T) {
	n := grown(t, "a", "ab", "a/b", "a/b/c")
	ahead := n.All()
	for _, p := range []string{"b", "c", "a/c", "a/bc", "b/c", "ab/b", "a/b/b", "a/b/cc", "0", ten} {
		gone, e := n.Remove(p)
		want(t, "Remove of "+p, e, api.ErrNone)
		if len(gone) != 0 {
			t.Errorf("rule 4: beside an error: %q", gone)
		}
	}
	for _, p := range append(odd(), "") {
		gone, e := n.Remove(p)
		if e != api.ErrPath || len(gone) != 0 {
			t.Errorf("P16.1: Remove(%.40q): %q, %v", p, gone, e)
		}
	}
	if !slices.Equal(n.All(), ahead) {
		t.Errorf("rule 4: refused, and changed: %q", paths(n))
	}
}

func TestWhatIsNoPathIsntThere(t *testing.T) {
	n := grown(t, "a", "a/b", "a/b/c", ten)
	ahead := n.All()
	for _, p := range odd() {
		if s, ok := n.Get(p); s != (api.Space{}) || ok {
			t.Errorf("P16.1: Get(%.40q): %v, %v", p, s, ok)
		}
		wantKids(t, n, p)
		if e := n.Add(p, 1, 1); e != api.ErrPath {
			t.Errorf("P16.1: Add(%.40q): %v", p, e)
		}
		if e := n.Add(p, -1, 1); e != api.ErrPath {
			t.Errorf("P16.1: Add(%.40q), of a wrong limit too: %v", p, e)
		}
	}
	for _, p := range []string{"b", "b/c", "a/c", "a/b/d", "aa", ten + "/a"} {
		if s, ok := n.Get(p); s != (api.Space{}) || ok {
			t.Errorf("P16.1: Get(%q): %v, %v", p, s, ok)
		}
		wantKids(t, n, p)
	}
	if !slices.Equal(n.All(), ahead) {
		t.Errorf("rule 4: %q", paths(n))
	}
}

func TestACopyGoesItsOwnWay(t *testing.T) {
	n := grown(t, "a", "a/b")
	c := n.Copy()
	d := c.Copy()
	if !slices.Equal(c.All(), n.All()) || !slices.Equal(d.All(), n.All()) {
		t.Errorf("P16.1: copied: %v, %v", c.All(), d.All())
	}
	want(t, "Add", n.Add("n", 1, 1), api.OK)
	want(t, "Add", c.Add("c", 2, 2), api.OK)
	c.Remove("a")
	want(t, "Add", d.Add("a/b/d", 3, 3), api.OK)
	wantPaths(t, "the first", n, "", "a", "a/b", "n")
	wantPaths(t, "its copy", c, "", "c")
	wantPaths(t, "the copy's copy", d, "", "a", "a/b", "a/b/d")
	if s, _ := d.Get("a/b"); s != (api.Space{Path: "a/b", MaxBytes: 101, MaxEntries: 201}) {
		t.Errorf("P16.1: copied: %v", s)
	}
	other := New(1, 1)
	want(t, "Add", other.Add("z", 1, 1), api.OK)
	wantPaths(t, "another one", other, "", "z")
	wantPaths(t, "the first", n, "", "a", "a/b", "n")
}

// What each has is told, is copied, and goes with it: what is made anew has nothing in it.
func TestWhatOneHasGoesWithIt(t *testing.T) {
	n := grown(t, "a", "a/b")
	for p, s := range n.Spaces {
		s.Bytes, s.Entries, s.OwnBytes, s.OwnEntries = 10, 11, 12, 13
		n.Spaces[p] = s
	}
	b := api.Space{Path: "a/b", MaxBytes: 101, MaxEntries: 201, Bytes: 10, Entries: 11}
	if s, _ := n.Get("a/b"); s != b || n.All()[2] != b {
		t.Errorf("P16.1: what it has isn't told: %v, %v", s, n.All())
	}
	c := n.Copy()
	if !slices.Equal(c.All(), n.All()) {
		t.Errorf("P16.1: copied: %v, not %v", c.All(), n.All())
	}
	for p, s := range c.Spaces {
		if s != n.Spaces[p] {
			t.Errorf("P16.1: copied: %v, not %v", s, n.Spaces[p])
		}
		s.OwnBytes = 14
		c.Spaces[p] = s
	}
	n.Remove("a")
	want(t, "Add again", n.Add("a", 100, 200), api.OK)
	for _, s := range n.Spaces {
		if s.Path == "a" && s != (space{Space: api.Space{Path: "a", MaxBytes: 100, MaxEntries: 200}}) || s.Path == "" && s.OwnBytes != 12 {
			t.Errorf("P16.1: anew: %v", s)
		}
	}
}

func TestListsAreNewMemory(t *testing.T) {
	n := full(t)
	all, kids := n.All(), n.Kids(ten)
	wanted := slices.Clone(all)
	other := n.All()
	for i := range all {
		all[i] = api.Space{Path: "x"}
	}
	kids[0] = "x"
	_ = append(kids[:1], "y")
	_ = append(all[:1], api.Space{Path: "y"}, api.Space{Path: "z"})
	if !slices.Equal(n.All(), wanted) || !slices.Equal(other, wanted) {
		t.Error("rule 3: what was answered is kept")
	}
	wantKids(t, n, ten, ten[:9], ten)
	c := n.Copy()
	gone, _ := n.Remove(ten)
	copied, _ := c.Remove(ten)
	for i := range gone {
		gone[i] = "x"
	}
	if len(copied) != 7 || slices.Contains(copied, "x") {
		t.Errorf("rule 3: %q", copied)
	}
}

// A path that is a piece of a greater text doesn't hold that text.
func TestWhatIsHandedInIsntKept(t *testing.T) {
	whole := "a/" + ten + "/" + ten
	start := uintptr(unsafe.Pointer(unsafe.StringData(whole)))
	lies := func(s string) bool {
		at := uintptr(unsafe.Pointer(unsafe.StringData(s)))
		return start <= at && at < start+uintptr(len(whole))
	}
	n := New(1, 1)
	for _, p := range []string{whole[:1], whole[:12], whole} {
		want(t, "Add", n.Add(p, 1, 1), api.OK)
	}
	for _, s := range n.All() {
		got, _ := n.Get(s.Path)
		for _, x := range append(n.Kids(s.Path), s.Path, got.Path) {
			if x != "" && lies(x) {
				t.Errorf("rule 3: %q lies in what was handed in", x)
			}
		}
	}
	for p := range n.Spaces {
		if p != root() && (lies(p.parent) || lies(p.last)) {
			t.Errorf("rule 3: the place %q lies in what was handed in", p)
		}
	}
	gone, _ := n.Remove(whole[:1])
	if slices.ContainsFunc(gone, lies) {
		t.Errorf("rule 3: one of %q lies in what was handed in", gone)
	}
}
