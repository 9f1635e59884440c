package ring

import (
	"bytes"
	"math"
	"slices"
	"strings"
	"testing"
	"unsafe"

	"sacristy/api"
	"sacristy/mac"
	"sacristy/path"
	"sacristy/seal"
	"sacristy/sector"
	"sacristy/slots"
)

const ten = "abcdefgh09"

// keyOf is a key like no other one, without any nought.
func keyOf(n int) api.Key {
	var k api.Key
	for i := range k {
		k[i] = byte(1 + (n*31+i*7+n/5*i)%255)
	}
	k[0], k[1] = byte(1+n%255), byte(1+n/255)
	return k
}

func rootKey() api.Key {
	return keyOf(1000)
}

func made(t *testing.T) (*Ring, *slots.Slots, *sector.Disk) {
	t.Helper()
	d := sector.New(64)
	s, e := slots.Make(d)
	if e != api.OK {
		t.Fatal(e)
	}
	return New(rootKey(), s), s, d
}

func opened(t *testing.T, d *sector.Disk) *slots.Slots {
	t.Helper()
	s, e := slots.Open(d)
	if e != api.OK {
		t.Fatal(e)
	}
	return s
}

// family: paths, each with its parent ahead of it, some of which begin like others; the slot of each is its place here.
func family() []string {
	return []string{"a", "a/b", "a/b/c", "a/b/cc", "a/bb", "ab", "ab/a", "b", "b/a", "b/a/b", ten, ten + "/" + ten, ten + "/" + ten + "/" + ten, "0"}
}

func settled(t *testing.T) (*Ring, *slots.Slots, *sector.Disk) {
	t.Helper()
	r, s, d := made(t)
	for i, p := range family() {
		want(t, "Create of "+p, r.Create(p, i, keyOf(i)), api.OK)
	}
	return r, s, d
}

func want(t *testing.T, what string, e, wanted api.Errno) {
	t.Helper()
	if e != wanted {
		t.Errorf("P13.1: %s: %v, not %v", what, e, wanted)
	}
}

func wantKey(t *testing.T, r *Ring, p string, key api.Key) {
	t.Helper()
	if k, e := r.Key(p); e != api.OK || k != key {
		t.Errorf("P13.1: Key(%q): %v, %v", p, k, e)
	}
}

// wantNoKey tells whether neither the key nor any that is derived from it can be had.
func wantNoKey(t *testing.T, r *Ring, p string, wanted api.Errno) {
	t.Helper()
	if k, e := r.Key(p); e != wanted || k != (api.Key{}) {
		t.Errorf("P13.2: Key(%q): %v, %v, not %v", p, k, e, wanted)
	}
	if k, e := r.Mount(p, "kv"); e != wanted || k != (api.Key{}) {
		t.Errorf("P13.2: Mount(%q): %v, %v, not %v", p, k, e, wanted)
	}
}

func wantPaths(t *testing.T, r *Ring, paths ...string) {
	t.Helper()
	slices.SortFunc(paths, func(a, b string) int { return strings.Compare(path.Code(a), path.Code(b)) })
	if got := r.Paths(); !slices.Equal(got, paths) {
		t.Errorf("P13.1: Paths: %q, not %q", got, paths)
	}
}

func wantUsed(t *testing.T, s *slots.Slots, used ...int) {
	t.Helper()
	if got := s.Used(); !slices.Equal(got, used) {
		t.Errorf("P13.1: used slots: %v, not %v", got, used)
	}
}

func noPaths() []string {
	return []string{"/", "A", "a/", "/a", "a//b", "a/b/c/d", ten + "x", "a/" + ten + "x", "a b", "a\x00", "\x00", "a\x00b\x00", ".", "é", "\xff", "a/B", "-", "a/b/c/", strings.Repeat("a", 1<<20), strings.Repeat("a/", 1<<20)}
}

func oddSlots() []int {
	return []int{-1, -24, api.MaxSlots, api.MaxSlots + 1, 64, 1 << 32, 1<<32 + 1, -1 << 32, math.MinInt, math.MaxInt}
}

func TestExampleOfTheChapter(t *testing.T) {
	r, _, _ := made(t)
	want(t, "Create(a)", r.Create("a", 0, keyOf(1)), api.OK)
	want(t, "Create(a/b)", r.Create("a/b", 1, keyOf(2)), api.OK)
	want(t, "Erase(a)", r.Erase("a"), api.OK)
	wantNoKey(t, r, "a/b", api.ErrNone)
	want(t, "Attach(a)", r.Attach("a", 0), api.OK)
	want(t, "Attach(a/b)", r.Attach("a/b", 1), api.OK)
	wantNoKey(t, r, "a/b", api.ErrGone)
}

func TestOfNewTheRootIsThere(t *testing.T) {
	r, s, d := made(t)
	was := d.Image()
	wantPaths(t, r)
	wantKey(t, r, "", rootKey())
	wantNoKey(t, r, "a", api.ErrNone)
	wantUsed(t, s)
	if !bytes.Equal(d.Image(), was) {
		t.Error("P13.1: New changed the disk")
	}
	zero := New(api.Key{}, s)
	wantKey(t, zero, "", api.Key{})
}

func TestEachKeyIsWrappedByItsParents(t *testing.T) {
	r, s, d := settled(t)
	wantPaths(t, r, family()...)
	for i, p := range family() {
		wantKey(t, r, p, keyOf(i))
		kek := rootKey()
		if up, _ := path.Parent(p); up != "" {
			kek = keyOf(slices.Index(family(), up))
		}
		if k, e := s.Get(i, kek); e != api.OK || k != keyOf(i) {
			t.Errorf("P13.1: slot %d of %q: %v, %v", i, p, k, e)
		}
		// Each Create is one Put, so that its gen is due.
		w := seal.Wrap(kek, uint32(i), uint64(i+1), keyOf(i))
		if !bytes.Contains(d.Image(), w[:]) {
			t.Errorf("P13.1: the key of %q isn't on the disk so", p)
		}
	}
}

func TestAttachTellsWhy(t *testing.T) {
	r, s, d := settled(t)
	was := d.Image()
	for _, p := range append(noPaths(), "") {
		want(t, "Attach of no path", r.Attach(p, 20), api.ErrPath)
	}
	for _, p := range family() {
		want(t, "Attach of "+p, r.Attach(p, 20), api.ErrTwice)
		want(t, "Attach of "+p, r.Attach(p, -1), api.ErrTwice)
	}
	for _, p := range []string{"c/a", "c/a/b", "a/c/a", "abc/a", "ab/b/a", "0/0/0"} {
		want(t, "Attach of "+p, r.Attach(p, 20), api.ErrNone)
		want(t, "Attach of "+p, r.Attach(p, 99), api.ErrNone)
	}
	wantPaths(t, r, family()...)
	for i, p := range family() {
		wantKey(t, r, p, keyOf(i))
	}
	want(t, "Attach", r.Attach("c", 20), api.OK)
	wantPaths(t, r, append(family(), "c")...)
	if !bytes.Equal(d.Image(), was) || len(s.Used()) != len(family()) {
		t.Error("P13.1: Attach changed a slot")
	}
}

func TestAttachTakesEachSlot(t *testing.T) {
	for _, slot := range oddSlots() {
		r, _, _ := made(t)
		want(t, "Attach", r.Attach("a", slot), api.OK)
		want(t, "Attach under it", r.Attach("a/b", 0), api.OK)
		want(t, "Attach again", r.Attach("a", 0), api.ErrTwice)
		wantPaths(t, r, "a", "a/b")
		wantNoKey(t, r, "a", api.ErrSpace)
		wantNoKey(t, r, "a/b", api.ErrSpace)
		want(t, "Create under it", r.Create("a/c", 1, keyOf(1)), api.ErrSpace)
		want(t, "Erase", r.Erase("a"), api.ErrSpace)
		wantPaths(t, r, "a", "a/b")
		want(t, "Forget", r.Forget("a"), api.OK)
		wantPaths(t, r)
	}
}

func TestCreateTellsWhy(t *testing.T) {
	r, s, d := settled(t)
	want(t, "Attach", r.Attach("x", 99), api.OK)
	want(t, "Attach", r.Attach("y", 23), api.OK)
	want(t, "Attach", r.Attach("z", 2), api.OK) // wrapped by another one than the root's
	was, paths := d.Image(), r.Paths()
	for _, slot := range append(oddSlots(), 0, 20) {
		for _, p := range append(noPaths(), "") {
			want(t, "Create of no path", r.Create(p, slot, keyOf(50)), api.ErrPath)
		}
		for _, p := range family() {
			want(t, "Create of "+p, r.Create(p, slot, keyOf(50)), api.ErrTwice)
		}
		want(t, "Create without a parent", r.Create("c/a", slot, keyOf(50)), api.ErrNone)
		want(t, "Create without a parent", r.Create("x/a/a", slot, keyOf(50)), api.ErrNone)
		want(t, "Create within one of no slot", r.Create("x/a", slot, keyOf(50)), api.ErrSpace)
		want(t, "Create within one of an empty slot", r.Create("y/a", slot, keyOf(50)), api.ErrGone)
		want(t, "Create within one of another's slot", r.Create("z/a", slot, keyOf(50)), api.ErrGone)
	}
	for _, slot := range oddSlots() {
		want(t, "Create in no slot", r.Create("c", slot, keyOf(50)), api.ErrSpace)
		want(t, "Create in no slot", r.Create("a/b/d", slot, keyOf(50)), api.ErrSpace)
	}
	if !bytes.Equal(d.Image(), was) || !slices.Equal(r.Paths(), paths) {
		t.Errorf("P13.1: refused, something was changed: %q, %v", r.Paths(), s.Used())
	}
	want(t, "Create at last", r.Create("c", 20, keyOf(50)), api.OK)
	wantKey(t, r, "c", keyOf(50))
}

func TestCreateInEachSlot(t *testing.T) {
	r, s, _ := made(t)
	names := []string{}
	for i := range api.MaxSlots {
		names = append(names, string(rune('a'+i)))
		want(t, "Create", r.Create(names[i], i, keyOf(i)), api.OK)
	}
	want(t, "Create in one more", r.Create("z", api.MaxSlots, keyOf(99)), api.ErrSpace)
	want(t, "Create in the free one of none", r.Create("z", s.Free(), keyOf(99)), api.ErrSpace)
	wantPaths(t, r, names...)
	for i, p := range names {
		wantKey(t, r, p, keyOf(i))
	}
}

// Where a slot is used already, what was in it goes.
func TestCreateInAUsedSlot(t *testing.T) {
	r, s, _ := made(t)
	want(t, "Create", r.Create("a", 0, keyOf(1)), api.OK)
	want(t, "Create", r.Create("b", 1, keyOf(2)), api.OK)
	want(t, "Create in a's", r.Create("c", 0, keyOf(3)), api.OK)
	wantKey(t, r, "a", keyOf(3))
	wantKey(t, r, "c", keyOf(3))
	want(t, "Create in its parent's", r.Create("b/a", 1, keyOf(4)), api.OK)
	wantNoKey(t, r, "b", api.ErrGone)
	wantNoKey(t, r, "b/a", api.ErrGone)
	wantPaths(t, r, "a", "b", "b/a", "c")
	wantUsed(t, s, 0, 1)
}

func TestKeyTellsWhy(t *testing.T) {
	r, _, _ := settled(t)
	for _, p := range noPaths() {
		wantNoKey(t, r, p, api.ErrPath)
	}
	for _, p := range []string{"c", "a/c", "a/b/d", "a/a/a", "abc", "a1", "ab/a/a"} {
		wantNoKey(t, r, p, api.ErrNone)
	}
}

// Of several errors on the way down the first one is told.
func TestKeyTellsTheFirstErrorOnTheWayDown(t *testing.T) {
	const none, empty, others, good = 99, 23, 1, 0
	errs := map[int]api.Errno{none: api.ErrSpace, empty: api.ErrGone, others: api.ErrGone}
	for _, upper := range []int{none, empty, others, good} {
		for _, mid := range []int{none, empty, others} {
			for _, lower := range []int{none, empty, others} {
				r, s, _ := made(t)
				s.Put(good, rootKey(), keyOf(1))
				s.Put(others, keyOf(2), keyOf(3))
				r.Attach("a", upper)
				r.Attach("a/b", mid)
				r.Attach("a/b/c", lower)
				first := errs[mid]
				if upper != good {
					first = errs[upper]
					wantNoKey(t, r, "a", first)
				} else {
					wantKey(t, r, "a", keyOf(1))
				}
				wantNoKey(t, r, "a/b", first)
				wantNoKey(t, r, "a/b/c", first)
				want(t, "Create under it", r.Create("a/b/d", 5, keyOf(9)), first)
			}
		}
	}
}

// The ring keeps no key: it is what the slots hold now.
func TestKeysAreThoseOfTheSlots(t *testing.T) {
	r, s, _ := settled(t)
	s.Put(0, rootKey(), keyOf(70)) // a's
	wantKey(t, r, "a", keyOf(70))
	wantNoKey(t, r, "a/b", api.ErrGone)
	s.Put(1, keyOf(70), keyOf(71)) // a/b's
	wantKey(t, r, "a/b", keyOf(71))
	wantNoKey(t, r, "a/b/c", api.ErrGone)
	s.Put(0, rootKey(), keyOf(0))
	s.Put(1, keyOf(0), keyOf(1))
	for i, p := range family() {
		wantKey(t, r, p, keyOf(i))
	}
	s.Erase(0)
	wantNoKey(t, r, "a/b/c", api.ErrGone)
	wantKey(t, r, "ab/a", keyOf(6))
}

func TestMount(t *testing.T) {
	r, _, _ := settled(t)
	seen := map[api.Key]string{}
	for _, mount := range []string{"kv", "", "k", "v", "/", "mount/", "kv/", "KV", "\x00", "\xff\xfe", "é", strings.Repeat("m", 1<<16)} {
		for i, p := range append(family(), "") {
			key := rootKey()
			if p != "" {
				key = keyOf(i)
			}
			k, e := r.Mount(p, mount)
			if e != api.OK || k != mac.Derive(key, "mount/"+mount, 0) {
				t.Errorf("P13.1: Mount(%q, ..): %v, %v", p, k, e)
			}
			if elder, ok := seen[k]; ok {
				t.Errorf("P13.1: Mount(%q, %.9q) is that of %q", p, mount, elder)
			}
			seen[k] = p + " " + mount
		}
	}
	for _, p := range noPaths() {
		wantNoKey(t, r, p, api.ErrPath)
	}
}

// kin tells whether a is b, or under it, by texts.
func kin(a, b string) bool {
	return a == b || strings.HasPrefix(a, b+"/")
}

func TestForget(t *testing.T) {
	for _, gone := range family() {
		r, s, d := settled(t)
		was := d.Image()
		want(t, "Forget", r.Forget(gone), api.OK)
		wantPaths(t, r, slices.DeleteFunc(family(), func(p string) bool { return kin(p, gone) })...)
		for i, p := range family() {
			if kin(p, gone) {
				wantNoKey(t, r, p, api.ErrNone)
				want(t, "Forget again", r.Forget(p), api.ErrNone)
				want(t, "Erase of it", r.Erase(p), api.ErrNone)
			} else {
				wantKey(t, r, p, keyOf(i))
			}
		}
		if !bytes.Equal(d.Image(), was) || len(s.Used()) != len(family()) {
			t.Errorf("P13.1: Forget(%q) changed a slot", gone)
		}
		want(t, "Attach again", r.Attach(gone, slices.Index(family(), gone)), api.OK)
		wantKey(t, r, gone, keyOf(slices.Index(family(), gone)))
		for _, p := range family() {
			if p != gone && kin(p, gone) {
				wantNoKey(t, r, p, api.ErrNone)
			}
		}
	}
}

func TestForgetAndEraseTellWhy(t *testing.T) {
	r, _, d := settled(t)
	was := d.Image()
	for _, call := range []func(string) api.Errno{r.Forget, r.Erase} {
		for _, p := range append(noPaths(), "") {
			want(t, "no path", call(p), api.ErrPath)
		}
		for _, p := range []string{"c", "c/a", "a/c", "a/b/d", "abc", "a/a/a"} {
			want(t, p, call(p), api.ErrNone)
		}
	}
	wantPaths(t, r, family()...)
	if !bytes.Equal(d.Image(), was) {
		t.Error("P13.1: a refused Erase changed a slot")
	}
}

func TestErase(t *testing.T) {
	for _, gone := range family() {
		r, s, _ := settled(t)
		want(t, "Erase", r.Erase(gone), api.OK)
		left, used := []string{}, []int{}
		for i, p := range family() {
			if kin(p, gone) {
				wantNoKey(t, r, p, api.ErrNone)
				continue
			}
			wantKey(t, r, p, keyOf(i))
			left, used = append(left, p), append(used, i)
		}
		wantPaths(t, r, left...)
		wantUsed(t, s, used...)
		want(t, "Erase again", r.Erase(gone), api.ErrNone)
		for i, p := range family() {
			if kin(p, gone) {
				want(t, "Attach again", r.Attach(p, i), api.OK)
				wantNoKey(t, r, p, api.ErrGone)
			}
		}
		want(t, "Erase, the slot empty", r.Erase(gone), api.OK)
		wantPaths(t, r, left...)
		want(t, "Create again", r.Create(gone, slices.Index(family(), gone), keyOf(80)), api.OK)
		wantKey(t, r, gone, keyOf(80))
	}
}

// The errors of those under it are let go.
func TestEraseOverNoSlots(t *testing.T) {
	r, s, _ := made(t)
	want(t, "Create", r.Create("a", 0, keyOf(1)), api.OK)
	for i, slot := range oddSlots() {
		want(t, "Attach", r.Attach("a/"+string(rune('b'+i)), slot), api.OK)
	}
	want(t, "Create", r.Create("a/z", 1, keyOf(2)), api.OK)
	want(t, "Attach with its parent's", r.Attach("a/z/a", 1), api.OK)
	want(t, "Create", r.Create("b", 2, keyOf(3)), api.OK)
	want(t, "Attach with another's", r.Attach("a/z/b", 2), api.OK)
	want(t, "Erase", r.Erase("a"), api.OK)
	wantPaths(t, r, "b")
	wantUsed(t, s)
	wantNoKey(t, r, "b", api.ErrGone)
}

func TestPathsByCode(t *testing.T) {
	r, _, _ := made(t)
	all := []string{}
	for _, a := range []string{"0", "9", "a", "a0", "aa", "ab", "b", "z", ten} {
		all = append(all, a)
		for _, b := range []string{"0", "a", "aa", "z"} {
			all = append(all, a+"/"+b, a+"/"+b+"/0", a+"/"+b+"/a", a+"/"+b+"/a0")
		}
	}
	for i, p := range all {
		want(t, "Attach", r.Attach(p, i), api.OK) // more within one than a namespace may have: the ring doesn't count them
	}
	slices.Reverse(all)
	wantPaths(t, r, all...)
	for range 10 {
		wantPaths(t, r, all...)
	}
}

func TestAnswersAreNewMemoryAndNothingIsKept(t *testing.T) {
	r, _, _ := settled(t)
	one, two := r.Paths(), r.Paths()
	one[0] = "x"
	_ = append(one[:1], "y", "z")
	if _ = append(one, "w"); !slices.Equal(two, r.Paths()) || two[1] == "y" {
		t.Errorf("rule 3: %q", two)
	}
	b := []byte("c")
	want(t, "Attach", r.Attach(unsafe.String(&b[0], 1), 0), api.OK)
	b[0] = 'd'
	wantPaths(t, r, append(family(), "c")...)
	wantNoKey(t, r, "d", api.ErrNone)
	wantKey(t, r, "c", keyOf(0))
}

// Two rings on the same slots have the same keys, and paths of their own.
func TestTwoRings(t *testing.T) {
	r, s, _ := settled(t)
	other, wrong := New(rootKey(), s), New(keyOf(1), s)
	wantPaths(t, other)
	for i, p := range family() {
		wantNoKey(t, other, p, api.ErrNone)
		want(t, "Attach", other.Attach(p, i), api.OK)
		wantKey(t, other, p, keyOf(i))
		want(t, "Attach", wrong.Attach(p, i), api.OK)
		wantNoKey(t, wrong, p, api.ErrGone)
	}
	want(t, "Forget", other.Forget("a"), api.OK)
	wantKey(t, r, "a/b", keyOf(1))
	want(t, "Erase", other.Erase("b"), api.OK)
	wantNoKey(t, r, "b/a", api.ErrGone)
	wantPaths(t, r, family()...)
}

// P13.2: without the slot, whatever else there is; and with another key in it.
func TestWithoutASlotNoKeyUnderIt(t *testing.T) {
	for i, gone := range family() {
		for name, spoil := range map[string]func(s *slots.Slots){
			"erased":             func(s *slots.Slots) { s.Erase(i) },
			"its key by another": func(s *slots.Slots) { s.Put(i, keyOf(90), keyOf(i)) },
			"its key by itself":  func(s *slots.Slots) { s.Put(i, keyOf(i), keyOf(i)) },
		} {
			r, s, _ := settled(t)
			spoil(s)
			for j, p := range family() {
				if kin(p, gone) {
					wantNoKey(t, r, p, api.ErrGone)
				} else {
					wantKey(t, r, p, keyOf(j))
				}
			}
			if t.Failed() {
				t.Fatalf("P13.2: the slot of %q: %s", gone, name)
			}
		}
		r, s, _ := settled(t)
		up, _ := path.Parent(gone)
		kek, _ := r.Key(up)
		s.Put(i, kek, keyOf(91)) // another key, wrapped as it should be: it opens nothing of what was wrapped by the elder one
		for _, p := range family() {
			if p != gone && kin(p, gone) {
				wantNoKey(t, r, p, api.ErrGone)
			}
		}
		wantKey(t, r, gone, keyOf(91))
	}
}
