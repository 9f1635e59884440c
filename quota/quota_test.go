package quota

import (
	"fmt"
	"math"
	"slices"
	"strings"
	"testing"

	"sacristy/api"
	"sacristy/names"
)

// odd is texts that are no paths.
func odd() []string {
	all := []string{"/", "a/", "/a", "a//b", "A", "a b", "a/b/c/d", "a.", "..", "\x00", "a\x00", "a\x00b\x00", "\xff", "é", "abcdefgh09a"}
	return append(all, strings.Repeat("a", 1<<20), strings.Repeat("a/", 1<<20))
}

// grown is a ledger of the root, with these limits, and of these, each with the two limits that stand behind it.
func grown(t *testing.T, bytes, entries int, all ...any) *Ledger {
	t.Helper()
	l := New(names.New(bytes, entries))
	for i := 0; i < len(all); i += 3 {
		if e := l.Names().Add(all[i].(string), all[i+1].(int), all[i+2].(int)); e != api.OK {
			t.Fatalf("Add of %v: %v", all[i], e)
		}
	}
	return l
}

// told is all that can be asked of a ledger: what each has, and what of its own.
func told(l *Ledger) string {
	var all []string
	for _, s := range l.Names().All() {
		bytes, entries, ok := l.Own(s.Path)
		all = append(all, fmt.Sprintf("%s:%d,%d(%d,%d,%v)", s.Path, s.Bytes, s.Entries, bytes, entries, ok))
	}
	return strings.Join(all, " ")
}

func wantTold(t *testing.T, what string, l *Ledger, wanted string) {
	t.Helper()
	if got := told(l); got != wanted {
		t.Errorf("P17.1: %s: %s, not %s", what, got, wanted)
	}
	if !l.Check() {
		t.Errorf("P17.1: %s: Check is false of %s", what, told(l))
	}
}

// charge charges, and tells whether Can foretold it, and whether what was refused changed nothing.
func charge(t *testing.T, l *Ledger, path string, bytes, entries int, wanted api.Errno) {
	t.Helper()
	ahead := told(l)
	can := l.Can(path, bytes, entries)
	if told(l) != ahead {
		t.Errorf("P17.1: Can(%.40q, %d, %d) changed %s to %s", path, bytes, entries, ahead, told(l))
	}
	e := l.Charge(path, bytes, entries)
	if e != wanted || can != (wanted == api.OK) {
		t.Errorf("P17.1: %s: Charge(%.40q, %d, %d): %v, not %v; Can: %v", ahead, path, bytes, entries, e, wanted, can)
	}
	if e != api.OK && told(l) != ahead {
		t.Errorf("rule 4: Charge(%.40q, %d, %d) told %v, and changed %s to %s", path, bytes, entries, e, ahead, told(l))
	}
}

func remove(t *testing.T, l *Ledger, path string, wanted ...string) {
	t.Helper()
	if gone, e := l.Remove(path); e != api.OK || !slices.Equal(gone, wanted) {
		t.Errorf("P17.1: Remove(%s): %q, %v, not %q", path, gone, e, wanted)
	}
}

func TestTheExample(t *testing.T) {
	l := grown(t, 5, 5)
	charge(t, l, "", 6, 0, api.ErrQuota)
	charge(t, l, "", 5, 0, api.OK)
	charge(t, l, "", 1, 0, api.ErrQuota)
}

func TestNewHasTheNames(t *testing.T) {
	n := names.New(3, 4)
	n.Add("a", 1, 2)
	l := New(n)
	if l.Names() != n {
		t.Error("P17.1: Names tells other ones than New was told")
	}
	wantTold(t, "new", l, ":0,0(0,0,true) a:0,0(0,0,true)")
	if all := l.Names().All(); all[0].MaxBytes != 3 || all[0].MaxEntries != 4 || all[1].MaxBytes != 1 || all[1].MaxEntries != 2 {
		t.Errorf("P17.1: the limits aren't as they were: %v", all)
	}
}

// Those that it is under have as much more; neither those under it, nor those beside it.
func TestChargedAllTheWayUp(t *testing.T) {
	all := []any{"a", 1000, 1000, "ab", 1000, 1000, "a/b", 1000, 1000, "a/c", 1000, 1000, "a/b/c", 1000, 1000, "ab/b", 1000, 1000}
	for _, c := range []struct{ path, wanted string }{
		{"", ":7,3(7,3,true) a:0,0(0,0,true) a/b:0,0(0,0,true) a/b/c:0,0(0,0,true) a/c:0,0(0,0,true) ab:0,0(0,0,true) ab/b:0,0(0,0,true)"},
		{"a", ":7,3(0,0,true) a:7,3(7,3,true) a/b:0,0(0,0,true) a/b/c:0,0(0,0,true) a/c:0,0(0,0,true) ab:0,0(0,0,true) ab/b:0,0(0,0,true)"},
		{"a/b", ":7,3(0,0,true) a:7,3(0,0,true) a/b:7,3(7,3,true) a/b/c:0,0(0,0,true) a/c:0,0(0,0,true) ab:0,0(0,0,true) ab/b:0,0(0,0,true)"},
		{"a/b/c", ":7,3(0,0,true) a:7,3(0,0,true) a/b:7,3(0,0,true) a/b/c:7,3(7,3,true) a/c:0,0(0,0,true) ab:0,0(0,0,true) ab/b:0,0(0,0,true)"},
		{"ab/b", ":7,3(0,0,true) a:0,0(0,0,true) a/b:0,0(0,0,true) a/b/c:0,0(0,0,true) a/c:0,0(0,0,true) ab:7,3(0,0,true) ab/b:7,3(7,3,true)"},
	} {
		l := grown(t, 1000, 1000, all...)
		empty := told(l)
		charge(t, l, c.path, 7, 3, api.OK)
		wantTold(t, "charged to "+c.path, l, c.wanted)
		charge(t, l, c.path, -7, -3, api.OK)
		wantTold(t, "given back by "+c.path, l, empty)
	}
}

// One at a limit has room for it, one past it is refused, whoever's limit it is.
func TestEachLimitOnTheWayUpHolds(t *testing.T) {
	way := []string{"", "a", "a/b", "a/b/c"}
	for low := range way {
		limits := []int{100, 100, 100, 100}
		limits[low] = 10
		for from := low; from < len(way); from++ {
			for _, kind := range []string{"bytes", "entries"} {
				bytes, entries := limits, []int{100, 100, 100, 100}
				one := func(n int) (int, int) { return n, 0 }
				if kind == "entries" {
					bytes, entries = entries, bytes
					one = func(n int) (int, int) { return 0, n }
				}
				l := grown(t, bytes[0], entries[0], "a", bytes[1], entries[1], "a/b", bytes[2], entries[2], "a/b/c", bytes[3], entries[3])
				for _, c := range []struct {
					n      int
					wanted api.Errno
				}{{11, api.ErrQuota}, {10, api.OK}, {1, api.ErrQuota}, {0, api.OK}, {-3, api.OK}, {4, api.ErrQuota}, {3, api.OK}, {100, api.ErrQuota}} {
					b, e := one(c.n)
					charge(t, l, way[from], b, e, c.wanted)
				}
				for _, above := range way[:low] { // the limit of one is none of those that it is under
					b, e := one(80)
					charge(t, l, above, b, e, api.OK)
					charge(t, l, above, -b, -e, api.OK)
				}
				if !l.Check() {
					t.Errorf("P17.1: Check is false of %s", told(l))
				}
			}
		}
	}
}

func TestLessOfOneAndMoreOfTheOther(t *testing.T) {
	l := grown(t, 10, 10, "a", 5, 5)
	charge(t, l, "a", 5, 5, api.OK)
	charge(t, l, "a", -2, 1, api.ErrQuota)
	charge(t, l, "a", 1, -2, api.ErrQuota)
	charge(t, l, "a", -2, 0, api.OK)
	charge(t, l, "a", 2, -2, api.OK)
	wantTold(t, "five, three", l, ":5,3(0,0,true) a:5,3(5,3,true)")
	charge(t, l, "a", -5, 2, api.OK)
	charge(t, l, "a", 5, -5, api.OK)
	wantTold(t, "five, none", l, ":5,0(0,0,true) a:5,0(5,0,true)")
}

// Whoever is beyond a limit may have less, and more of the other.
func TestOnlyMoreOfItIsBeyondALimit(t *testing.T) {
	l := grown(t, 10, 10, "a", 10, 10)
	charge(t, l, "a", 5, 5, api.OK)
	for place, s := range l.names.Spaces {
		s.MaxBytes = 2
		l.names.Spaces[place] = s
	}
	charge(t, l, "a", 1, 0, api.ErrQuota)
	charge(t, l, "a", 0, 0, api.OK)
	charge(t, l, "a", -1, 0, api.OK)
	charge(t, l, "a", 0, 1, api.OK)
	charge(t, l, "", 0, 1, api.OK)
	charge(t, l, "a", -1, 1, api.OK)
}

// Of its own: what those under it have can't be given back by it.
func TestLessThanNothingOfItsOwn(t *testing.T) {
	l := grown(t, 100, 100, "a", 100, 100, "a/b", 100, 100)
	charge(t, l, "a/b", 20, 5, api.OK)
	charge(t, l, "a", 3, 2, api.OK)
	charge(t, l, "", 1, 1, api.OK)
	ahead := told(l)
	for _, c := range []struct {
		path           string
		bytes, entries int
	}{{"", -2, 0}, {"", 0, -2}, {"", -24, -8}, {"a", -4, 0}, {"a", 0, -3}, {"a", -4, 2}, {"a", 1, -3}, {"a/b", -21, 0}, {"a/b", 0, -6}, {"a/b", -1000000, -1000000}} {
		charge(t, l, c.path, c.bytes, c.entries, api.ErrForm)
	}
	wantTold(t, "refused", l, ahead)
	charge(t, l, "", -1, -1, api.OK)
	charge(t, l, "a", -3, -2, api.OK)
	charge(t, l, "a/b", -20, -5, api.OK)
	wantTold(t, "all given back", l, ":0,0(0,0,true) a:0,0(0,0,true) a/b:0,0(0,0,true)")
}

// Of the faults of a charge the one that the chapter names first is told.
func TestTheFirstFaultIsTold(t *testing.T) {
	l := grown(t, 10, 10, "a", 5, 5)
	charge(t, l, "a", 2, 2, api.OK)
	for _, c := range []struct {
		path           string
		bytes, entries int
		wanted         api.Errno
	}{
		{"b", 11, -1, api.ErrNone}, {"b", -1, -1, api.ErrNone}, {"b", 0, 0, api.ErrNone}, {"a/a", 1, 1, api.ErrNone}, {"b", 100, 100, api.ErrNone},
		{"a", 100, -3, api.ErrForm}, {"a", -3, 100, api.ErrForm}, {"", 100, -1, api.ErrForm}, {"", -1, 100, api.ErrForm},
		{"a", 4, -2, api.ErrQuota}, {"a", -2, 4, api.ErrQuota}, {"", 9, 0, api.ErrQuota}, {"", 0, 9, api.ErrQuota},
	} {
		charge(t, l, c.path, c.bytes, c.entries, c.wanted)
	}
	for _, p := range odd() {
		charge(t, l, p, 1, 1, api.ErrNone)
		charge(t, l, p, -1, -1, api.ErrNone)
	}
	wantTold(t, "refused", l, ":2,2(0,0,true) a:2,2(2,2,true)")
}

func TestChargesAreHeld(t *testing.T) {
	for _, much := range []int{1000000, 1000001, 2000000, math.MaxInt} {
		for _, p := range []string{"", "a"} {
			l := grown(t, 1000000, 1000000, "a", 1000000, 1000000)
			charge(t, l, p, much, much, api.OK)
			if b, e, ok := l.Own(p); b != 1000000 || e != 1000000 || !ok {
				t.Errorf("P17.1: %d is held as %d, %d", much, b, e)
			}
			charge(t, l, p, much, 0, api.ErrQuota)
			charge(t, l, p, 0, much, api.ErrQuota)
			for _, less := range []int{-much, math.MinInt} {
				charge(t, l, p, less, 0, api.OK)
				charge(t, l, p, less, 0, api.ErrForm)
				charge(t, l, p, much, less, api.OK)
				charge(t, l, p, 0, less, api.ErrForm)
				charge(t, l, p, 0, much, api.OK)
			}
		}
		l := grown(t, 999999, 1000000)
		charge(t, l, "", much, 1, api.ErrQuota)
		l = grown(t, 1000000, 999999)
		charge(t, l, "", 1, much, api.ErrQuota)
		charge(t, l, "", 999999, 999999, api.OK)
		charge(t, l, "", -much, 0, api.ErrForm)
		charge(t, l, "", 0, -much, api.ErrForm)
	}
}

func TestRemoveGivesBackAllTheWayUp(t *testing.T) {
	charged := func() *Ledger {
		l := grown(t, 1000, 1000, "a", 900, 900, "ab", 900, 900, "a/b", 900, 900, "a/c", 900, 900, "a/b/c", 900, 900)
		for i, p := range []string{"", "a", "ab", "a/b", "a/c", "a/b/c"} {
			charge(t, l, p, 1<<i, 10+i, api.OK)
		}
		return l
	}
	all := []string{"", "a", "a/b", "a/b/c", "a/c", "ab"}
	for _, p := range all[1:] {
		l := charged()
		own := map[string][2]int{}
		var gone []string
		for _, q := range all {
			b, e, _ := l.Own(q)
			own[q] = [2]int{b, e}
			if isWithin(q, p) {
				gone = append(gone, q)
				delete(own, q)
			}
		}
		remove(t, l, p, gone...)
		for _, s := range l.Names().All() {
			var has [2]int
			for q, o := range own {
				if isWithin(q, s.Path) {
					has = [2]int{has[0] + o[0], has[1] + o[1]}
				}
			}
			b, e, ok := l.Own(s.Path)
			if (has != [2]int{s.Bytes, s.Entries}) || (own[s.Path] != [2]int{b, e}) || !ok {
				t.Errorf("P17.1: behind Remove(%s) %s has %v, of its own %d, %d", p, s.Path, s, b, e)
			}
		}
		if len(l.Names().All()) != len(own) || !l.Check() {
			t.Errorf("P17.1: behind Remove(%s): %s", p, told(l))
		}
		for _, q := range gone {
			if b, e, ok := l.Own(q); b != 0 || e != 0 || ok {
				t.Errorf("P17.1: Own(%s), which has gone: %d, %d, %v", q, b, e, ok)
			}
			charge(t, l, q, 1, 1, api.ErrNone)
		}
	}
}

func TestRemoveMakesRoom(t *testing.T) {
	l := grown(t, 10, 10, "a", 10, 10, "b", 10, 10, "a/c", 10, 10)
	charge(t, l, "a/c", 10, 10, api.OK)
	charge(t, l, "b", 1, 0, api.ErrQuota)
	remove(t, l, "a/c", "a/c")
	charge(t, l, "b", 11, 0, api.ErrQuota)
	charge(t, l, "b", 10, 10, api.OK)
	remove(t, l, "a", "a")
	wantTold(t, "b is full", l, ":10,10(0,0,true) b:10,10(10,10,true)")
	remove(t, l, "b", "b")
	wantTold(t, "the root", l, ":0,0(0,0,true)")
}

func TestRemoveTellsNamesErrors(t *testing.T) {
	l := grown(t, 10, 10, "a", 10, 10)
	charge(t, l, "", 1, 2, api.OK)
	charge(t, l, "a", 3, 4, api.OK)
	ahead := told(l)
	for _, p := range []string{"b", "a/a", "aa", "a/b/c"} {
		if gone, e := l.Remove(p); e != api.ErrNone || len(gone) != 0 {
			t.Errorf("P17.1: Remove(%s): %q, %v", p, gone, e)
		}
	}
	for _, p := range append(odd(), "") {
		if gone, e := l.Remove(p); e != api.ErrPath || len(gone) != 0 {
			t.Errorf("P17.1: Remove(%.40q): %q, %v", p, gone, e)
		}
	}
	wantTold(t, "refused", l, ahead)
}

func TestOwnOfWhatIsntThere(t *testing.T) {
	l := grown(t, 10, 10, "a", 10, 10)
	charge(t, l, "a", 3, 4, api.OK)
	for _, p := range append(odd(), "b", "a/a", "aa") {
		if b, e, ok := l.Own(p); b != 0 || e != 0 || ok {
			t.Errorf("P17.1: Own(%.40q): %d, %d, %v", p, b, e, ok)
		}
	}
}

// What is made anew has nothing in it, by whomever the elder one was taken away.
func TestMadeAnew(t *testing.T) {
	l := grown(t, 100, 100, "a", 50, 50, "a/b", 50, 50)
	charge(t, l, "a", 3, 4, api.OK)
	charge(t, l, "a/b", 5, 6, api.OK)
	remove(t, l, "a", "a", "a/b")
	l.Names().Add("a", 9, 9)
	l.Names().Add("a/b", 9, 9)
	wantTold(t, "anew", l, ":0,0(0,0,true) a:0,0(0,0,true) a/b:0,0(0,0,true)")
	charge(t, l, "a/b", -1, 0, api.ErrForm)
	charge(t, l, "a/b", 9, 9, api.OK)
	charge(t, l, "", 2, 2, api.OK)
	l.Names().Remove("a") // past the ledger: those above have still what it had
	if l.Check() {
		t.Errorf("P17.1: Check is true of %s", told(l))
	}
	l.Names().Add("a", 9, 9)
	if b, e, ok := l.Own("a"); b != 0 || e != 0 || !ok || l.Check() {
		t.Errorf("P17.1: anew: %d, %d, %v, Check: %v", b, e, ok, l.Check())
	}
}

// Check by what the sums shouldn't be.
func TestCheckTellsEachFault(t *testing.T) {
	charged := func() *Ledger {
		l := grown(t, 100, 100, "a", 50, 50, "b", 50, 50, "a/b", 50, 50, "a/b/c", 50, 50)
		for _, p := range []string{"", "a", "a/b", "a/b/c"} {
			charge(t, l, p, 5, 5, api.OK)
		}
		return l
	}
	if !charged().Check() {
		t.Error("P17.1: Check is false of what is right")
	}
	for i := range 10 {
		for place := range charged().names.Spaces {
			for _, off := range []int{1, -1} {
				l := charged()
				s := l.names.Spaces[place]
				switch i {
				case 0:
					s.Bytes += off
				case 1:
					s.Entries += off
				case 2:
					s.OwnBytes += off
				case 3:
					s.OwnEntries += off
				case 4:
					s.Bytes, s.Entries = s.Bytes+off, s.Entries-off
				case 5:
					s.OwnBytes, s.OwnEntries = s.OwnBytes+off, s.OwnEntries+off
				case 6:
					s.MaxBytes = s.Bytes - 1
				case 7:
					s.MaxEntries = s.Entries - 1
				case 8:
					s.MaxBytes, s.MaxEntries = s.Bytes-1, s.Entries+5
				case 9:
					s.MaxBytes, s.MaxEntries = s.Bytes+5, s.Entries-1
				}
				l.names.Spaces[place] = s
				if l.Check() {
					t.Errorf("P17.1: fault %d of %q: Check is true of %s", i, s.Path, told(l))
				}
			}
		}
	}
	for place := range charged().names.Spaces { // at its limits is within them
		l := charged()
		s := l.names.Spaces[place]
		s.MaxBytes, s.MaxEntries = s.Bytes, s.Entries
		l.names.Spaces[place] = s
		if !l.Check() {
			t.Errorf("P17.1: Check is false of %s, at its limits", told(l))
		}
	}
}

// A ledger of names in which there is something already goes on from there.
func TestALedgerOfACopy(t *testing.T) {
	l := grown(t, 100, 100, "a", 50, 50, "a/b", 50, 50)
	charge(t, l, "a", 3, 4, api.OK)
	charge(t, l, "a/b", 5, 6, api.OK)
	ahead := told(l)
	c := New(l.Names().Copy())
	wantTold(t, "copied", c, ahead)
	charge(t, c, "a", -3, 1, api.OK)
	remove(t, c, "a/b", "a/b")
	wantTold(t, "the copy", c, ":0,5(0,0,true) a:0,5(0,5,true)")
	wantTold(t, "the first", l, ahead)
	charge(t, l, "a/b", 42, 0, api.OK)
	charge(t, l, "a", 1, 0, api.ErrQuota)
	wantTold(t, "the copy", c, ":0,5(0,0,true) a:0,5(0,5,true)")
	other := grown(t, 7, 7, "a", 7, 7)
	wantTold(t, "another one", other, ":0,0(0,0,true) a:0,0(0,0,true)")
}

func TestWhatRemoveTellsIsNewMemory(t *testing.T) {
	l := grown(t, 100, 100, "a", 50, 50, "a/b", 50, 50, "c", 50, 50)
	charge(t, l, "a/b", 5, 6, api.OK)
	gone, _ := l.Remove("a")
	other, _ := l.Remove("c")
	gone[0] = "x"
	_ = append(gone[:1], "y", "z")
	if !slices.Equal(other, []string{"c"}) {
		t.Errorf("rule 3: %q", other)
	}
	wantTold(t, "behind it", l, ":0,0(0,0,true)")
}
