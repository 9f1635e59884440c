package store

import (
	"fmt"
	"math/rand"
	"slices"
	"testing"

	"sacristy/api"
	"sacristy/sector"
)

// scene: a disk with a store, a call, and what there is ahead of it and behind it.
type scene struct {
	name          string
	disk          *sector.Disk
	call          func(s *Store) api.Errno
	ahead, behind string
}

func sceneOf(t *testing.T, name string, pages int, begin func(s *Store), call func(s *Store) api.Errno) scene {
	t.Helper()
	d, s := made(t, pages)
	begin(s)
	x := scene{name: name, disk: d, call: call, ahead: said(s)}
	after := opened(t, d.Copy())
	if e := call(after); e != api.OK {
		t.Fatalf("%s: %v", name, e)
	}
	x.behind = said(after)
	return x
}

func scenes(t *testing.T) []scene {
	some := func(s *Store) {
		for i := range 6 {
			do(t, s, put(longKey(i), longVal(rune('a'+i))), put(fmt.Sprint(i), "x"))
		}
		snap(t, s, "old")
		do(t, s, put(longKey(2), "2"), gone(longKey(4)))
		snap(t, s, "s", "t")
		do(t, s, put(longKey(1), "1"))
	}
	var comeAndGo []api.Write
	for i := range 15 {
		comeAndGo = append(comeAndGo, put(longKey(i), longVal('v')))
	}
	for i := range 15 {
		comeAndGo = append(comeAndGo, gone(longKey(i)))
	}
	comeAndGo = append(comeAndGo, put("last", "1"))
	return []scene{
		sceneOf(t, "the first batch", 10, func(*Store) {}, func(s *Store) api.Errno { return s.Do([]api.Write{put("a", "1")}) }),
		sceneOf(t, "a batch", 80, some, func(s *Store) api.Errno {
			return s.Do([]api.Write{put(longKey(3), longVal('z')), gone(longKey(0)), put("new", ""), put("new", "1"), gone("5")})
		}),
		sceneOf(t, "a batch that is made anew", 12, func(s *Store) { do(t, s, put("a", "1")); snap(t, s, "s") }, func(s *Store) api.Errno { return s.Do(comeAndGo) }),
		sceneOf(t, "a snapshot", 80, some, func(s *Store) api.Errno { return s.Snap("new") }),
		sceneOf(t, "the end of a snapshot", 80, some, func(s *Store) api.Errno { return s.Drop("old") }),
	}
}

// leftovers are rows of choices: nothing and all of it is left, this and that, torn ones.
func leftovers(r *rand.Rand) [][]uint8 {
	row := func(one func(i int) uint8) []uint8 {
		l := make([]uint8, 400)
		for i := range l {
			l[i] = one(i)
		}
		return l
	}
	return [][]uint8{
		nil,
		row(func(int) uint8 { return 255 }),
		row(func(i int) uint8 { return uint8(i % 2 * 255) }),
		row(func(i int) uint8 { return uint8((i + 1) % 2 * 255) }),
		row(func(int) uint8 { return 32 }),
		row(func(int) uint8 { return uint8(r.Intn(256)) }),
		row(func(int) uint8 { return []uint8{0, 255, uint8(r.Intn(256))}[r.Intn(3)] }),
	}
}

// isDead: P10.3: each call but reads tells ErrDead, whatever it is asked; reads tell what there was; so do Pages.
func isDead(t *testing.T, s *Store, ahead string) {
	t.Helper()
	if !s.Dead() {
		t.Fatal("P10.3: it isn't dead")
	}
	for _, e := range []api.Errno{
		s.Do([]api.Write{put("a", "1")}), s.Do([]api.Write{gone("a")}), s.Do(nil),
		s.Snap("free"), s.Snap("old"), s.Snap("NO"),
		s.Drop("free"), s.Drop("old"), s.Drop(""),
	} {
		if e != api.ErrDead {
			t.Fatalf("P10.3: a dead store tells %v", e)
		}
	}
	if said(s) != ahead {
		t.Fatalf("P10.3: a dead store has %s, want %s", said(s), ahead)
	}
	if s.Len() != len(s.Scan("", "", 1000)) {
		t.Fatalf("P10.3: a dead store has the length %d", s.Len())
	}
	for _, x := range s.Scan("", "", 1000) {
		if v, had := s.Get(x.Key); v != x.Val || !had {
			t.Fatalf("P10.3: a dead store has %q at %q, want %q", v, x.Key, x.Val)
		}
	}
	samePages(t, s)
}

// TestPowerAtEachStep: P10.3, P10.5: of each kind of call, with many leftovers: whole, or not at all.
func TestPowerAtEachStep(t *testing.T) {
	r := rand.New(rand.NewSource(104))
	for _, x := range scenes(t) {
		if x.ahead == x.behind {
			t.Fatalf("%s does nothing", x.name)
		}
		olds, news := 0, 0
		for at := 1; ; at++ {
			d := x.disk.Copy()
			s := opened(t, d)
			d.Power(at)
			if e := x.call(s); e == api.OK {
				break
			} else if e != api.ErrPower {
				t.Fatalf("P10.3: %s, at %d: %v", x.name, at, e)
			}
			isDead(t, s, x.ahead)
			for i, choices := range leftovers(r) {
				c := d.Copy()
				c.Crash(choices)
				s := reopened(t, r, c, choices)
				switch said(s) {
				case x.ahead:
					olds++
				case x.behind:
					news++
				default:
					t.Fatalf("P10.3: %s, at %d, leftovers %d: %s", x.name, at, i, said(s))
				}
				if s.Dead() {
					t.Fatal("P10.3: dead behind an Open")
				}
				samePages(t, s)
				if i == at%7 {
					goesOn(t, c, s)
				}
			}
			// What was dead stays so, and as it was, whatever became of the disk.
			d.Crash(leftovers(r)[1])
			do(t, opened(t, d), put("later", "1"))
			isDead(t, s, x.ahead)
		}
		if olds == 0 || news == 0 {
			t.Errorf("P10.3: %s: %d times as it was, %d times done", x.name, olds, news)
		}
	}
}

// reopened opens a disk that may lose its power within the opening, too.
func reopened(t *testing.T, r *rand.Rand, d *sector.Disk, choices []uint8) *Store {
	t.Helper()
	for range r.Intn(3) {
		d.Power(1 + r.Intn(12))
		if s, e := Open(d, testKey); e != api.OK && (e != api.ErrPower || s != nil) {
			t.Fatalf("P10.3: Open: %v, %v", s, e)
		}
		d.Crash(choices)
	}
	return opened(t, d)
}

// goesOn: a store that was opened behind a crash does all that it did.
func goesOn(t *testing.T, d *sector.Disk, s *Store) {
	t.Helper()
	was := s.Len()
	do(t, s, put("~", "more"))
	if e := s.Snap("more"); e != api.OK && e != api.ErrMany {
		t.Fatalf("P10.3: Snap behind a crash: %v", e)
	}
	for _, name := range s.Names() {
		if e := s.Drop(name); e != api.OK {
			t.Fatalf("P10.3: Drop behind a crash: %v", e)
		}
		samePages(t, s)
	}
	d.Crash(nil)
	s = opened(t, d)
	if v, had := s.Get("~"); v != "more" || !had || s.Len() != was+1 || len(s.Names()) != 0 {
		t.Fatalf("P10.5: behind a crash: %q, %v; %d pairs; %v", v, had, s.Len(), s.Names())
	}
	samePages(t, s)
}

// TestPowerWithinMake: P10.1: what there was, an empty store, or none.
func TestPowerWithinMake(t *testing.T) {
	r := rand.New(rand.NewSource(105))
	old, s := made(t, 20)
	do(t, s, put("a", "1"))
	snap(t, s, "s")
	was := said(s)
	for _, ground := range []*sector.Disk{diskOf(20), old} {
		for at := 1; ; at++ {
			d := ground.Copy()
			d.Power(at)
			s, e := Make(d, testKey)
			if e == api.OK {
				break
			}
			if e != api.ErrPower || s != nil {
				t.Fatalf("P10.1: %v, %v", s, e)
			}
			for _, choices := range leftovers(r) {
				c := d.Copy()
				c.Crash(choices)
				s, e := Open(c, testKey)
				if e == api.ErrSuper && s == nil {
					continue
				}
				if e != api.OK || said(s) != "[]" && (said(s) != was || ground != old) {
					t.Fatalf("P10.1: at %d: %v", at, e)
				}
				samePages(t, s)
				do(t, s, put("b", "2"))
			}
		}
	}
}

// TestWhatWasDoneStays: P10.5: the power goes between calls, with whatever is left; rows of calls with the power going within them.
func TestWhatWasDoneStays(t *testing.T) {
	r := rand.New(rand.NewSource(106))
	for range 10 {
		d, s := made(t, 300)
		m := newModel()
		for range 25 {
			cut := r.Intn(2) == 0
			if cut {
				d.Power(1 + r.Intn(300))
			}
			next := m.copied()
			e, want := play(r, s, next, 20, longKey)
			switch {
			case e == want:
				m = next
			case e != api.ErrPower || !cut:
				t.Fatalf("P10.3: %v, want %v", e, want)
			default:
				isDead(t, s, m.said())
			}
			choices := leftovers(r)[r.Intn(7)]
			d.Crash(choices)
			s = reopened(t, r, d, choices)
			if e == api.ErrPower && said(s) == next.said() {
				m = next
			}
			holds(t, "P10.5", s, m)
		}
	}
}

// TestPowerThatWentElsewhere: reads go on; the next change tells ErrPower, and is the store's last one.
func TestPowerThatWentElsewhere(t *testing.T) {
	for i, change := range []func(s *Store) api.Errno{
		func(s *Store) api.Errno { return s.Do([]api.Write{put("a", "2")}) },
		func(s *Store) api.Errno { return s.Do([]api.Write{gone("none")}) },
		func(s *Store) api.Errno { return s.Snap("t") },
		func(s *Store) api.Errno { return s.Drop("s") },
	} {
		d, s := made(t, 20)
		do(t, s, put("a", "1"))
		snap(t, s, "s")
		was := said(s)
		d.Power(1)
		d.Flush()
		for range 2 {
			if said(s) != was || s.Len() != 1 || s.Dead() {
				t.Errorf("P10.3: row %d: %s", i, said(s))
			}
			used, reached := s.Pages()
			if len(used) == 0 || !slices.Equal(used, reached) {
				t.Errorf("P10.4: row %d: %v, %v", i, used, reached)
			}
		}
		if e := change(s); e != api.ErrPower {
			t.Errorf("P10.3: row %d: %v", i, e)
		}
		isDead(t, s, was)
		d.Crash(nil)
		isDead(t, s, was)
	}
}
