package ring

import (
	"bytes"
	"fmt"
	"math/rand"
	"slices"
	"strings"
	"testing"

	"sacristy/api"
	"sacristy/mac"
	"sacristy/path"
	"sacristy/sector"
	"sacristy/slots"
)

// A dead one tells so ahead of nothing that the ring finds out itself; what asks no slot to be changed goes on.
func TestDead(t *testing.T) {
	r, s, d := settled(t)
	want(t, "Attach", r.Attach("y", 23), api.OK)
	d.Power(1)
	want(t, "Create without power", r.Create("c", 20, keyOf(50)), api.ErrPower)
	wantNoKey(t, r, "c", api.ErrNone)
	if !s.Dead() {
		t.Fatal("the slots aren't dead")
	}
	d.Power(0)
	want(t, "Create", r.Create("c", 20, keyOf(50)), api.ErrDead)
	want(t, "Create of no path", r.Create("C", 20, keyOf(50)), api.ErrPath)
	want(t, "Create of one that is there", r.Create("a", 20, keyOf(50)), api.ErrTwice)
	want(t, "Create without a parent", r.Create("c/a", 20, keyOf(50)), api.ErrNone)
	want(t, "Create within one of an empty slot", r.Create("y/a", 20, keyOf(50)), api.ErrGone)
	want(t, "Erase", r.Erase("a"), api.ErrDead)
	want(t, "Erase of no path", r.Erase("A"), api.ErrPath)
	want(t, "Erase of none", r.Erase("c"), api.ErrNone)
	wantPaths(t, r, append(family(), "y")...)
	for i, p := range family() {
		wantKey(t, r, p, keyOf(i))
	}
	want(t, "Attach", r.Attach("c", 0), api.OK)
	wantKey(t, r, "c", keyOf(0))
	want(t, "Forget", r.Forget("a"), api.OK)
	wantNoKey(t, r, "a/b", api.ErrNone)
}

// attached is a ring of the family on the slots as they are.
func attached(t *testing.T, s *slots.Slots) *Ring {
	t.Helper()
	r := New(rootKey(), s)
	for i, p := range family() {
		want(t, "Attach of "+p, r.Attach(p, i), api.OK)
	}
	return r
}

func TestOpenedAgain(t *testing.T) {
	_, _, d := settled(t)
	d.Crash(nil)
	r := attached(t, opened(t, d))
	for i, p := range family() {
		wantKey(t, r, p, keyOf(i))
	}
}

// The power goes at each step of an Erase: as long as its own slot isn't erased nothing is changed; then all is gone,
// whatever the others tell.
func TestPowerGoesWithinErase(t *testing.T) {
	_, _, full := settled(t)
	for _, gone := range []string{"a", "a/b", "b", "0"} {
		refused, cut := 0, 0
		for at := 1; ; at++ {
			d := full.Copy()
			s := opened(t, d)
			r := attached(t, s)
			d.Power(at)
			e := r.Erase(gone)
			where := fmt.Sprintf("Erase(%s), step %d", gone, at)
			switch {
			case e == api.ErrPower:
				refused++
				wantPaths(t, r, family()...)
			case e == api.OK:
				wantPaths(t, r, slices.DeleteFunc(family(), func(p string) bool { return kin(p, gone) })...)
			default:
				t.Fatalf("P13.1: %s: %v", where, e)
			}
			dead := s.Dead()
			if dead && e == api.OK {
				cut++
			}
			for _, c := range []uint8{0, 1, 20, 48, 55, 63, 255} {
				crashed := d.Copy()
				crashed.Crash([]uint8{c, c, c})
				now := attached(t, opened(t, crashed))
				for i, p := range family() {
					if !kin(p, gone) {
						wantKey(t, now, p, keyOf(i))
					} else if e == api.OK {
						wantNoKey(t, now, p, api.ErrGone)
					} else if k, got := now.Key(p); got != api.ErrGone && (got != api.OK || k != keyOf(i)) {
						t.Fatalf("P13.1: %s: Key(%s): %v", where, p, got)
					}
				}
			}
			if t.Failed() {
				t.Fatal(where)
			}
			if !dead {
				break
			}
		}
		if refused == 0 || (cut == 0) != (gone == "0") {
			t.Errorf("Erase(%s): %d times refused, %d times cut off behind its own slot", gone, refused, cut)
		}
	}
}

// What an Erase that is cut off leaves doesn't hang on the order in which a map is gone through.
func TestErasesInOneOrder(t *testing.T) {
	_, _, full := settled(t)
	for at := 1; at < 20; at++ {
		var first []byte
		for range 12 {
			d := full.Copy()
			r := attached(t, opened(t, d))
			d.Power(at)
			r.Erase("a")
			d.Crash(nil)
			if first == nil {
				first = d.Image()
			}
			if !bytes.Equal(d.Image(), first) {
				t.Fatalf("rule 6: step %d: the same calls leave another disk", at)
			}
		}
	}
}

// The power goes at each step of a Create: there is nothing of it then, and what it left is a key of the parent's or none.
func TestPowerGoesWithinCreate(t *testing.T) {
	_, _, full := settled(t)
	for at := 1; ; at++ {
		d := full.Copy()
		s := opened(t, d)
		r := attached(t, s)
		d.Power(at)
		e := r.Create("a/b/d", 20, keyOf(50))
		if e == api.OK {
			if at < 2 {
				t.Error("no Create was cut off")
			}
			break
		}
		want(t, "Create, cut off", e, api.ErrPower)
		wantPaths(t, r, family()...)
		for _, c := range []uint8{0, 20, 63, 255} {
			crashed := d.Copy()
			crashed.Crash([]uint8{c, c, c})
			now := attached(t, opened(t, crashed))
			want(t, "Attach", now.Attach("a/b/d", 20), api.OK)
			if k, e := now.Key("a/b/d"); e != api.ErrGone && (e != api.OK || k != keyOf(50)) {
				t.Errorf("P13.1: %v, %v", k, e)
			}
			want(t, "Forget", now.Forget("a/b/d"), api.OK)
			want(t, "Create again", now.Create("a/b/d", 20, keyOf(51)), api.OK)
			wantKey(t, now, "a/b/d", keyOf(51))
		}
	}
}

// Behind an Erase the slots' disk tells nothing of the keys that were there.
func TestImageTellsNothingOfWhatWasErased(t *testing.T) {
	var images [2][]byte
	for world := range images {
		r, _, d := made(t)
		want(t, "Create", r.Create("b", 3, keyOf(9)), api.OK)
		for i, p := range []string{"a", "a/b", "a/b/c"} {
			want(t, "Create", r.Create(p, i, keyOf(100*world+i)), api.OK)
		}
		want(t, "Erase", r.Erase("a"), api.OK)
		images[world] = d.Image()
	}
	if !bytes.Equal(images[0], images[1]) {
		t.Error("P13.2: the disk tells which keys there were")
	}
}

// model: a ring by words: paths as texts, the slots as pairs of keys.
type model struct {
	slotOf map[string]int
	held   map[int][2]api.Key // the key that wraps, the key
}

func above(p string) string {
	return p[:max(strings.LastIndex(p, "/"), 0)]
}

func (m *model) has(p string) bool {
	_, ok := m.slotOf[p]
	return ok || p == ""
}

func (m *model) key(p string) (api.Key, api.Errno) {
	switch {
	case !path.Is(p):
		return api.Key{}, api.ErrPath
	case !m.has(p):
		return api.Key{}, api.ErrNone
	case p == "":
		return rootKey(), api.OK
	}
	kek, e := m.key(above(p))
	if e != api.OK {
		return api.Key{}, e
	}
	i := m.slotOf[p]
	if i < 0 || i >= api.MaxSlots {
		return api.Key{}, api.ErrSpace
	}
	if x, ok := m.held[i]; ok && x[0] == kek {
		return x[1], api.OK
	}
	return api.Key{}, api.ErrGone
}

func (m *model) add(p string, slot int, draw *api.Key) api.Errno {
	switch {
	case !path.Is(p) || p == "":
		return api.ErrPath
	case m.has(p):
		return api.ErrTwice
	case !m.has(above(p)):
		return api.ErrNone
	}
	if draw != nil {
		kek, e := m.key(above(p))
		if e != api.OK {
			return e
		}
		if slot < 0 || slot >= api.MaxSlots {
			return api.ErrSpace
		}
		m.held[slot] = [2]api.Key{kek, *draw}
	}
	m.slotOf[p] = slot
	return api.OK
}

func (m *model) remove(p string, erase bool) api.Errno {
	switch {
	case !path.Is(p) || p == "":
		return api.ErrPath
	case !m.has(p):
		return api.ErrNone
	case erase && (m.slotOf[p] < 0 || m.slotOf[p] >= api.MaxSlots):
		return api.ErrSpace
	}
	for q := range m.slotOf {
		if kin(q, p) {
			if erase {
				delete(m.held, m.slotOf[q])
			}
			delete(m.slotOf, q)
		}
	}
	return api.OK
}

// same tells whether the ring and the slots are those of the model, by all that can be asked.
func (m *model) same(t *testing.T, r *Ring, s *slots.Slots, texts []string) {
	t.Helper()
	paths := []string{}
	for p := range m.slotOf {
		paths = append(paths, p)
	}
	wantPaths(t, r, paths...)
	for _, p := range texts {
		key, wanted := m.key(p)
		if k, e := r.Key(p); k != key || e != wanted {
			t.Fatalf("P13.1: Key(%q): %v, %v; it is %v, %v", p, k, e, key, wanted)
		}
		derived := api.Key{}
		if wanted == api.OK {
			derived = mac.Derive(key, "mount/m", 0)
		}
		if k, e := r.Mount(p, "m"); k != derived || e != wanted {
			t.Fatalf("P13.1: Mount(%q): %v, %v", p, k, e)
		}
	}
	for i := range api.MaxSlots {
		x, ok := m.held[i]
		if k, e := s.Get(i, x[0]); ok && (e != api.OK || k != x[1]) || !ok && e != api.ErrGone {
			t.Fatalf("P13.1: slot %d: %v, %v", i, k, e)
		}
	}
}

func TestAgainstAModel(t *testing.T) {
	texts := []string{"", "a", "b", "ab", "a/a", "a/b", "b/a", "ab/a", "a/a/a", "a/a/b", "a/b/a", "b/a/ab", "ab/a/b", "a/a/a/a", "A", "a/"}
	for seed := range int64(60) {
		rnd := rand.New(rand.NewSource(seed))
		d := sector.New(64)
		s, _ := slots.Make(d)
		r, m := New(rootKey(), s), &model{map[string]int{}, map[int][2]api.Key{}}
		for n := range 150 {
			p, slot, draw := texts[rnd.Intn(len(texts))], rnd.Intn(7)*5-1, keyOf(rnd.Intn(300)) // -1, 4, .. 24, 29
			var got, wanted api.Errno
			kind := rnd.Intn(8)
			switch {
			case kind < 4:
				got, wanted = r.Create(p, slot, draw), m.add(p, slot, &draw)
			case kind < 6:
				got, wanted = r.Attach(p, slot), m.add(p, slot, nil)
			case kind == 6:
				got, wanted = r.Forget(p), m.remove(p, false)
			default:
				got, wanted = r.Erase(p), m.remove(p, true)
			}
			if got != wanted {
				t.Fatalf("P13.1: life %d, call %d, of kind %d, of %q, %d: %v, not %v", seed, n, kind, p, slot, got, wanted)
			}
			m.same(t, r, s, texts)
		}
	}
}
