package slots

import (
	"bytes"
	"math"
	"math/rand"
	"slices"
	"testing"

	"sacristy/api"
	"sacristy/seal"
	"sacristy/sector"
)

// keyOf is a key like no other one, without any nought.
func keyOf(n int) api.Key {
	var k api.Key
	for i := range k {
		k[i] = byte(1 + (n*31+i*7+n/5*i)%255)
	}
	k[0], k[1] = byte(1+n%255), byte(1+n/255)
	return k
}

func made(t *testing.T) (*sector.Disk, *Slots) {
	t.Helper()
	d := sector.New(leastSectors)
	s, e := Make(d)
	if e != api.OK {
		t.Fatal(e)
	}
	return d, s
}

func opened(t *testing.T, d *sector.Disk) *Slots {
	t.Helper()
	s, e := Open(d)
	if e != api.OK || s == nil || s.Dead() {
		t.Fatalf("Open: %v, %v", s, e)
	}
	return s
}

func put(t *testing.T, s *Slots, i int, kek, key api.Key) {
	t.Helper()
	if e := s.Put(i, kek, key); e != api.OK {
		t.Fatalf("Put(%d): %v", i, e)
	}
}

func erase(t *testing.T, s *Slots, i int) {
	t.Helper()
	if e := s.Erase(i); e != api.OK {
		t.Fatalf("Erase(%d): %v", i, e)
	}
}

// thing: what a slot holds by a model: a key and the one that wraps it.
type thing struct{ kek, key api.Key }

// holds tells whether the slots are those of the model, by all that can be asked.
func holds(t *testing.T, s *Slots, m map[int]thing) {
	t.Helper()
	used, free := []int{}, -1
	for i := range api.MaxSlots {
		x, ok := m[i]
		if ok {
			used = append(used, i)
		} else if free < 0 {
			free = i
		}
		key, e := s.Get(i, x.kek)
		if ok && (e != api.OK || key != x.key) {
			t.Fatalf("P12.1: Get(%d): %v, %v", i, key, e)
		}
		if !ok && (e != api.ErrGone || key != api.Key{}) {
			t.Fatalf("P12.1: Get(%d) of an empty one: %v, %v", i, key, e)
		}
	}
	if !slices.Equal(s.Used(), used) || s.Free() != free {
		t.Fatalf("P12.1: Used %v, Free %d; they are %v, %d", s.Used(), s.Free(), used, free)
	}
}

func noSlots() []int {
	return []int{-1, -2, -24, api.MaxSlots, api.MaxSlots + 1, 64, 1 << 32, 1<<32 + 1, -1 << 32, math.MinInt, math.MaxInt}
}

// filled is a disk of sectors that all have something, flushed or not.
func filled(sectors int, flush bool) *sector.Disk {
	d := sector.New(sectors)
	for i := range d.Len() {
		d.Write(i, bytes.Repeat([]byte{byte(i + 1)}, api.SectorSize))
	}
	if flush {
		d.Flush()
	}
	return d
}

func TestSmallDisks(t *testing.T) {
	for _, n := range []int{-1, 0, 1, 2, 24, 25, 26, 62, 63} {
		for _, off := range []bool{false, true} {
			d := filled(n, true)
			if off {
				d.Power(1)
				d.Flush()
			}
			was := d.Image()
			if s, e := Make(d); s != nil || e != api.ErrSpace {
				t.Errorf("P12.1: Make of %d sectors: %v, %v", n, s, e)
			}
			if s, e := Open(d); s != nil || e != api.ErrSpace {
				t.Errorf("P12.1: Open of %d sectors: %v, %v", n, s, e)
			}
			if !bytes.Equal(d.Image(), was) {
				t.Errorf("P12.1: a disk of %d sectors was changed", n)
			}
		}
	}
	for _, n := range []int{64, 65, 100, 4000} {
		d := sector.New(n)
		s, e := Make(d)
		if e != api.OK {
			t.Fatalf("P12.1: Make of %d sectors: %v", n, e)
		}
		m := map[int]thing{}
		for i := range api.MaxSlots {
			m[i] = thing{keyOf(i), keyOf(i + 100)}
			put(t, s, i, m[i].kek, m[i].key)
		}
		d.Crash(nil)
		holds(t, opened(t, d), m)
	}
}

func TestMakeWhateverThereWas(t *testing.T) {
	_, full := made(t)
	for i := range api.MaxSlots {
		put(t, full, i, keyOf(i), keyOf(i+100))
	}
	for name, d := range map[string]*sector.Disk{
		"noughts": sector.New(64), "filled": filled(64, true), "pending": filled(64, false), "slots": full.disk,
	} {
		s, e := Make(d)
		if e != api.OK || s.Dead() {
			t.Fatalf("P12.1: Make on %s: %v", name, e)
		}
		holds(t, s, nil)
		d.Crash(nil)
		holds(t, opened(t, d), nil)
		for i := range api.MaxSlots {
			w := seal.Wrap(keyOf(i), uint32(i), uint64(i+1), keyOf(i+100))
			if bytes.Contains(d.Image(), w[:8]) || bytes.Contains(d.Image(), w[40:]) {
				t.Errorf("P12.4: Make on %s left a key in %d", name, i)
			}
		}
	}
}

func TestMakeAgainLeavesAnEmptyDiskAlike(t *testing.T) {
	d, s := made(t)
	new := d.Image()
	for n := range 7 {
		put(t, s, n, keyOf(n), keyOf(n+1))
		if _, e := Make(d); e != api.OK || !bytes.Equal(d.Image(), new) {
			t.Fatalf("P12.1: Make behind %d Puts isn't like a new one: %v", n+1, e)
		}
		s = opened(t, d)
		for i := range n {
			put(t, s, i, keyOf(n), keyOf(n+1))
		}
	}
}

func TestPutGetErase(t *testing.T) {
	d, s := made(t)
	m := map[int]thing{}
	r := rand.New(rand.NewSource(1))
	for n := range 600 {
		i := r.Intn(api.MaxSlots)
		if n%100 >= 50 == (r.Intn(5) > 0) { // there are times when all get full, and times when all get empty
			erase(t, s, i)
			delete(m, i)
		} else {
			m[i] = thing{keyOf(r.Intn(5)), keyOf(r.Intn(500))}
			put(t, s, i, m[i].kek, m[i].key)
		}
		holds(t, s, m)
		if r.Intn(4) == 0 {
			d.Crash([]uint8{uint8(r.Intn(256))})
			s = opened(t, d)
			holds(t, s, m)
		}
	}
}

func TestFullAndEmpty(t *testing.T) {
	_, s := made(t)
	m := map[int]thing{}
	for i := range api.MaxSlots {
		if s.Free() != i {
			t.Fatalf("P12.1: Free: %d, not %d", s.Free(), i)
		}
		m[i] = thing{keyOf(1), keyOf(2)}
		put(t, s, i, m[i].kek, m[i].key)
		holds(t, s, m)
	}
	if s.Free() != -1 {
		t.Errorf("P12.1: Free of full slots: %d", s.Free())
	}
	for i := api.MaxSlots - 1; i >= 0; i-- {
		erase(t, s, i)
		delete(m, i)
		holds(t, s, m)
	}
}

func TestKeysOfAllKinds(t *testing.T) {
	var noughts, ones api.Key
	for i := range ones {
		ones[i] = 255
	}
	d, s := made(t)
	m := map[int]thing{}
	for n, kek := range []api.Key{noughts, ones, keyOf(1)} {
		for k, key := range []api.Key{noughts, ones, kek} {
			m[n*3+k] = thing{kek, key}
			put(t, s, n*3+k, kek, key)
		}
	}
	holds(t, s, m)
	d.Crash(nil)
	holds(t, opened(t, d), m)
}

func TestOtherKeks(t *testing.T) {
	d, s := made(t)
	for _, i := range []int{0, 5, 23} {
		put(t, s, i, keyOf(i), keyOf(50))
	}
	for _, s := range []*Slots{s, opened(t, d)} {
		for bit := range 256 {
			for _, i := range []int{0, 5, 23} {
				kek := keyOf(i)
				kek[bit/8] ^= 1 << (bit % 8)
				if key, e := s.Get(i, kek); e != api.ErrSeal || key != (api.Key{}) {
					t.Errorf("P12.1: Get(%d) by another kek: %v, %v", i, key, e)
				}
			}
		}
		if key, e := s.Get(5, keyOf(23)); e != api.ErrSeal || key != (api.Key{}) {
			t.Errorf("P12.1: Get by another slot's kek: %v, %v", key, e)
		}
	}
}

func TestNoSlots(t *testing.T) {
	d, s := made(t)
	put(t, s, 3, keyOf(1), keyOf(2))
	was, steps := d.Image(), d.Steps()
	for _, i := range noSlots() {
		key, e := s.Get(i, keyOf(1))
		if e != api.ErrSpace || key != (api.Key{}) {
			t.Errorf("P12.1: Get(%d): %v, %v", i, key, e)
		}
		if e := s.Put(i, keyOf(1), keyOf(2)); e != api.ErrSpace {
			t.Errorf("P12.1: Put(%d): %v", i, e)
		}
		if e := s.Erase(i); e != api.ErrSpace {
			t.Errorf("P12.1: Erase(%d): %v", i, e)
		}
	}
	if s.Dead() || d.Steps() != steps || !bytes.Equal(d.Image(), was) {
		t.Error("P12.1: a refused call did something")
	}
	holds(t, s, map[int]thing{3: {keyOf(1), keyOf(2)}})
	// With the power off as well: ErrSpace is named first, and nothing dies of it.
	d.Power(1)
	d.Flush()
	for _, i := range noSlots() {
		if e, f := s.Put(i, keyOf(1), keyOf(2)), s.Erase(i); e != api.ErrSpace || f != api.ErrSpace || s.Dead() {
			t.Errorf("P12.1: %d without power: %v, %v", i, e, f)
		}
	}
}

// stands tells whether slot i has key there, wrapped by kek with that gen.
func stands(d *sector.Disk, i int, kek api.Key, gen uint64, key api.Key) bool {
	w := seal.Wrap(kek, uint32(i), gen, key)
	return bytes.Contains(d.Image(), w[:])
}

func TestGens(t *testing.T) {
	d, s := made(t)
	gen := uint64(0)
	next := func(i int) {
		t.Helper()
		gen++
		put(t, s, i, keyOf(1), keyOf(int(gen)%7))
		if !stands(d, i, keyOf(1), gen, keyOf(int(gen)%7)) {
			t.Fatalf("P12.1: Put %d in %d doesn't stand there with that gen", gen, i)
		}
	}
	next(0)
	next(0)
	next(23)
	erase(t, s, 23) // the newest gen goes with it, but not the count
	erase(t, s, 0)
	next(7)
	erase(t, s, 7)
	s = opened(t, d)
	next(7)
	for _, i := range noSlots() {
		s.Put(i, keyOf(1), keyOf(2))
	}
	s.Get(7, keyOf(9))
	erase(t, s, 1)
	next(1)
	for n := range 600 { // the second byte of a count, by both of its places
		next(n * 5 % api.MaxSlots)
		if n%3 == 0 {
			d.Crash(nil)
			s = opened(t, d)
		}
	}
	for range 2 {
		var e api.Errno
		if s, e = Make(d); e != api.OK {
			t.Fatal(e)
		}
		gen = 0
		next(4)
		next(4)
		s = opened(t, d)
		next(5)
	}
}

func TestDead(t *testing.T) {
	m := map[int]thing{2: {keyOf(1), keyOf(2)}, 4: {keyOf(3), keyOf(4)}}
	for name, call := range map[string]func(s *Slots) api.Errno{
		"Put":   func(s *Slots) api.Errno { return s.Put(4, keyOf(5), keyOf(6)) },
		"Erase": func(s *Slots) api.Errno { return s.Erase(4) },
	} {
		for at := 1; ; at++ {
			d, s := made(t)
			put(t, s, 2, m[2].kek, m[2].key)
			put(t, s, 4, m[4].kek, m[4].key)
			d.Power(at)
			e := call(s)
			if e == api.OK && at > 1 {
				break
			}
			if e != api.ErrPower || !s.Dead() {
				t.Fatalf("P12.1: %s, power off at step %d: %v, %v", name, at, e, s.Dead())
			}
			dead(t, s)
			holds(t, s, m)
			d.Crash(nil)
			dead(t, s)
			holds(t, s, m)
			if opened(t, d); !s.Dead() {
				t.Error("P12.1: another one's Open mended it")
			}
		}
	}
}

// dead tells whether it tells ErrDead to all but reads, and does nothing.
func dead(t *testing.T, s *Slots) {
	t.Helper()
	steps := s.disk.Steps()
	for _, i := range append(noSlots(), 0, 2, 4, 23) {
		if e := s.Put(i, keyOf(1), keyOf(2)); e != api.ErrDead {
			t.Errorf("P12.1: Put(%d) of a dead one: %v", i, e)
		}
		if e := s.Erase(i); e != api.ErrDead {
			t.Errorf("P12.1: Erase(%d) of a dead one: %v", i, e)
		}
	}
	for _, i := range noSlots() {
		if key, e := s.Get(i, keyOf(1)); e != api.ErrSpace || key != (api.Key{}) {
			t.Errorf("P12.1: Get(%d) of a dead one: %v, %v", i, key, e)
		}
	}
	if _, e := s.Get(2, keyOf(99)); e != api.ErrSeal {
		t.Errorf("P12.1: Get by another kek of a dead one: %v", e)
	}
	if !s.Dead() || s.disk.Steps() != steps {
		t.Error("P12.1: a dead one does something")
	}
}

func TestNoPower(t *testing.T) {
	d, s := made(t)
	put(t, s, 2, keyOf(1), keyOf(2))
	d.Power(1)
	d.Flush()
	was := d.Image()
	if s, e := Open(d); s != nil || e != api.ErrPower {
		t.Errorf("P12.1: Open without power: %v, %v", s, e)
	}
	if s, e := Make(d); s != nil || e != api.ErrPower {
		t.Errorf("P12.1: Make without power: %v, %v", s, e)
	}
	// Reads need none.
	holds(t, s, map[int]thing{2: {keyOf(1), keyOf(2)}})
	if s.Dead() {
		t.Error("P12.1: it died of nothing")
	}
	if e := s.Erase(20); e != api.ErrPower || !s.Dead() {
		t.Errorf("P12.1: Erase of an empty one without power: %v", e)
	}
	if !bytes.Equal(d.Image(), was) {
		t.Error("P12.1: the disk was changed without power")
	}
}

func TestOpenOfWhatIsNone(t *testing.T) {
	for name, d := range map[string]*sector.Disk{"noughts": sector.New(64), "filled": filled(64, true), "pending": filled(80, false)} {
		was, steps := d.Image(), d.Steps()
		s := opened(t, d)
		holds(t, s, nil)
		if !bytes.Equal(d.Image(), was) || d.Steps() != steps {
			t.Errorf("P12.1: Open changed what it doesn't know: %s", name)
		}
		put(t, s, 9, keyOf(1), keyOf(2))
		put(t, s, 10, keyOf(1), keyOf(3))
		erase(t, s, 10)
		if !stands(d, 9, keyOf(1), 1, keyOf(2)) {
			t.Errorf("P12.1: the first gen on %s", name)
		}
		d.Crash(nil)
		holds(t, opened(t, d), map[int]thing{9: {keyOf(1), keyOf(2)}})
	}
}

func TestOpenOfWholeSlotsWritesNothing(t *testing.T) {
	d, s := made(t)
	for i := range api.MaxSlots {
		opened(t, d)
		put(t, s, i, keyOf(1), keyOf(2))
		if i%3 == 0 {
			erase(t, s, i)
		}
		steps := d.Steps()
		opened(t, d)
		if d.Steps() != steps {
			t.Fatalf("P12.1: Open behind %d Puts has steps", i+1)
		}
	}
}

func TestChangedOnTheDisk(t *testing.T) {
	d, s := made(t)
	put(t, s, 6, keyOf(1), keyOf(2))
	w := seal.Wrap(keyOf(1), 6, 1, keyOf(2))
	from := bytes.Index(d.Image(), w[:])
	for bit := range len(w) * 8 {
		x := d.Copy()
		at := from + bit/8
		b, _ := x.Read(at / api.SectorSize)
		b[at%api.SectorSize] ^= 1 << (bit % 8)
		x.Write(at/api.SectorSize, b)
		x.Flush()
		o := opened(t, x)
		if key, e := o.Get(6, keyOf(1)); e != api.ErrSeal || key != (api.Key{}) || !slices.Equal(o.Used(), []int{6}) {
			t.Fatalf("P12.1: bit %d changed: %v, %v, %v", bit, key, e, o.Used())
		}
	}
}

// A slot's bytes that are brought to another one aren't what that one holds.
func TestMovedOnTheDisk(t *testing.T) {
	d, s := made(t)
	put(t, s, 6, keyOf(1), keyOf(2))
	w := seal.Wrap(keyOf(1), 6, 1, keyOf(2))
	from := bytes.Index(d.Image(), w[:]) / api.SectorSize
	for at := range leastSectors {
		x := d.Copy()
		b, _ := x.Read(from)
		x.Write(at, b)
		x.Flush()
		holds(t, opened(t, x), map[int]thing{6: {keyOf(1), keyOf(2)}})
	}
}

func TestMemory(t *testing.T) {
	_, s := made(t)
	for _, i := range []int{1, 3, 5} {
		put(t, s, i, keyOf(1), keyOf(2))
	}
	a, b := s.Used(), s.Used()
	for i := range a[:cap(a)] {
		a[:cap(a)][i] = 77
	}
	if !slices.Equal(b, []int{1, 3, 5}) || !slices.Equal(s.Used(), b) {
		t.Errorf("rule 3: Used: %v, %v", b, s.Used())
	}
}

func TestTwoDisksGoTheirOwnWays(t *testing.T) {
	d, s := made(t)
	put(t, s, 1, keyOf(1), keyOf(2))
	o := opened(t, d.Copy())
	put(t, o, 2, keyOf(3), keyOf(4))
	erase(t, o, 1)
	holds(t, s, map[int]thing{1: {keyOf(1), keyOf(2)}})
	holds(t, o, map[int]thing{2: {keyOf(3), keyOf(4)}})
	put(t, s, 1, keyOf(5), keyOf(6))
	holds(t, o, map[int]thing{2: {keyOf(3), keyOf(4)}})
}

func TestExample(t *testing.T) {
	d, s := made(t)
	put(t, s, 0, keyOf(1), keyOf(2))
	erase(t, s, 0)
	if _, e := s.Get(0, keyOf(1)); e != api.ErrGone {
		t.Errorf("Put, Erase: Get: %v", e)
	}
	d.Crash(nil)
	if _, e := opened(t, d).Get(0, keyOf(1)); e != api.ErrGone {
		t.Errorf("Put, Erase, Open: Get: %v", e)
	}
}
