package slots

import (
	"bytes"
	"fmt"
	"maps"
	"math/rand"
	"testing"

	"sacristy/api"
	"sacristy/seal"
	"sacristy/sector"
)

// scene: a disk with slots, a call of slot 4, and what that holds ahead of it and behind it (nil: it is empty).
type scene struct {
	name          string
	disk          *sector.Disk
	call          func(s *Slots) api.Errno
	others        map[int]thing
	ahead, behind *thing
	emptied       bool // whether the call, cut off, may leave the slot empty
	puts          uint64
}

const mid = 4 // the slot of the scenes

func scenes(t *testing.T) []scene {
	elder, newer := &thing{keyOf(11), keyOf(12)}, &thing{keyOf(13), keyOf(14)}
	others := map[int]thing{0: {keyOf(21), keyOf(22)}, 3: {keyOf(23), keyOf(24)}, 5: {keyOf(25), keyOf(26)}, 23: {keyOf(27), keyOf(28)}}
	put := func(s *Slots) api.Errno { return s.Put(mid, newer.kek, newer.key) }
	erase := func(s *Slots) api.Errno { return s.Erase(mid) }
	sceneOf := func(name string, x *thing, call func(s *Slots) api.Errno, behind *thing, emptied bool, puts uint64) scene {
		d, n := before(t, others, x, puts)
		return scene{name, d, call, others, x, behind, emptied, n}
	}
	return []scene{
		sceneOf("Put", nil, put, newer, true, 0),
		sceneOf("Put over another", elder, put, newer, true, 0),
		sceneOf("Put over itself", newer, put, newer, true, 0),
		sceneOf("Put, the 255th", elder, put, newer, true, 254),
		sceneOf("Put, the 256th", elder, put, newer, true, 255),
		sceneOf("Put, the 257th", elder, put, newer, true, 256),
		sceneOf("Put, the 258th", elder, put, newer, true, 257),
		sceneOf("Erase", elder, erase, nil, false, 0),
		sceneOf("Erase, of the 256th", elder, erase, nil, false, 256),
		sceneOf("Erase, of the 257th", elder, erase, nil, false, 257),
		sceneOf("Erase of an empty one", nil, erase, nil, false, 0),
	}
}

// before is a disk of these slots behind at least so many Puts; and how many they were.
func before(t *testing.T, others map[int]thing, x *thing, puts uint64) (*sector.Disk, uint64) {
	t.Helper()
	d, s := made(t)
	n := uint64(len(others))
	for i, o := range others {
		put(t, s, i, o.kek, o.key)
	}
	for ; n+1 < puts; n++ {
		put(t, s, mid, keyOf(1), keyOf(2))
	}
	if x == nil {
		put(t, s, mid, keyOf(1), keyOf(2))
		erase(t, s, mid)
	} else {
		put(t, s, mid, x.kek, x.key)
	}
	return d, n + 1
}

// leftovers are rows of choices: each for all sectors, and some for one of two alone.
func leftovers() [][]uint8 {
	l := [][]uint8{nil}
	for c := range 256 {
		l = append(l, []uint8{uint8(c), uint8(c), uint8(c)})
	}
	for _, c := range []uint8{1, 7, 8, 9, 15, 16, 17, 47, 48, 49, 55, 56, 57, 62, 63, 255} {
		l = append(l, []uint8{c, 0}, []uint8{0, c}, []uint8{c, 255}, []uint8{255, c})
	}
	return l
}

// sameThing tells whether the slot holds x, or is empty where that is nil.
func sameThing(s *Slots, i int, x *thing) bool {
	if x == nil {
		_, e := s.Get(i, keyOf(1))
		return e == api.ErrGone
	}
	key, e := s.Get(i, x.kek)
	return e == api.OK && key == x.key
}

// left is what slot mid holds behind a crash; it must be one of those that it may hold, and the others what they held.
func (x scene) left(t *testing.T, s *Slots, where string) *thing {
	t.Helper()
	may := []*thing{x.ahead, x.behind}
	if x.emptied {
		may = append(may, nil)
	}
	for _, now := range may {
		if !sameThing(s, mid, now) {
			continue
		}
		m := maps.Clone(x.others)
		if now != nil {
			m[mid] = *now
		}
		holds(t, s, m)
		return now
	}
	t.Fatalf("P12.2: %s: it holds something else, of %v", where, s.Used())
	return nil
}

// clean tells whether nothing of these keys stands on the disk but what the slot holds.
func (x scene) clean(t *testing.T, d *sector.Disk, now *thing, where string) {
	t.Helper()
	image := d.Image()
	for _, k := range []struct {
		thing *thing
		gen   uint64
	}{{x.ahead, x.puts}, {x.behind, x.puts + 1}} {
		if k.thing == nil || now != nil && *k.thing == *now {
			continue
		}
		w := seal.Wrap(k.thing.kek, mid, k.gen, k.thing.key)
		for from := 0; from+4 <= len(w); from++ {
			if bytes.Contains(image, w[from:][:4]) {
				t.Fatalf("P12.4: %s: some of a key is there that no slot holds, from its byte %d on", where, from)
			}
		}
	}
}

// goesOn tells whether the slots can be used behind a crash, with a gen that is due.
func (x scene) goesOn(t *testing.T, d *sector.Disk, s *Slots, where string) {
	t.Helper()
	put(t, s, mid, keyOf(31), keyOf(32))
	if !stands(d, mid, keyOf(31), x.puts+1, keyOf(32)) && !(x.emptied && stands(d, mid, keyOf(31), x.puts+2, keyOf(32))) {
		t.Fatalf("P12.1: %s: the next gen isn't due", where)
	}
	m := maps.Clone(x.others)
	m[mid] = thing{keyOf(31), keyOf(32)}
	d.Crash(nil)
	holds(t, opened(t, d), m)
}

func TestPowerGoesAtEachStep(t *testing.T) {
	for _, x := range scenes(t) {
		asAhead, asBehind := 0, 0
		for at := 1; ; at++ {
			d := x.disk.Copy()
			s := opened(t, d)
			d.Power(at)
			e := x.call(s)
			if e == api.OK {
				d.Power(0)
				if now := x.left(t, s, x.name); now != x.behind {
					t.Fatalf("P12.1: %s isn't done", x.name)
				}
				break
			}
			if e != api.ErrPower {
				t.Fatalf("P12.1: %s: %v", x.name, e)
			}
			for _, choices := range leftovers() {
				where := fmt.Sprintf("%s, step %d, choices %v", x.name, at, choices)
				c := d.Copy()
				c.Crash(choices)
				o := opened(t, c)
				now := x.left(t, o, where)
				if now == x.ahead {
					asAhead++
				}
				if now == x.behind {
					asBehind++
				}
				x.clean(t, c, now, where)
				if len(choices) < 3 || choices[0]%16 == 15 {
					x.goesOn(t, c, o, where)
				}
			}
		}
		if asAhead == 0 || asBehind == 0 {
			t.Errorf("%s: %d times as ahead of it, %d times as behind it", x.name, asAhead, asBehind)
		}
	}
}

// What was answered is kept, whatever is left of what comes behind it.
func TestAnsweredIsKept(t *testing.T) {
	for _, x := range scenes(t) {
		for _, choices := range leftovers() {
			d := x.disk.Copy()
			s := opened(t, d)
			if e := x.call(s); e != api.OK {
				t.Fatalf("%s: %v", x.name, e)
			}
			d.Crash(choices)
			o := opened(t, d)
			if now := x.left(t, o, x.name); now != x.behind {
				t.Fatalf("P12.1: %s wasn't kept", x.name)
			}
			x.clean(t, d, x.behind, x.name)
		}
	}
}

// The power goes within the openings, too.
func TestPowerGoesWithinOpen(t *testing.T) {
	r := rand.New(rand.NewSource(3))
	cut := 0
	for _, x := range scenes(t) {
		for range 400 {
			d := x.disk.Copy()
			s := opened(t, d)
			d.Power(1 + r.Intn(5))
			if x.call(s) == api.OK {
				continue
			}
			crash := func() {
				d.Crash([]uint8{uint8(r.Intn(256)), uint8(r.Intn(256)), uint8(r.Intn(256))})
			}
			crash()
			var first *Slots // once one was opened, no opening changes anything
			var held *thing
			for round := range 4 {
				d.Power(1 + r.Intn(3))
				o, e := Open(d)
				d.Power(0)
				if e != api.OK {
					if e != api.ErrPower || o != nil {
						t.Fatalf("P12.1: Open without power: %v, %v", o, e)
					}
					cut++
					crash()
					continue
				}
				now := x.left(t, o, x.name)
				if first == nil {
					first, held = o, now
				}
				if held != now {
					t.Fatalf("P12.2: %s: opening %d changed a slot", x.name, round)
				}
			}
			o := opened(t, d)
			x.clean(t, d, x.left(t, o, x.name), x.name)
			x.goesOn(t, d, o, x.name)
		}
	}
	if cut == 0 {
		t.Error("no opening was cut off")
	}
}

// A Make that is cut off leaves each slot as it was, or empty.
func TestPowerGoesWithinMake(t *testing.T) {
	r := rand.New(rand.NewSource(4))
	for _, puts := range []int{4, 5, 255, 256, 257} {
		full, s := made(t)
		m, wrapped := map[int]thing{}, map[int][wrappedSize]byte{}
		for n := range puts {
			i := n * 7 % 19
			m[i] = thing{keyOf(n + 1), keyOf(n + 2)}
			wrapped[i] = seal.Wrap(m[i].kek, uint32(i), uint64(n+1), m[i].key)
			put(t, s, i, m[i].kek, m[i].key)
		}
		for at := 1; ; at++ {
			d := full.Copy()
			d.Power(at)
			o, e := Make(d)
			if e == api.OK {
				break
			}
			if e != api.ErrPower || o != nil {
				t.Fatalf("P12.1: Make, cut off: %v, %v", o, e)
			}
			for n := range 12 {
				c := d.Copy()
				choices := make([]uint8, 30)
				for i := range choices {
					choices[i] = []uint8{0, 255, uint8(r.Intn(256)), 48 + uint8(r.Intn(16))}[(n/4+r.Intn(4))%4]
				}
				c.Crash(choices)
				now := opened(t, c)
				left := map[int]thing{}
				for _, i := range now.Used() {
					left[i] = m[i]
				}
				holds(t, now, left)
				noneElse(t, c, wrapped, left)
				put(t, now, 20, keyOf(1), keyOf(2))
				if !stands(c, 20, keyOf(1), 1, keyOf(2)) && !stands(c, 20, keyOf(1), uint64(puts+1), keyOf(2)) {
					t.Fatalf("P12.1: behind a Make, cut off at step %d, the next gen isn't due", at)
				}
				left[20] = thing{keyOf(1), keyOf(2)}
				c.Crash(nil)
				holds(t, opened(t, c), left)
				if o, e := Make(c); e != api.OK || len(o.Used()) != 0 {
					t.Fatalf("P12.1: Make again: %v", e)
				}
			}
		}
	}
}

// noneElse tells whether the disk has nothing of those keys that aren't held any more.
func noneElse(t *testing.T, d *sector.Disk, wrapped map[int][wrappedSize]byte, left map[int]thing) {
	t.Helper()
	image := d.Image()
	for i, w := range wrapped {
		if _, ok := left[i]; ok {
			continue
		}
		for from := 0; from+4 <= len(w); from++ {
			if bytes.Contains(image, w[from:][:4]) {
				t.Fatalf("P12.4: some of the key of slot %d is there still", i)
			}
		}
	}
}

func TestLongLives(t *testing.T) {
	r := rand.New(rand.NewSource(5))
	for round := range 120 {
		d, s := made(t)
		m := map[int]thing{}
		for range 60 {
			i := r.Intn(4) * 7
			new := thing{keyOf(r.Intn(4)), keyOf(r.Intn(200))}
			isPut := r.Intn(3) > 0
			if r.Intn(2) == 0 {
				d.Power(1 + r.Intn(7))
			}
			var e api.Errno
			if isPut {
				e = s.Put(i, new.kek, new.key)
			} else {
				e = s.Erase(i)
			}
			d.Power(0)
			if e == api.OK {
				if m[i] = new; !isPut {
					delete(m, i)
				}
				holds(t, s, m)
				continue
			}
			holds(t, s, m)
			d.Crash([]uint8{uint8(r.Intn(256)), uint8(r.Intn(256))})
			s = opened(t, d)
			was, had := m[i]
			switch {
			case isPut && sameThing(s, i, &new):
				m[i] = new
			case had && sameThing(s, i, &was):
			case sameThing(s, i, nil):
				delete(m, i)
			default:
				t.Fatalf("P12.2: round %d: slot %d holds something else", round, i)
			}
			holds(t, s, m)
		}
	}
}

// No two keys are wrapped with one gen, crashes or not: whoever saw the disk at both times would learn of them by it.
func TestNoGenComesAgain(t *testing.T) {
	r := rand.New(rand.NewSource(6))
	for range 60 {
		d, s := made(t)
		taken := map[uint64]int{}
		for n := 1; n <= 30; n++ {
			if r.Intn(2) == 0 {
				d.Power(1 + r.Intn(7))
			}
			e := s.Put(0, keyOf(1), keyOf(n))
			d.Power(0)
			all := d.Copy() // what may stand there, if all is left
			all.Crash(bytes.Repeat([]byte{255}, 4))
			for gen := range uint64(n + 1) {
				if !stands(all, 0, keyOf(1), gen, keyOf(n)) {
					continue
				}
				if taken[gen] != 0 {
					t.Fatalf("gen %d of key %d was that of key %d", gen, n, taken[gen])
				}
				taken[gen] = n
			}
			if e != api.OK {
				d.Crash([]uint8{uint8(r.Intn(256)), uint8(r.Intn(256))})
				s = opened(t, d)
			}
		}
	}
}
