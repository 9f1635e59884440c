package slots

import (
	"bytes"
	"math/rand"
	"testing"

	"sacristy/api"
	"sacristy/sector"
)

// life: some calls, crashes and openings; what slot mid is given is secret, and unlike in unlike worlds.
type life struct {
	disk  *sector.Disk
	slots *Slots
	world int
}

func (l *life) secret(n int) api.Key {
	return keyOf(1000*l.world + n)
}

// live leads a life by numbers alone: two worlds that are given the same ones do the same.
func (l *life) live(t *testing.T, r *rand.Rand, calls int) {
	t.Helper()
	for range calls {
		i, kek, key, put := []int{mid, mid, 3, 5}[r.Intn(4)], r.Intn(4), r.Intn(90), r.Intn(3) > 0
		power, choices := r.Intn(12), []uint8{uint8(r.Intn(256)), uint8(r.Intn(256)), 255}
		d := l.disk
		d.Power(power)
		var e api.Errno
		switch {
		case put && i == mid:
			e = l.slots.Put(i, l.secret(kek), l.secret(100+key))
		case put:
			e = l.slots.Put(i, keyOf(kek), keyOf(100+key))
		default:
			e = l.slots.Erase(i)
		}
		d.Power(0)
		if e != api.OK {
			d.Crash(choices)
			l.slots = opened(t, d)
		}
	}
}

func worldOf(t *testing.T, world int) *life {
	t.Helper()
	d, s := made(t)
	return &life{d, s, world}
}

func TestImageTellsNothingOfWhatWas(t *testing.T) {
	for seed := range int64(150) {
		var images [3][4][]byte
		for world := range images {
			l := worldOf(t, world)
			r := rand.New(rand.NewSource(seed))
			l.live(t, r, 1+int(seed)%25)
			put(t, l.slots, mid, keyOf(1), keyOf(2))
			images[world][0] = l.disk.Image()
			l.live(t, r, 5)
			erase(t, l.slots, mid)
			images[world][1] = l.disk.Image()
			l.slots = opened(t, l.disk)
			put(t, l.slots, 3, keyOf(1), keyOf(2))
			images[world][2] = l.disk.Image()
			put(t, l.slots, mid, keyOf(3), keyOf(4))
			erase(t, l.slots, mid)
			images[world][3] = l.disk.Image()
		}
		for world := range images {
			for n, image := range images[world] {
				if !bytes.Equal(image, images[0][n]) {
					t.Fatalf("P12.3: life %d: image %d tells which keys slot %d held", seed, n, mid)
				}
			}
		}
	}
}

// The keys alone, the keys that wrap them alone: neither is told.
func TestImageTellsNeitherKeyNorKek(t *testing.T) {
	image := func(kek, key int, last func(s *Slots)) []byte {
		d, s := made(t)
		put(t, s, mid, keyOf(kek), keyOf(key))
		last(s)
		return d.Image()
	}
	for name, last := range map[string]func(s *Slots){
		"Put":   func(s *Slots) { put(t, s, mid, keyOf(1), keyOf(2)) },
		"Erase": func(s *Slots) { erase(t, s, mid) },
	} {
		was := image(10, 20, last)
		if !bytes.Equal(was, image(11, 20, last)) || !bytes.Equal(was, image(10, 21, last)) {
			t.Errorf("P12.3: behind %s the image tells of what was there", name)
		}
	}
}

// What is in a slot is told by its wrapped key alone: neither the key nor the one that wraps it is there.
func TestImageHasNoKeyPlain(t *testing.T) {
	d, s := made(t)
	for i := range api.MaxSlots {
		put(t, s, i, keyOf(i), keyOf(100+i))
	}
	for i := range api.MaxSlots {
		for _, k := range []api.Key{keyOf(i), keyOf(100 + i)} {
			for from := 0; from+4 <= len(k); from++ {
				if bytes.Contains(d.Image(), k[from:][:4]) {
					t.Fatalf("some of a key of slot %d stands there plain", i)
				}
			}
		}
	}
}

// An erased slot stands there as one that was never used, but for the count of the Puts.
func TestErasedIsAsNeverUsed(t *testing.T) {
	for i := range api.MaxSlots {
		d, s := made(t)
		put(t, s, i, keyOf(1), keyOf(2))
		erase(t, s, i)
		o, other := made(t)
		n := (i + 1) % api.MaxSlots
		put(t, other, n, keyOf(3), keyOf(4))
		erase(t, other, n)
		if !bytes.Equal(d.Image(), o.Image()) {
			t.Errorf("P12.4: slot %d can be told from one that was never used", i)
		}
	}
}
