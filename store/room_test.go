package store

import (
	"fmt"
	"maps"
	"math/rand"
	"testing"

	"sacristy/api"
)

// promised tells whether P10.3 promises room.
func promised(pages int, ahead, behind model) bool {
	return 2*(len(ahead.pairs)+len(behind.pairs)+ahead.snapped())+40 <= pages
}

// TestNoRoomChangesNothing: P10.1: disks of each small size are filled: what finds no room is told, changes nothing, also of a batch whose first writes have room, and all goes on.
func TestNoRoomChangesNothing(t *testing.T) {
	for pages := 4; pages < 20; pages++ {
		d, s := made(t, pages)
		m := newModel()
		full := 0
		for i := range 2 * pages {
			next := m.copied()
			l := []api.Write{put(longKey(i), longVal('v')), put(longKey(i+1000), "w"), put(longKey(i+500), longVal('u'))}
			next.do(l)
			switch e := s.Do(l); e {
			case api.OK:
				m = next
			case api.ErrSpace:
				full++
			default:
				t.Fatalf("P10.1: %v", e)
			}
			holds(t, "P10.1", s, m)
			if i%3 == 0 {
				s = opened(t, d)
				holds(t, "P10.1", s, m)
			}
		}
		if full == 0 {
			t.Errorf("P10.1: %d pages are never full", pages)
		}
		// A snapshot needs no page, and neither does its drop.
		snap(t, s, "s")
		m.snaps["s"] = maps.Clone(m.pairs)
		holds(t, "P10.2", s, m)
		if e := s.Drop("s"); e != api.OK {
			t.Errorf("P10.2: Drop of a full store: %v", e)
		}
		delete(m.snaps, "s")
		holds(t, "P10.2", s, m)
	}
}

// TestRoomWithinTheBound: P10.3: rows of calls with the greatest pairs, and others, on disks of many sizes, from the least that there is any promise of.
func TestRoomWithinTheBound(t *testing.T) {
	r := rand.New(rand.NewSource(103))
	within := 0
	for round := range 60 {
		pages := 40 + r.Intn(30)
		if round%2 == 0 {
			pages = 40 + r.Intn(361)
		}
		_, s := made(t, pages)
		m := newModel()
		keys := 1 + r.Intn(pages/4)
		for range 20 {
			next := m.copied()
			e, want := play(r, s, next, keys, longKey)
			if e == api.ErrSpace && promised(pages, m, next) {
				t.Fatalf("P10.3: %d pages; %d pairs, then %d, and %d in snapshots: %v", pages, len(m.pairs), len(next.pairs), m.snapped(), e)
			}
			if promised(pages, m, next) {
				within++
			}
			if e == want {
				m = next
			} else if e != api.ErrSpace {
				t.Fatalf("P10.3: %v, want %v", e, want)
			}
			if said(s) != m.said() {
				t.Fatalf("P10.3: it has %s, want %s", said(s), m.said())
			}
			samePages(t, s)
		}
	}
	if within < 100 {
		t.Errorf("only %d calls were within the bound", within)
	}
}

// TestRoomAtTheBound: P10.3: a store that has just as many pages as the promise asks for, its leaves with as few pairs as there can be, in trees that share nothing.
func TestRoomAtTheBound(t *testing.T) {
	for pairs := 0; pairs <= 30; pairs += 3 {
		for snaps := range api.MaxSnaps + 1 {
			pages := 2*(2*pairs+snaps*pairs) + 40
			if pages > api.MaxPages {
				continue
			}
			d, s := made(t, pages)
			m := newModel()
			for turn := range snaps + 1 {
				// All leaves are others than those of the snapshot ahead of it.
				for i := range pairs {
					l := []api.Write{put(longKey(i), longVal(rune('a'+turn)))}
					do(t, s, l...)
					m.do(l)
				}
				if turn < snaps {
					name := fmt.Sprint(turn)
					snap(t, s, name)
					m.snaps[name] = maps.Clone(m.pairs)
				}
			}
			for _, l := range batchesOf(pairs) {
				next := m.copied()
				next.do(l)
				if !promised(pages, m, next) {
					continue
				}
				c := d.Copy()
				s := opened(t, c)
				if e := s.Do(l); e != api.OK {
					t.Fatalf("P10.3: %d pages; %d pairs, then %d, and %d in snapshots: %v", pages, len(m.pairs), len(next.pairs), m.snapped(), e)
				}
				holds(t, "P10.3", s, next)
			}
		}
	}
}

// batchesOf are batches that leave a store of that many pairs with no more of them.
func batchesOf(pairs int) [][]api.Write {
	all := func(w func(i int) api.Write) []api.Write {
		var l []api.Write
		for i := range min(pairs, api.MaxBatch) {
			l = append(l, w(i))
		}
		return l
	}
	// As many more as can go again within the batch.
	var more []api.Write
	for i := range api.MaxBatch / 2 {
		more = append(more, put(longKey(100+i), longVal('m')))
	}
	for i := range api.MaxBatch / 2 {
		more = append(more, gone(longKey(100+i)))
	}
	between := make([]api.Write, 0, api.MaxBatch)
	for i := range api.MaxBatch / 2 {
		between = append(between, put(longKey(i)[:59], longVal('m')), gone(longKey(i)[:59]))
	}
	l := [][]api.Write{more, between}
	if pairs > 0 {
		l = append(l,
			all(func(i int) api.Write { return put(longKey(i), longVal('z')) }),
			all(func(i int) api.Write { return put(longKey(pairs-1-i), longVal('y')) }),
			all(func(i int) api.Write { return gone(longKey(i)) }),
			all(func(i int) api.Write { return gone(longKey(i * 7 % pairs)) }),
		)
	}
	return l
}

// TestRoomForWhatGoesAgain: pairs that come and go within a batch ask for no room, whatever the trees on the way would ask for.
func TestRoomForWhatGoesAgain(t *testing.T) {
	for pages := 6; pages < 16; pages++ {
		d, s := made(t, pages)
		m := newModel()
		first := []api.Write{put("a", "1"), put("b", "2")}
		do(t, s, first...)
		m.do(first)
		snap(t, s, "s")
		m.snaps["s"] = maps.Clone(m.pairs)
		var l []api.Write
		for i := range 19 {
			l = append(l, put(longKey(i), longVal('v')))
		}
		l = append(l, put("a", "3"), gone("b"))
		for i := range 19 {
			l = append(l, gone(longKey(i)))
		}
		do(t, s, l...)
		m.do(l)
		holds(t, "P10.1", s, m)
		holds(t, "P10.1", opened(t, d), m)
	}
}
