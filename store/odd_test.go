package store

import (
	"fmt"
	"slices"
	"testing"

	"sacristy/api"
	"sacristy/node"
	"sacristy/pager"
	"sacristy/sector"
)

// spoil changes a page on the disk.
func spoil(d *sector.Disk, page uint32) {
	d.Write(32+8*int(page)+1, []byte("changed"))
	d.Flush()
}

// TestPageThatCantBeRead: the pager's error, where one can be told, and nothing is changed; the store is opened all the same, and read elsewhere.
func TestPageThatCantBeRead(t *testing.T) {
	d, s := made(t, 60)
	for i := range 6 {
		do(t, s, put(longKey(i), longVal('v')))
	}
	snap(t, s, "s", "t")
	used, _ := s.Pages()
	met := 0
	for _, page := range used {
		c := d.Copy()
		spoil(c, page)
		s := opened(t, c)
		for i := range 6 {
			v, had, e := s.GetAt("s", longKey(i))
			live, liveHad := s.Get(longKey(i))
			switch {
			case e == api.OK && v == longVal('v') && had && live == v && liveHad:
			case e == api.ErrSeal && v == "" && !had && live == "" && !liveHad:
				met++
			default:
				t.Fatalf("page %d: %q, %v, %v; %q, %v", page, v, had, e, live, liveHad)
			}
		}
		if l, e := s.ScanAt("s", "", "", 99); e != api.ErrSeal || len(l) != 0 {
			t.Errorf("page %d: ScanAt: %v, %v", page, l, e)
		}
		for _, e := range []api.Errno{s.Do([]api.Write{put("a", "1")}), s.Drop("s"), s.Do([]api.Write{put(longKey(3), "1"), put(longKey(0), "1")})} {
			if e != api.ErrSeal {
				t.Errorf("page %d: %v", page, e)
			}
		}
		if s.Dead() || !slices.Equal(s.Names(), []string{"s", "t"}) {
			t.Errorf("page %d: %v", page, s.Names())
		}
		if now, _ := s.Pages(); !slices.Equal(now, used) {
			t.Errorf("page %d: %v are used, want %v", page, now, used)
		}
	}
	if met == 0 {
		t.Error("no page was missed")
	}
}

// TestPageThatWentBadSince: of a store that is open, a change that doesn't need the page is done; one that does changes nothing.
func TestPageThatWentBadSince(t *testing.T) {
	d, s := made(t, 60)
	do(t, s, put("a", "1"))
	snap(t, s, "s")
	used, _ := s.Pages()
	do(t, s, put("a", "2"))
	spoil(d, used[0])
	for range 2 {
		if e := s.Drop("s"); e != api.ErrSeal {
			t.Errorf("Drop: %v", e)
		}
		if _, _, e := s.GetAt("s", "a"); e != api.ErrSeal {
			t.Errorf("GetAt: %v", e)
		}
		if !slices.Equal(s.Names(), []string{"s"}) || s.Dead() {
			t.Errorf("%v", s.Names())
		}
	}
	do(t, s, put("a", "3"), put("b", "4"))
	if l := fmt.Sprintf("%q", s.Scan("", "", 9)); l != `[{"a" "3"} {"b" "4"}]` {
		t.Errorf("P10.1: %s", l)
	}
}

// TestErrorsDontHangOnMaps: of several pages that can't be read each another way the same is told each time.
func TestErrorsDontHangOnMaps(t *testing.T) {
	told := map[api.Errno]int{}
	for range 30 {
		d := diskOf(20)
		p, e := pager.Format(d, testKey)
		if e != api.OK {
			t.Fatal(e)
		}
		meta := ""
		for i, b := range []string{"\x01\x00\x00", "no node", "\x01\x00\x00", "no node"} {
			page, _ := p.Alloc()
			p.Write(page, []byte(b))
			meta += string([]byte{0, 1, byte('a' + i), 0, 0, 0, byte(page + 1)})
		}
		if e := p.Commit(0, meta); e != api.OK {
			t.Fatal(e)
		}
		spoil(d, 0)
		spoil(d, 2)
		told[opened(t, d).Do([]api.Write{put("a", "1")})]++
	}
	if len(told) != 1 {
		t.Errorf("%v", told)
	}
}

// TestOddPages: pages that no store wrote, by its key: rings, ladders, none: all calls come back.
func TestOddPages(t *testing.T) {
	branch := func(kids ...uint32) []byte {
		var keys []string
		for i := range len(kids) - 1 {
			keys = append(keys, fmt.Sprintf("k%02d", i))
		}
		b, e := node.Branch(keys, kids)
		if e != api.OK {
			t.Fatal(e)
		}
		return b
	}
	leaf, _ := node.Leaf([]api.Pair{{Key: "a", Val: "1"}})
	var ladder [][]byte
	for i := range uint32(18) {
		ladder = append(ladder, branch(i+1, i+1))
	}
	for i, pages := range [][][]byte{
		{branch(0, 0)},
		{branch(0, 1), branch(0, 1)},
		{branch(1, 2), branch(2, 0), leaf},
		{branch(1, 1), leaf},
		{branch(1, 7), leaf},
		{branch(1, 4000000000), leaf},
		{[]byte("no node")},
		{nil},
		{branch(1, 2), leaf, []byte("no node")},
		append(slices.Clone(ladder), leaf),
		append(slices.Clone(ladder), branch(0, 9)),
	} {
		for _, live := range []uint32{0, 1, 2, 21, 4294967295} {
			for _, snapshot := range []byte{0, 1, 2, 200} {
				d := diskOf(20)
				p, e := pager.Format(d, testKey)
				if e != api.OK {
					t.Fatal(e)
				}
				for _, b := range pages {
					page, _ := p.Alloc()
					p.Write(page, b)
				}
				if e := p.Commit(live, "\x00\x01s\x00\x00\x00"+string([]byte{snapshot})); e != api.OK {
					t.Fatal(e)
				}
				s := opened(t, d)
				l := []api.Errno{s.Do([]api.Write{put("a", "2"), gone("k05")}), s.Snap("t"), s.Drop("s"), s.Do([]api.Write{gone("a")}), s.Drop("t")}
				for _, e := range l {
					if !slices.Contains([]api.Errno{api.OK, api.ErrTree, api.ErrPage, api.ErrSpace, api.ErrNone, api.ErrLong}, e) {
						t.Errorf("row %d, %d, %d: %v", i, live, snapshot, l)
					}
				}
				said(s)
				s.Len()
				s.Pages()
				s.Get("a")
			}
		}
	}
}
