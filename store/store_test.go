package store

import (
	"fmt"
	"maps"
	"math"
	"math/rand"
	"slices"
	"strings"
	"testing"

	"sacristy/api"
	"sacristy/pager"
	"sacristy/sector"
)

var testKey = api.Key{10, 1}

func diskOf(pages int) *sector.Disk {
	return sector.New(32 + 8*pages)
}

func made(t *testing.T, pages int) (*sector.Disk, *Store) {
	t.Helper()
	d := diskOf(pages)
	s, e := Make(d, testKey)
	if e != api.OK {
		t.Fatal(e)
	}
	return d, s
}

func opened(t *testing.T, d *sector.Disk) *Store {
	t.Helper()
	s, e := Open(d, testKey)
	if e != api.OK {
		t.Fatalf("P10.1: Open: %v", e)
	}
	return s
}

func put(key, val string) api.Write { return api.Write{Key: key, Val: val} }

func gone(key string) api.Write { return api.Write{Key: key, Drop: true} }

func do(t *testing.T, s *Store, l ...api.Write) {
	t.Helper()
	if e := s.Do(l); e != api.OK {
		t.Fatalf("P10.1: Do: %v", e)
	}
}

func snap(t *testing.T, s *Store, names ...string) {
	t.Helper()
	for _, name := range names {
		if e := s.Snap(name); e != api.OK {
			t.Fatalf("P10.2: Snap(%q): %v", name, e)
		}
	}
}

// model: a store as maps.
type model struct {
	pairs map[string]string
	snaps map[string]map[string]string
}

func newModel() model {
	return model{pairs: map[string]string{}, snaps: map[string]map[string]string{}}
}

func (m model) copied() model {
	return model{pairs: maps.Clone(m.pairs), snaps: maps.Clone(m.snaps)}
}

func (m model) do(l []api.Write) {
	for _, w := range l {
		if delete(m.pairs, w.Key); !w.Drop {
			m.pairs[w.Key] = w.Val
		}
	}
}

func (m model) snapped() int {
	n := 0
	for _, pairs := range m.snaps {
		n += len(pairs)
	}
	return n
}

func listOf(m map[string]string, from, to string, most int) []api.Pair {
	var l []api.Pair
	for _, k := range slices.Sorted(maps.Keys(m)) {
		if k >= from && (to == "" || k < to) && len(l) < most {
			l = append(l, api.Pair{Key: k, Val: m[k]})
		}
	}
	return l
}

// said is all that a store's reads tell.
func said(s *Store) string {
	l := fmt.Sprintf("%q", s.Scan("", "", math.MaxInt))
	for _, name := range s.Names() {
		at, e := s.ScanAt(name, "", "", math.MaxInt)
		l += fmt.Sprintf("; %s %q %v", name, at, e)
	}
	return l
}

func (m model) said() string {
	l := fmt.Sprintf("%q", listOf(m.pairs, "", "", math.MaxInt))
	for _, name := range slices.Sorted(maps.Keys(m.snaps)) {
		l += fmt.Sprintf("; %s %q %v", name, listOf(m.snaps[name], "", "", math.MaxInt), api.OK)
	}
	return l
}

// samePages: P10.4, also of what the pager says, and of the pages gone through another way.
func samePages(t *testing.T, s *Store) {
	t.Helper()
	used, reached := s.Pages()
	if !slices.Equal(used, reached) {
		t.Fatalf("P10.4: used %v, reached %v", used, reached)
	}
	if !slices.Equal(used, s.now.pager.Used()) {
		t.Fatalf("P10.4: used %v, of the pager %v", used, s.now.pager.Used())
	}
	if l := walked(t, s); !slices.Equal(reached, l) {
		t.Fatalf("P10.4: reached %v, gone through %v", reached, l)
	}
}

// walked goes from the roots down by the pages' bytes.
func walked(t *testing.T, s *Store) []uint32 {
	t.Helper()
	seen := map[uint32]bool{}
	var todo []uint32
	add := func(page uint32) {
		if !seen[page] {
			seen[page] = true
			todo = append(todo, page)
		}
	}
	for _, r := range append(slices.Collect(maps.Values(s.now.trees.snaps)), s.now.trees.live) {
		if r != none {
			add(uint32(r) - 1)
		}
	}
	for ; len(todo) > 0; todo = todo[1:] {
		b, e := s.now.pager.Read(todo[0])
		if e != api.OK {
			t.Fatalf("P10.4: page %d: %v", todo[0], e)
		}
		if b[0] != 2 {
			continue
		}
		keys := int(b[1])*256 + int(b[2])
		for at := len(b) - 4*(keys+1); at < len(b); at += 4 {
			add(uint32(b[at])<<24 | uint32(b[at+1])<<16 | uint32(b[at+2])<<8 | uint32(b[at+3]))
		}
	}
	return slices.Sorted(maps.Keys(seen))
}

// holds asks all that a store can be asked.
func holds(t *testing.T, promise string, s *Store, m model) {
	t.Helper()
	if said(s) != m.said() {
		t.Fatalf("%s: it has %s, want %s", promise, said(s), m.said())
	}
	if s.Len() != len(m.pairs) {
		t.Fatalf("%s: Len %d, want %d", promise, s.Len(), len(m.pairs))
	}
	for k, val := range m.pairs {
		if got, had := s.Get(k); got != val || !had {
			t.Fatalf("%s: Get(%q) is %q, %v, want %q", promise, k, got, had, val)
		}
	}
	for name, pairs := range m.snaps {
		for k, val := range pairs {
			if got, had, e := s.GetAt(name, k); got != val || !had || e != api.OK {
				t.Fatalf("%s: GetAt(%s, %q) is %q, %v, %v, want %q", promise, name, k, got, had, e, val)
			}
		}
	}
	if s.Dead() {
		t.Fatalf("%s: dead", promise)
	}
	samePages(t, s)
}

func longKey(i int) string { return fmt.Sprintf("%060d", i) }

func longVal(c rune) string { return strings.Repeat(string(c), api.MaxVal) }

// TestMakeIsEmpty: P10.1: of the least disk, of one with more sectors than pages, over whatever there was.
func TestMakeIsEmpty(t *testing.T) {
	for _, sectors := range []int{64, 71, 72, 32 + 8*400, 4000} {
		d := sector.New(sectors)
		for _, k := range []api.Key{{1}, {1}, {2}, {1}} {
			s, e := Make(d, k)
			if e != api.OK {
				t.Fatalf("P10.1: %d sectors: %v", sectors, e)
			}
			holds(t, "P10.1", s, newModel())
			if v, had := s.Get("a"); v != "" || had {
				t.Errorf("P10.1: Get of an empty store: %q, %v", v, had)
			}
			if s, e = Open(d, k); e != api.OK {
				t.Fatalf("P10.1: Open of %d sectors: %v", sectors, e)
			}
			holds(t, "P10.1", s, newModel())
			do(t, s, put("a", "1"))
			snap(t, s, "s")
		}
	}
}

// TestMakeAndOpenErrors: P10.1: those of pager's.
func TestMakeAndOpenErrors(t *testing.T) {
	refused := func(what string, s *Store, e, want api.Errno) {
		t.Helper()
		if s != nil || e != want {
			t.Errorf("P10.1: %s: %v, %v, want %v", what, s, e, want)
		}
	}
	for _, sectors := range []int{0, 31, 32, 63} {
		s, e := Make(sector.New(sectors), testKey)
		refused("Make of a small disk", s, e, api.ErrSpace)
		s, e = Open(sector.New(sectors), testKey)
		refused("Open of a small disk", s, e, api.ErrSuper)
	}
	d := diskOf(20)
	s, e := Open(d, testKey)
	refused("Open of a disk without a store", s, e, api.ErrSuper)
	d.Power(1)
	s, e = Make(d, testKey)
	refused("Make without power", s, e, api.ErrPower)
	d.Crash(nil)
	if s, e = Make(d, testKey); e != api.OK {
		t.Fatal(e)
	}
	do(t, s, put("a", "1"))
	s, e = Open(d, api.Key{11})
	refused("Open by another key", s, e, api.ErrSuper)
	d.Power(1)
	d.Flush()
	s, e = Open(d, testKey)
	refused("Open without power", s, e, api.ErrPower)
	d.Crash(nil)
	if v, had := opened(t, d).Get("a"); v != "1" || !had {
		t.Errorf("P10.1: behind that: %q, %v", v, had)
	}
}

// TestOpenOfSomebodyElsesPages: a pager's disk whose meta isn't a store's has no store.
func TestOpenOfSomebodyElsesPages(t *testing.T) {
	entry := func(name string) string { return string([]byte{0, byte(len(name))}) + name + "\x00\x00\x00\x00" }
	five := ""
	for _, name := range []string{"a", "b", "c", "d", "e"} {
		five += entry(name)
	}
	for _, x := range []struct {
		meta string
		want api.Errno
	}{
		{"", api.OK},
		{entry("a"), api.OK},
		{entry("a") + entry("b"), api.OK},
		{five[:4*len(entry("a"))], api.OK},
		{entry("0123456789"), api.OK},
		{"x", api.ErrSuper},
		{"hello", api.ErrSuper},
		{"\x00", api.ErrSuper},
		{entry(""), api.ErrSuper},
		{entry("A"), api.ErrSuper},
		{entry("01234567890"), api.ErrSuper},
		{entry("b") + entry("a"), api.ErrSuper},
		{entry("a") + entry("a"), api.ErrSuper},
		{entry("a")[:6], api.ErrSuper},
		{entry("a") + "\x00", api.ErrSuper},
		{five, api.ErrSuper},
	} {
		d := diskOf(20)
		p, e := pager.Format(d, testKey)
		if e != api.OK {
			t.Fatal(e)
		}
		if e := p.Commit(0, x.meta); e != api.OK {
			t.Fatal(e)
		}
		s, e := Open(d, testKey)
		if e != x.want || (s == nil) != (e != api.OK) {
			t.Errorf("P10.1: %q: %v, want %v", x.meta, e, x.want)
		}
	}
}

// TestBatchForm: P10.1: the edges of a batch, a wrong write at each place of it, and that nothing is done with ErrForm.
func TestBatchForm(t *testing.T) {
	text := func(n int) string { return strings.Repeat("x", n) }
	writes := func(n int) []api.Write {
		var l []api.Write
		for i := range n {
			l = append(l, put(fmt.Sprint("k", i), "v"))
		}
		return l
	}
	type row struct {
		l    []api.Write
		want api.Errno
	}
	rows := []row{
		{nil, api.ErrForm},
		{[]api.Write{}, api.ErrForm},
		{writes(1), api.OK},
		{writes(40), api.OK},
		{writes(41), api.ErrForm},
		{writes(5000), api.ErrForm},
		{[]api.Write{put("", "v")}, api.ErrForm},
		{[]api.Write{gone("")}, api.ErrForm},
		{[]api.Write{put("\x00", "")}, api.OK},
		{[]api.Write{put("\xff\xfe", "\x00")}, api.OK},
		{[]api.Write{put(text(60), text(150))}, api.OK},
		{[]api.Write{put(text(61), "v")}, api.ErrForm},
		{[]api.Write{gone(text(60))}, api.OK},
		{[]api.Write{gone(text(61))}, api.ErrForm},
		{[]api.Write{put("a", text(151))}, api.ErrForm},
		{[]api.Write{{Key: "a", Val: "v", Drop: true}}, api.ErrForm},
		{[]api.Write{put("a", text(70000))}, api.ErrForm},
		{[]api.Write{put(text(70000), "")}, api.ErrForm},
	}
	for _, wrong := range []api.Write{put("", ""), put(text(61), ""), put("a", text(151)), {Key: "a", Val: "v", Drop: true}} {
		for at := range 40 {
			l := writes(40)
			l[at] = wrong
			rows = append(rows, row{l, api.ErrForm})
		}
	}
	d, s := made(t, 200)
	m := newModel()
	for i, x := range rows {
		steps := d.Steps()
		if e := s.Do(x.l); e != x.want {
			t.Fatalf("P10.1: row %d: %v, want %v", i, e, x.want)
		}
		if x.want == api.OK {
			m.do(x.l)
		} else if d.Steps() != steps {
			t.Fatalf("P10.1: row %d: a step was made", i)
		}
		if x.want == api.OK || i%20 == 0 {
			holds(t, "P10.1", s, m)
		}
	}
	holds(t, "P10.1", opened(t, d), m)
}

// TestBatchInOrder: P10.1: the later write of a key counts.
func TestBatchInOrder(t *testing.T) {
	for i, x := range []struct {
		l    []api.Write
		want string
	}{
		{[]api.Write{put("a", "1"), put("a", "2")}, `[{"a" "2"} {"b" "0"}]`},
		{[]api.Write{put("a", "1"), gone("a")}, `[{"b" "0"}]`},
		{[]api.Write{gone("a"), put("a", "1")}, `[{"a" "1"} {"b" "0"}]`},
		{[]api.Write{put("b", "1"), gone("b"), put("b", "2"), gone("b")}, `[]`},
		{[]api.Write{gone("b"), put("b", ""), put("c", "3")}, `[{"b" ""} {"c" "3"}]`},
		{[]api.Write{gone("c"), gone("c")}, `[{"b" "0"}]`},
		{[]api.Write{gone("b"), gone("b")}, `[]`},
	} {
		d, s := made(t, 20)
		do(t, s, put("b", "0"))
		do(t, s, x.l...)
		for _, s := range []*Store{s, opened(t, d)} {
			if got := fmt.Sprintf("%q", s.Scan("", "", 9)); got != x.want {
				t.Errorf("P10.1: row %d: %s, want %s", i, got, x.want)
			}
			samePages(t, s)
		}
	}
}

// TestScan: P10.1, P10.2: as tree's, of the store and of a snapshot.
func TestScan(t *testing.T) {
	_, s := made(t, 200)
	m := newModel()
	for i := range 30 {
		l := []api.Write{put(fmt.Sprintf("k%02d", 2*i), strings.Repeat("v", i*5))}
		do(t, s, l...)
		m.do(l)
	}
	snap(t, s, "s")
	then := maps.Clone(m.pairs)
	l := []api.Write{gone("k00"), gone("k10"), put("k11", "new"), put("k58", "")}
	do(t, s, l...)
	m.do(l)
	ends := []string{"", "a", "k", "k00", "k09", "k10", "k11", "k12", "k58", "k59", "z"}
	for _, from := range ends {
		for _, to := range ends {
			for _, most := range []int{math.MinInt, -1, 0, 1, 2, 7, 29, 30, 31, math.MaxInt} {
				if got := s.Scan(from, to, most); !slices.Equal(got, listOf(m.pairs, from, to, most)) {
					t.Fatalf("P10.1: Scan(%q, %q, %d): %v", from, to, most, got)
				}
				if got, e := s.ScanAt("s", from, to, most); e != api.OK || !slices.Equal(got, listOf(then, from, to, most)) {
					t.Fatalf("P10.2: ScanAt(s, %q, %q, %d): %v, %v", from, to, most, got, e)
				}
			}
		}
	}
}

// TestReadsOfAnyKey: P10.1, P10.2: reads take all keys and names.
func TestReadsOfAnyKey(t *testing.T) {
	_, s := made(t, 20)
	do(t, s, put("a", "1"))
	snap(t, s, "s")
	for _, k := range []string{"", "b", "\x00", "aa", strings.Repeat("a", 61), strings.Repeat("a", 70000)} {
		if v, had := s.Get(k); v != "" || had {
			t.Errorf("P10.1: Get(%.9q): %q, %v", k, v, had)
		}
		if v, had, e := s.GetAt("s", k); v != "" || had || e != api.OK {
			t.Errorf("P10.2: GetAt(s, %.9q): %q, %v, %v", k, v, had, e)
		}
		if l := s.Scan(k, "", 9); len(l) > 1 {
			t.Errorf("P10.1: Scan(%.9q): %v", k, l)
		}
	}
	for _, name := range []string{"", "t", "S", "ss", "a", strings.Repeat("s", 11), "s\x00"} {
		if v, had, e := s.GetAt(name, "a"); v != "" || had || e != api.ErrNone {
			t.Errorf("P10.2: GetAt(%q): %q, %v, %v", name, v, had, e)
		}
		if l, e := s.ScanAt(name, "", "", 9); len(l) != 0 || e != api.ErrNone {
			t.Errorf("P10.2: ScanAt(%q): %v, %v", name, l, e)
		}
	}
}

// TestNamesOfSnapshots: P10.2: 1 to 10 small letters or digits.
func TestNamesOfSnapshots(t *testing.T) {
	d, s := made(t, 20)
	do(t, s, put("a", "1"))
	for _, name := range []string{"a", "z", "0", "9", "az09", "0123456789", "abcdefghij"} {
		if e := s.Drop(name); e != api.ErrNone {
			t.Errorf("P10.2: Drop(%q), which isn't there: %v", name, e)
		}
		if e := s.Snap(name); e != api.OK {
			t.Errorf("P10.2: Snap(%q): %v", name, e)
		}
		if e := s.Snap(name); e != api.ErrTwice {
			t.Errorf("P10.2: Snap(%q) again: %v", name, e)
		}
		if l := opened(t, d).Names(); !slices.Equal(l, []string{name}) {
			t.Errorf("P10.2: %q: %q", name, l)
		}
		s = opened(t, d)
		if e := s.Drop(name); e != api.OK {
			t.Errorf("P10.2: Drop(%q): %v", name, e)
		}
	}
	snap(t, s, "0", "1", "2", "3")
	wrong := []string{"", "01234567890", "A", "Z", "`", "{", "/", ":", " ", "a b", "a ", "-", "é", "\x00", "a\n", "\xff", strings.Repeat("a", 70000)}
	for _, name := range wrong {
		steps := d.Steps()
		if e := s.Snap(name); e != api.ErrForm {
			t.Errorf("P10.2: Snap(%.20q): %v", name, e)
		}
		if e := s.Drop(name); e != api.ErrForm {
			t.Errorf("P10.2: Drop(%.20q): %v", name, e)
		}
		if d.Steps() != steps {
			t.Errorf("P10.2: %.20q: a step was made", name)
		}
	}
}

// TestSnapshots: P10.2, P10.5: four, one more, twice; by their names; what they have stays.
func TestSnapshots(t *testing.T) {
	d, s := made(t, 60)
	m := newModel()
	names := []string{"z", "0", "mm", "m"}
	for i, name := range names {
		if i > 0 { // the first one is of an empty store
			l := []api.Write{put("a", fmt.Sprint(i)), put(fmt.Sprint("b", i), "x"), gone(fmt.Sprint("b", i-1))}
			do(t, s, l...)
			m.do(l)
		}
		snap(t, s, name)
		m.snaps[name] = maps.Clone(m.pairs)
		holds(t, "P10.2", s, m)
	}
	if l := s.Names(); !slices.Equal(l, []string{"0", "m", "mm", "z"}) {
		t.Errorf("P10.2: %q", l)
	}
	if v, had, e := s.GetAt("z", "a"); v != "" || had || e != api.OK {
		t.Errorf("P10.2: GetAt of an empty snapshot: %q, %v, %v", v, had, e)
	}
	for _, x := range []struct {
		got, want api.Errno
	}{
		{s.Snap("new"), api.ErrMany},
		{s.Snap("m"), api.ErrTwice},
		{s.Snap("M"), api.ErrForm},
		{s.Drop("new"), api.ErrNone},
		{s.Drop("M"), api.ErrForm},
	} {
		if x.got != x.want {
			t.Errorf("P10.2: %v, want %v", x.got, x.want)
		}
	}
	holds(t, "P10.2", s, m)
	for i, name := range []string{"mm", "z", "m", "0"} {
		l := []api.Write{put("a", fmt.Sprint("later", i)), put(longKey(i), longVal('l'))}
		do(t, s, l...)
		m.do(l)
		if i%2 == 0 {
			s = opened(t, d)
		}
		if e := s.Drop(name); e != api.OK {
			t.Errorf("P10.2: Drop(%s): %v", name, e)
		}
		delete(m.snaps, name)
		holds(t, "P10.2", s, m)
		if e := s.Drop(name); e != api.ErrNone {
			t.Errorf("P10.2: Drop(%s) again: %v", name, e)
		}
	}
	if l := s.Names(); len(l) != 0 {
		t.Errorf("P10.2: %q", l)
	}
	snap(t, s, "new")
}

// TestExample: the chapter's.
func TestExample(t *testing.T) {
	d, s := made(t, 20)
	do(t, s, put("a", "1"))
	snap(t, s, "s")
	do(t, s, put("a", "2"))
	for _, s := range []*Store{s, opened(t, d)} {
		if v, had, e := s.GetAt("s", "a"); v != "1" || !had || e != api.OK {
			t.Errorf("P10.2: %q, %v, %v", v, had, e)
		}
		if v, had := s.Get("a"); v != "2" || !had {
			t.Errorf("P10.1: %q, %v", v, had)
		}
	}
}

// play is what a row of calls does next, on a store and a model: what the store told, and what it must tell if it has room.
func play(r *rand.Rand, s *Store, m model, keys int, key func(int) string) (api.Errno, api.Errno) {
	name := string(rune('a' + r.Intn(6)))
	_, there := m.snaps[name]
	switch r.Intn(8) {
	case 0:
		switch {
		case there:
			return s.Snap(name), api.ErrTwice
		case len(m.snaps) == api.MaxSnaps:
			return s.Snap(name), api.ErrMany
		}
		m.snaps[name] = maps.Clone(m.pairs)
		return s.Snap(name), api.OK
	case 1:
		if !there {
			return s.Drop(name), api.ErrNone
		}
		delete(m.snaps, name)
		return s.Drop(name), api.OK
	}
	l := randomBatch(r, keys, key)
	m.do(l)
	return s.Do(l), api.OK
}

func randomBatch(r *rand.Rand, keys int, key func(int) string) []api.Write {
	var l []api.Write
	drops := r.Intn(4)
	from, way := r.Intn(keys), r.Intn(3)
	for i := range 1 + r.Intn(api.MaxBatch) {
		k := key(r.Intn(keys))
		if way < 2 { // rising or falling, as most batches are
			k = key((from + i*(1-2*way) + 40*keys) % keys)
		}
		if r.Intn(4) < drops {
			l = append(l, gone(k))
		} else {
			l = append(l, put(k, strings.Repeat(string(rune('a'+r.Intn(26))), r.Intn(api.MaxVal+1))))
		}
	}
	return l
}

// TestPlays: P10.1, P10.2, P10.4, P10.5: rows of calls against a model, opened again now and then.
func TestPlays(t *testing.T) {
	r := rand.New(rand.NewSource(101))
	for range 12 {
		d, s := made(t, 400)
		m := newModel()
		for range 30 {
			got, want := play(r, s, m, 25, longKey)
			if got != want {
				t.Fatalf("P10.1: %v, want %v", got, want)
			}
			if r.Intn(4) == 0 {
				d.Crash(nil)
				s = opened(t, d)
			}
			holds(t, "P10.5", s, m)
		}
	}
}

// TestManyPairs: P10.1, P10.4: small ones, many to a page.
func TestManyPairs(t *testing.T) {
	d, s := made(t, 400)
	m := newModel()
	for i := 0; i < 1200; i += api.MaxBatch {
		var l []api.Write
		for j := range api.MaxBatch {
			l = append(l, put(fmt.Sprint((i+j)*7919%10007), fmt.Sprint(i)))
		}
		do(t, s, l...)
		m.do(l)
		if i%400 == 0 {
			name := fmt.Sprint("at", i)
			snap(t, s, name)
			m.snaps[name] = maps.Clone(m.pairs)
		}
	}
	holds(t, "P10.1", s, m)
	for len(m.pairs) > 0 {
		var l []api.Write
		for _, x := range listOf(m.pairs, "", "", api.MaxBatch) {
			l = append(l, gone(x.Key))
		}
		do(t, s, l...)
		m.do(l)
	}
	holds(t, "P10.1", opened(t, d), m)
}

// TestPagesAreFreeAgain: P10.4: nothing is lost by thousands of writes, nor by snapshots that are dropped.
func TestPagesAreFreeAgain(t *testing.T) {
	_, s := made(t, 60)
	for i := range 150 {
		do(t, s, put(longKey(i%9), longVal(rune('a'+i%26))), gone(longKey((i+4)%9)))
		if name := fmt.Sprint("s", i%5); i%3 == 0 && s.Snap(name) == api.OK {
			if e := s.Drop(fmt.Sprint("s", (i+1)%5)); e != api.OK && e != api.ErrNone {
				t.Fatal(e)
			}
		}
		samePages(t, s)
	}
	for _, name := range s.Names() {
		if e := s.Drop(name); e != api.OK {
			t.Fatal(e)
		}
	}
	for i := range 9 {
		do(t, s, gone(longKey(i)))
	}
	if used, reached := s.Pages(); len(used) > 3 || !slices.Equal(used, reached) {
		t.Errorf("P10.4: an empty store has the pages %v, %v", used, reached)
	}
}

// TestMemory: what is handed in is neither changed nor kept, and no answer is touched by another.
func TestMemory(t *testing.T) {
	_, s := made(t, 60)
	room := make([]api.Write, 0, 9)
	l := append(room, put("b", "1"), put("a", "2"), gone("b"), put("c", "3"))
	was := slices.Clone(l[:9])
	do(t, s, l...)
	snap(t, s, "x", "y")
	if !slices.Equal(l[:9], was) {
		t.Errorf("what was handed in is %v", l[:9])
	}
	clear(l)
	all := said(s)
	if all != `[{"a" "2"} {"c" "3"}]; x [{"a" "2"} {"c" "3"}] error 0; y [{"a" "2"} {"c" "3"}] error 0` {
		t.Errorf("P10.1: %s", all)
	}
	spoil := func() {
		pairs := s.Scan("", "", 9)
		at, _ := s.ScanAt("x", "", "", 9)
		names := s.Names()
		used, reached := s.Pages()
		clear(pairs[:cap(pairs)])
		clear(at[:cap(at)])
		clear(names[:cap(names)])
		used = used[:cap(used)]
		for i := range used {
			used[i] = 1000
		}
		if len(reached) == 0 || slices.Contains(reached, 1000) {
			t.Errorf("P10.4: %v", reached)
		}
		clear(reached[:cap(reached)])
	}
	for range 3 {
		spoil()
		if said(s) != all {
			t.Fatalf("P10.1: behind what was done with answers: %s", said(s))
		}
		samePages(t, s)
	}
}

// TestStoreThatNobodyMade is as a dead one: its calls come back.
func TestStoreThatNobodyMade(t *testing.T) {
	s := &Store{}
	if e := s.Do([]api.Write{put("a", "1")}); e != api.ErrDead || !s.Dead() {
		t.Errorf("%v", e)
	}
	if e, f := s.Snap("s"), s.Drop("s"); e != api.ErrDead || f != api.ErrDead {
		t.Errorf("%v, %v", e, f)
	}
	used, reached := s.Pages()
	if said(s) != "[]" || s.Len() != 0 || len(used)+len(reached) != 0 {
		t.Errorf("%s", said(s))
	}
}
