package node

import (
	"bytes"
	"fmt"
	"math"
	"math/rand"
	"slices"
	"strings"
	"testing"

	"sacristy/api"
)

const most = 480

// textBytes and the two below it write nodes another way.
func textBytes(s string) string {
	return string([]byte{byte(len(s) / 256), byte(len(s) % 256)}) + s
}

func leafBytes(l []api.Pair) string {
	b := string([]byte{1, byte(len(l) / 256), byte(len(l) % 256)})
	for _, p := range l {
		b += textBytes(p.Key) + textBytes(p.Val)
	}
	return b
}

func branchBytes(keys []string, kids []uint32) string {
	b := string([]byte{2, byte(len(keys) / 256), byte(len(keys) % 256)})
	for _, k := range keys {
		b += textBytes(k)
	}
	for _, id := range kids {
		b += string([]byte{byte(id >> 24), byte(id >> 16), byte(id >> 8), byte(id)})
	}
	return b
}

// reader reads nodes another way, by a place that moves.
type reader struct {
	b   string
	bad bool
}

func (r *reader) take(n int) string {
	if r.bad || n > len(r.b) {
		r.bad = true
		return string(make([]byte, n))
	}
	s := r.b[:n]
	r.b = r.b[n:]
	return s
}

func (r *reader) text(least, most int) string {
	head := r.take(2)
	n := int(head[0])*256 + int(head[1])
	if n < least || n > most {
		r.bad = true
		return ""
	}
	return r.take(n)
}

func (r *reader) head(kind byte) int {
	r.bad = len(r.b) > most
	s := r.take(3)
	r.bad = r.bad || s[0] != kind
	return int(s[1])*256 + int(s[2])
}

func (r *reader) leaf() (l []api.Pair, ok bool) {
	for n := r.head(1); n > 0 && !r.bad; n-- {
		p := api.Pair{Key: r.text(1, 60), Val: r.text(0, 150)}
		if len(l) > 0 && strings.Compare(l[len(l)-1].Key, p.Key) >= 0 {
			r.bad = true
		}
		l = append(l, p)
	}
	return l, !r.bad && r.b == ""
}

func (r *reader) branch() (keys []string, kids []uint32, ok bool) {
	n := r.head(2)
	for i := 0; i < n && !r.bad; i++ {
		keys = append(keys, r.text(1, 60))
		if i > 0 && strings.Compare(keys[i-1], keys[i]) >= 0 {
			r.bad = true
		}
	}
	for i := 0; i <= n && !r.bad; i++ {
		s := r.take(4)
		kids = append(kids, uint32(s[0])<<24+uint32(s[1])<<16+uint32(s[2])<<8+uint32(s[3]))
	}
	return keys, kids, !r.bad && r.b == "" && n > 0
}

func pairs(texts ...string) []api.Pair {
	var l []api.Pair
	for i := 0; i < len(texts); i += 2 {
		l = append(l, api.Pair{Key: texts[i], Val: texts[i+1]})
	}
	return l
}

// leafIs holds Leaf against what is wanted; a good one is read again.
func leafIs(t *testing.T, what string, l []api.Pair, want api.Errno) {
	t.Helper()
	b, e := Leaf(l)
	if e != want {
		t.Fatalf("P8.1: %s: %v, want %v", what, e, want)
	}
	if e != api.OK {
		if len(b) != 0 {
			t.Fatalf("P8.1: %s: %q beside an error", what, b)
		}
		return
	}
	if string(b) != leafBytes(l) {
		t.Fatalf("P8.1: %s: %q, want %q", what, b, leafBytes(l))
	}
	if Size(l) != len(b) || Kind(b) != 1 {
		t.Fatalf("P8.2: %s: size %d, kind %d", what, Size(l), Kind(b))
	}
	if got, e := ReadLeaf(b); e != api.OK || !slices.Equal(got, l) {
		t.Fatalf("P8.3: %s: %q, %v", what, got, e)
	}
	if keys, kids, e := ReadBranch(b); e != api.ErrTree || len(keys)+len(kids) > 0 {
		t.Fatalf("P8.2: %s: read as a branch: %v", what, e)
	}
}

func branchIs(t *testing.T, what string, keys []string, kids []uint32, want api.Errno) {
	t.Helper()
	b, e := Branch(keys, kids)
	if e != want {
		t.Fatalf("P8.1: %s: %v, want %v", what, e, want)
	}
	if e != api.OK {
		if len(b) != 0 {
			t.Fatalf("P8.1: %s: %q beside an error", what, b)
		}
		return
	}
	if string(b) != branchBytes(keys, kids) {
		t.Fatalf("P8.1: %s: %q, want %q", what, b, branchBytes(keys, kids))
	}
	if Kind(b) != 2 {
		t.Fatalf("P8.2: %s: kind %d", what, Kind(b))
	}
	if k, i, e := ReadBranch(b); e != api.OK || !slices.Equal(k, keys) || !slices.Equal(i, kids) {
		t.Fatalf("P8.3: %s: %q, %d, %v", what, k, i, e)
	}
	if l, e := ReadLeaf(b); e != api.ErrTree || len(l) > 0 {
		t.Fatalf("P8.2: %s: read as a leaf: %v", what, e)
	}
}

// P8.1: the bytes themselves.
func TestBytes(t *testing.T) {
	for i, c := range []struct {
		l    []api.Pair
		want string
	}{
		{nil, "\x01\x00\x00"},
		{[]api.Pair{}, "\x01\x00\x00"},
		{pairs("k", ""), "\x01\x00\x01\x00\x01k\x00\x00"},
		{pairs("a", "1", "bc", "\x00\xff"), "\x01\x00\x02\x00\x01a\x00\x011\x00\x02bc\x00\x02\x00\xff"},
	} {
		if b, e := Leaf(c.l); e != api.OK || string(b) != c.want {
			t.Errorf("P8.1: row %d: %q, %v", i, b, e)
		}
	}
	b, e := Branch([]string{"a", "bc"}, []uint32{0, math.MaxUint32, 0x01020304})
	if want := "\x02\x00\x02\x00\x01a\x00\x02bc\x00\x00\x00\x00\xff\xff\xff\xff\x01\x02\x03\x04"; e != api.OK || string(b) != want {
		t.Errorf("P8.1: %q, %v", b, e)
	}
}

// P8.1: keys of 1 to 60 bytes, values of at most 150.
func TestLengths(t *testing.T) {
	for n := range 70 {
		want := api.OK
		if n < 1 || n > 60 {
			want = api.ErrTree
		}
		k := strings.Repeat("k", n)
		leafIs(t, fmt.Sprintf("a key of %d bytes", n), pairs(k, "v"), want)
		branchIs(t, fmt.Sprintf("a key of %d bytes", n), []string{k}, []uint32{1, 2}, want)
		leafIs(t, fmt.Sprintf("a second key of %d bytes", n), pairs("a", "", k, "v"), want)
		branchIs(t, fmt.Sprintf("a second key of %d bytes", n), []string{"a", k}, []uint32{1, 2, 3}, want)
	}
	for _, n := range []int{0, 1, 149, 150, 151, 152, 255, 256, 257, 480, 65535, 65536, 65537, 65536 + 150} {
		want := api.OK
		if n > 150 {
			want = api.ErrTree
		}
		v := strings.Repeat("v", n)
		leafIs(t, fmt.Sprintf("a value of %d bytes", n), pairs("k", v), want)
		leafIs(t, fmt.Sprintf("a second value of %d bytes", n), pairs("k", "", "l", v), want)
	}
	for _, n := range []int{65536, 65537, 65596, 65597} {
		leafIs(t, "a long key", pairs(strings.Repeat("k", n), ""), api.ErrTree)
		branchIs(t, "a long key", []string{strings.Repeat("k", n)}, []uint32{1, 2}, api.ErrTree)
	}
}

// P8.1: keys rise byte by byte, each above the one ahead of it.
func TestRising(t *testing.T) {
	texts := []string{"\x00", "\x00\x00", "\x00\x01", "\x01", "A", "Z", "a", "a\x00", "a\x00b", "aZ", "aa", "ab", "b", "\x7f", "\x80", "\xc3\xa9", "\xff", "\xff\x00", "\xff\xff"}
	for i, a := range texts {
		for k, b := range texts {
			want := api.ErrTree
			if i < k {
				want = api.OK
			}
			leafIs(t, fmt.Sprintf("%q, %q", a, b), pairs(a, "1", b, "2"), want)
			branchIs(t, fmt.Sprintf("%q, %q", a, b), []string{a, b}, []uint32{1, 2, 3}, want)
			if i > 0 && k > 0 {
				leafIs(t, fmt.Sprintf("behind one more: %q, %q", a, b), pairs("\x00", "0", a, "1", b, "2"), want)
				branchIs(t, fmt.Sprintf("behind one more: %q, %q", a, b), []string{"\x00", a, b}, []uint32{1, 2, 3, 4}, want)
			}
		}
	}
}

// P8.1: one kid more than keys, and a key.
func TestKids(t *testing.T) {
	all := []string{"a", "b", "c", "d", "e", "f"}
	for n := range all {
		for m := range 9 {
			want := api.ErrTree
			if n > 0 && m == n+1 {
				want = api.OK
			}
			branchIs(t, fmt.Sprintf("%d keys, %d kids", n, m), all[:n], make([]uint32, m), want)
		}
	}
	for _, id := range []uint32{0, 1, 255, 256, 65535, 65536, 1 << 24, 1 << 31, math.MaxUint32} {
		branchIs(t, "one kid twice", []string{"k"}, []uint32{id, id}, api.OK)
	}
}

// numbered are n keys that rise, of so many bytes each.
func numbered(n, size int) []string {
	var keys []string
	for i := range n {
		keys = append(keys, fmt.Sprintf("%0*d", size, i))
	}
	return keys
}

func pairsOf(keys []string, val string) []api.Pair {
	var l []api.Pair
	for _, k := range keys {
		l = append(l, api.Pair{Key: k, Val: val})
	}
	return l
}

// P8.1: 480 bytes, and one more; ErrTree goes ahead of ErrLong.
func TestLong(t *testing.T) {
	two := pairsOf(numbered(2, 60), strings.Repeat("v", 150)) // 431 bytes
	for n := range 100 {
		want := api.OK
		if 431+4+1+n > most {
			want = api.ErrLong
		}
		leafIs(t, fmt.Sprintf("a third of %d bytes", n), append(slices.Clone(two), api.Pair{Key: "1", Val: strings.Repeat("v", n)}), want)
	}
	for _, n := range []int{78, 79, 80, 255, 256, 65535, 65536, 65537, 70000} { // 6 bytes each
		want := api.OK
		if 3+6*n > most {
			want = api.ErrLong
		}
		keys := numbered(n, 2)
		if n > 80 {
			keys = numbered(n, 5)
		}
		leafIs(t, fmt.Sprintf("%d pairs", n), pairsOf(keys, ""), want)
	}
	seven := numbered(6, 60) // 3, 6*62, 8*4, and the seventh's
	for n := 1; n <= 60; n++ {
		branchIs(t, fmt.Sprintf("a seventh of %d bytes", n), append(slices.Clone(seven), strings.Repeat("x", n)), make([]uint32, 8), api.OK)
	}
	eight := numbered(7, 60) // 3, 7*62, 9*4: 473, and the eighth's
	for n := 1; n <= 60; n++ {
		want := api.OK
		if 473+2+n > most {
			want = api.ErrLong
		}
		branchIs(t, fmt.Sprintf("an eighth of %d bytes", n), append(slices.Clone(eight), strings.Repeat("x", n)), make([]uint32, 9), want)
	}
	for _, n := range []int{65535, 65536, 65537, 70000} {
		branchIs(t, fmt.Sprintf("%d keys", n), numbered(n, 5), make([]uint32, n+1), api.ErrLong)
		branchIs(t, fmt.Sprintf("%d keys, a kid short", n), numbered(n, 5), make([]uint32, n), api.ErrTree)
		branchIs(t, fmt.Sprintf("%d keys, one twice", n), append(numbered(n, 5), "00000"), make([]uint32, n+2), api.ErrTree)
		leafIs(t, fmt.Sprintf("%d pairs, one twice", n), pairsOf(append(numbered(n, 5), "00000"), ""), api.ErrTree)
	}
	leafIs(t, "long, a long value last", append(pairsOf(numbered(99, 5), "v"), api.Pair{Key: "x", Val: strings.Repeat("v", 151)}), api.ErrTree)
	leafIs(t, "long, an empty key last", append(pairsOf(numbered(99, 5), "v"), api.Pair{}), api.ErrTree)
}

// P8.2: the kind by the first byte alone.
func TestKind(t *testing.T) {
	if Kind(nil) != 0 || Kind([]byte{}) != 0 {
		t.Error("P8.2: a kind of nothing")
	}
	for c := range 256 {
		want := 0
		if c == 1 || c == 2 {
			want = c
		}
		for _, b := range [][]byte{{byte(c)}, {byte(c), 2, 1}, append([]byte{byte(c)}, make([]byte, 1000)...)} {
			if got := Kind(b); got != want {
				t.Errorf("P8.2: kind of %d: %d", c, got)
			}
		}
	}
}

// P8.2: Size is of whatever there is, to 100000.
func TestSize(t *testing.T) {
	for i, c := range []struct {
		l    []api.Pair
		want int
	}{
		{nil, 3},
		{[]api.Pair{}, 3},
		{pairs("", ""), 7},
		{pairs("b", "", "a", ""), 13},
		{pairs("a", "12", "a", "345"), 18},
		{pairs(strings.Repeat("k", 61), strings.Repeat("v", 151)), 219},
		{pairs(strings.Repeat("k", 65535), ""), 65542},
		{pairs(strings.Repeat("k", 65536), ""), 65543},
		{pairs("", strings.Repeat("v", 70000)), 70007},
		{pairs(strings.Repeat("k", 99992), ""), 99999},
		{pairs(strings.Repeat("k", 99993), ""), 100000},
		{pairs("", strings.Repeat("v", 99994)), 100000},
		{pairs(strings.Repeat("k", 99988), "", "", ""), 99999},
		{pairs(strings.Repeat("k", 99989), "", "", ""), 100000},
		{pairs(strings.Repeat("k", 99990), "", "", ""), 100000},
		{pairs(strings.Repeat("k", 99999), strings.Repeat("v", 99999)), 100000},
		{make([]api.Pair, 24999), 99999},
		{make([]api.Pair, 25000), 100000},
		{make([]api.Pair, 1000000), 100000},
		{pairsOf(make([]string, 70000), strings.Repeat("v", 1<<20)), 100000},
	} {
		if got := Size(c.l); got != c.want {
			t.Errorf("P8.2: row %d: %d, want %d", i, got, c.want)
		}
	}
}

// readIs holds both readings of bytes against the other ones, and tells whether they are a node's.
func readIs(t *testing.T, b []byte) bool {
	t.Helper()
	was := string(b)
	l, e := ReadLeaf(b)
	want, ok := (&reader{b: was}).leaf()
	if ok != (e == api.OK) || !ok && (e != api.ErrTree || len(l) > 0) || ok && !slices.Equal(l, want) {
		t.Fatalf("P8.2: ReadLeaf(%q): %q, %v", b, l, e)
	}
	keys, kids, f := ReadBranch(b)
	k, i, ok2 := (&reader{b: was}).branch()
	if ok2 != (f == api.OK) || !ok2 && (f != api.ErrTree || len(keys)+len(kids) > 0) || ok2 && !(slices.Equal(keys, k) && slices.Equal(kids, i)) {
		t.Fatalf("P8.2: ReadBranch(%q): %q, %d, %v", b, keys, kids, f)
	}
	if string(b) != was {
		t.Fatalf("P8.2: %q was changed", was)
	}
	return ok || ok2
}

func samples(t *testing.T) [][]byte {
	var all [][]byte
	for _, l := range [][]api.Pair{nil, pairs("a", ""), pairs("a", "1", "b", "22"), pairs("\x01", "\x00\x01\x02", "\x01\x00", "\x00"), pairsOf(numbered(2, 60), strings.Repeat("v", 150)), pairsOf(numbered(79, 2), ""), pairs("a", strings.Repeat("\x00", 150), "b", "")} {
		b, e := Leaf(l)
		if e != api.OK {
			t.Fatal(e)
		}
		all = append(all, b)
	}
	for _, keys := range [][]string{{"a"}, {"a", "b"}, {"\x00", "\x00\x00", "\x01"}, numbered(7, 60), numbered(50, 2)} {
		b, e := Branch(keys, make([]uint32, len(keys)+1))
		if e != api.OK {
			t.Fatal(e)
		}
		all = append(all, b)
	}
	return all
}

// P8.2: whatever is changed, cut or laid behind, what is read is what those are just the bytes of.
func TestReadChanged(t *testing.T) {
	for _, b := range samples(t) {
		if !readIs(t, b) {
			t.Fatalf("P8.3: %q isn't read", b)
		}
		for n := range len(b) {
			if readIs(t, b[:n:n]) || readIs(t, b[:n]) {
				t.Fatalf("P8.2: cut to %d bytes: %q", n, b)
			}
		}
		for _, more := range [][]byte{{0}, {1}, make([]byte, 4), make([]byte, 6), make([]byte, most), make([]byte, 1<<20), b} {
			if readIs(t, append(bytes.Clone(b), more...)) {
				t.Fatalf("P8.2: %d bytes more: %q", len(more), b)
			}
		}
		for at := range b {
			for _, c := range []byte{0, 1, 2, 3, 4, 59, 60, 61, 97, 127, 128, 149, 150, 151, 255, b[at] + 1, b[at] - 1, b[at] ^ 128} {
				changed := bytes.Clone(b)
				changed[at] = c
				readIs(t, changed)
			}
		}
	}
}

// P8.2: all bytes that there are of few lengths, and beginnings of nodes with anything behind them.
func TestReadAny(t *testing.T) {
	for n := range 1 << 16 {
		readIs(t, []byte{byte(n >> 8), byte(n)})
		readIs(t, []byte{1, byte(n >> 8), byte(n)})
		readIs(t, []byte{2, byte(n >> 8), byte(n)})
		readIs(t, []byte{1, 0, 1, byte(n >> 8), byte(n), 'a', 0, 0})
		readIs(t, []byte{1, 0, 1, 0, 1, 'a', byte(n >> 8), byte(n)})
		readIs(t, []byte{2, 0, 1, byte(n >> 8), byte(n), 'a', 0, 0, 0, 1, 0, 0, 0, 2})
	}
	readIs(t, nil)
	r := rand.New(rand.NewSource(8))
	good := 0
	for range 200000 {
		b := make([]byte, r.Intn(20))
		for i := range b {
			b[i] = byte(r.Intn(3))
		}
		if readIs(t, b) {
			good++
		}
	}
	if good < 100 {
		t.Fatalf("too few nodes: %d", good)
	}
}

// P8.2: what is well parted, but no node: no rising keys, an empty one, texts or a whole that are too long.
func TestReadNone(t *testing.T) {
	long, val := strings.Repeat("k", 61), strings.Repeat("v", 151)
	for i, l := range [][]api.Pair{pairs("", ""), pairs("", "", "a", ""), pairs("a", "", "", ""), pairs("b", "", "a", ""), pairs("a", "1", "a", "2"), pairs(long, ""), pairs("a", val), pairsOf(numbered(80, 2), ""), pairs("a"+long[2:], val[1:], "b"+long[2:], val[1:], "c", val[:45])} {
		if got, e := ReadLeaf([]byte(leafBytes(l))); e != api.ErrTree || len(got) > 0 {
			t.Errorf("P8.2: leaf %d: %q, %v", i, got, e)
		}
	}
	for i, c := range []struct {
		keys []string
		kids int
	}{{nil, 0}, {nil, 1}, {[]string{"a"}, 1}, {[]string{"a"}, 3}, {[]string{""}, 2}, {[]string{"b", "a"}, 3}, {[]string{"a", "a"}, 3}, {[]string{long}, 2}, {numbered(8, 60), 9}, {numbered(60, 2), 61}} {
		if keys, kids, e := ReadBranch([]byte(branchBytes(c.keys, make([]uint32, c.kids)))); e != api.ErrTree || len(keys)+len(kids) > 0 {
			t.Errorf("P8.2: branch %d: %q, %d, %v", i, keys, kids, e)
		}
	}
}

func randomText(r *rand.Rand, least, most int) string {
	b := make([]byte, least+r.Intn(most-least+1))
	r.Read(b)
	return string(b)
}

// P8.3: what is written is read, of any nodes.
func TestWrittenIsRead(t *testing.T) {
	r := rand.New(rand.NewSource(3))
	counts := map[api.Errno]int{}
	for range 20000 {
		most := []int{1, 4, 60}[r.Intn(3)]
		var keys []string
		for range r.Intn(14) {
			keys = append(keys, randomText(r, 1, most))
		}
		slices.Sort(keys)
		keys = slices.Compact(keys)
		var l []api.Pair
		var kids []uint32
		for _, k := range keys {
			l = append(l, api.Pair{Key: k, Val: randomText(r, 0, []int{0, 9, 150}[r.Intn(3)])})
			kids = append(kids, r.Uint32())
		}
		kids = append(kids, r.Uint32())
		want := api.OK
		if len(leafBytes(l)) > 480 {
			want = api.ErrLong
		}
		leafIs(t, "any", l, want)
		counts[want]++
		want = api.OK
		if len(branchBytes(keys, kids)) > 480 {
			want = api.ErrLong
		}
		if len(keys) == 0 {
			want = api.ErrTree
		}
		branchIs(t, "any", keys, kids, want)
		counts[want]++
	}
	for _, e := range []api.Errno{api.OK, api.ErrLong, api.ErrTree} {
		if counts[e] < 100 {
			t.Fatalf("too seldom: %v", e)
		}
	}
}

// P8.1, P8.2: nothing that is handed in is changed or kept, its spare room neither; what is answered is new.
func TestMemory(t *testing.T) {
	l := pairs("a", "1", "b", "2", "c", "3")
	x, _ := Leaf(l[:2])
	y, _ := Leaf(l[:2])
	if l[2] != (api.Pair{Key: "c", Val: "3"}) {
		t.Error("P8.1: Leaf changed what it was handed")
	}
	keys, kids := []string{"a", "b", "c"}, []uint32{1, 2, 3, 4}
	z, _ := Branch(keys[:2], kids[:3])
	want := string(z)
	if keys[2] != "c" || kids[3] != 4 {
		t.Error("P8.1: Branch changed what it was handed")
	}
	l[0], keys[0], kids[0] = api.Pair{Key: "z"}, "z", 9
	if string(x) != string(y) || string(x) != leafBytes(pairs("a", "1", "b", "2")) || string(z) != want {
		t.Error("P8.1: what was handed in was kept")
	}
	clear(x[:cap(x)])
	if string(y) != leafBytes(pairs("a", "1", "b", "2")) {
		t.Error("P8.1: two answers share memory")
	}
	got, _ := ReadLeaf(y)
	again, _ := ReadLeaf(y)
	k, i, _ := ReadBranch(z)
	k2, i2, _ := ReadBranch(z)
	clear(y[:cap(y)])
	clear(z[:cap(z)])
	clear(got[:cap(got)])
	clear(k[:cap(k)])
	clear(i[:cap(i)])
	if !slices.Equal(again, pairs("a", "1", "b", "2")) || !slices.Equal(k2, []string{"a", "b"}) || !slices.Equal(i2, []uint32{1, 2, 3}) {
		t.Error("P8.2: answers share memory")
	}
}
