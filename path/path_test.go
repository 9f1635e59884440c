package path

import (
	"math/rand"
	"regexp"
	"runtime"
	"slices"
	"strings"
	"testing"
	"unsafe"

	"sacristy/api"
)

const ten = "abcdefgh09"

// The model tells paths, and codes, another way: by expressions.
var (
	segmentForm = regexp.MustCompile(`\A[a-z0-9]{1,10}\z`)
	pathForm    = regexp.MustCompile(`\A([a-z0-9]{1,10}(/[a-z0-9]{1,10}){0,2})?\z`)
	codeForm    = regexp.MustCompile(`\A([a-z0-9]{1,10}\x00){0,3}\z`)
)

func modelSplit(s string) []string {
	if s == "" || !pathForm.MatchString(s) {
		return nil
	}
	return strings.Split(s, "/")
}

func modelParent(s string) (string, bool) {
	if s == "" || !pathForm.MatchString(s) {
		return "", false
	}
	return s[:max(strings.LastIndex(s, "/"), 0)], true
}

func modelUnder(a, b string) bool {
	if !pathForm.MatchString(a) || !pathForm.MatchString(b) {
		return false
	}
	return b == "" || a == b || strings.HasPrefix(a, b+"/")
}

func modelCode(s string) string {
	if s == "" || !pathForm.MatchString(s) {
		return ""
	}
	return strings.ReplaceAll(s, "/", "\x00") + "\x00"
}

func modelDecode(s string) (string, api.Errno) {
	if !codeForm.MatchString(s) {
		return "", api.ErrPath
	}
	return strings.ReplaceAll(strings.TrimSuffix(s, "\x00"), "\x00", "/"), api.OK
}

// texts over these bytes, of at most n bytes.
func texts(alphabet string, n int) []string {
	all := []string{""}
	for first := 0; n > 0; n-- {
		last := len(all)
		for _, s := range all[first:last] {
			for i := range len(alphabet) {
				all = append(all, s+alphabet[i:i+1])
			}
		}
		first = last
	}
	return all
}

// odd is texts about the edges: of each length and depth about the limits, with each byte, with ends and gaps.
func odd() []string {
	var all []string
	for n := range 13 {
		all = append(all, strings.Repeat("z", n))
	}
	for n := range 6 {
		for _, s := range []string{"a", ten, ten + "a", ""} {
			row := strings.TrimSuffix(strings.Repeat(s+"/", n), "/")
			code := strings.Repeat(s+"\x00", n)
			all = append(all, row, row+"/", "/"+row, code, code+"a", "\x00"+code, code+"\x00", row+"\x00")
		}
	}
	for c := range 256 {
		b := string([]byte{byte(c)})
		all = append(all, b, "a"+b, b+"a", "a/"+b, b+"/a", "a/b"+b+"c/d", "a\x00"+b, b+"\x00", "a\x00"+b+"\x00")
	}
	return append(all, "é", "a/é", "ａ", "٣", "\xff\xfe", ".", "..", "a/./b", "a\\b", "a b", "a\n", "\na", "a\r", "a/b\n", "a-b", "a_b")
}

func random(r *rand.Rand) string {
	const usual = "abz019"
	var b []byte
	for range r.Intn(40) {
		switch r.Intn(12) {
		case 0:
			b = append(b, '/')
		case 1:
			b = append(b, 0)
		case 2:
			b = append(b, byte(r.Intn(256)))
		default:
			b = append(b, usual[r.Intn(len(usual))])
		}
	}
	return string(b)
}

func samples() []string {
	all := append(texts("a0/\x00A", 5), odd()...)
	r := rand.New(rand.NewSource(11))
	for range 20000 {
		all = append(all, random(r))
	}
	return all
}

func TestSegmentsByTheirForm(t *testing.T) {
	for _, s := range samples() {
		if got, want := Segment(s), segmentForm.MatchString(s); got != want {
			t.Fatalf("P11.1: Segment(%q): %v", s, got)
		}
	}
}

func TestSegmentsOfEachByteAndLength(t *testing.T) {
	for c := range 256 {
		want := strings.IndexByte("abcdefghijklmnopqrstuvwxyz0123456789", byte(c)) >= 0
		for i := range api.MaxSegment {
			b := []byte(ten)
			b[i] = byte(c)
			if Segment(string(b)) != want || Segment(string(b[i:])) != want || Segment(string(b[:i+1])) != want {
				t.Fatalf("P11.1: byte %d at %d", c, i)
			}
		}
	}
	for n := range 30 {
		if got := Segment(strings.Repeat("9", n)); got != (1 <= n && n <= 10) {
			t.Errorf("P11.1: %d bytes: %v", n, got)
		}
	}
}

func TestPathsByTheirForm(t *testing.T) {
	paths := 0
	for _, s := range samples() {
		is := pathForm.MatchString(s)
		if Is(s) != is {
			t.Fatalf("P11.1: Is(%q): %v", s, !is)
		}
		want := modelSplit(s)
		if got := Split(s); !slices.Equal(got, want) {
			t.Fatalf("P11.1: Split(%q): %q", s, got)
		}
		if got := Depth(s); got != len(want) {
			t.Fatalf("P11.1: Depth(%q): %d", s, got)
		}
		if is {
			paths++
			if got := Join(Split(s)); got != s {
				t.Fatalf("P11.1: %q joined again: %q", s, got)
			}
		}
		up, ok := Parent(s)
		if parent, has := modelParent(s); up != parent || ok != has {
			t.Fatalf("P11.1: Parent(%q): %q, %v", s, up, ok)
		}
	}
	if paths < 1000 {
		t.Errorf("only %d paths among the samples", paths)
	}
}

func TestJoinOfWhatMakesAPathAndOfWhatMakesNone(t *testing.T) {
	pieces := []string{"", "a", "0", ten, ten + "a", "a/b", "/", "A", "a\x00", " "}
	lists := [][]string{nil, {}}
	for first := 0; len(lists[len(lists)-1]) < 4; {
		last := len(lists)
		for _, l := range lists[first:last] {
			for _, s := range pieces {
				lists = append(lists, append(slices.Clone(l), s))
			}
		}
		first = last
	}
	for _, l := range lists {
		want := strings.Join(l, "/")
		if len(l) > 3 || slices.ContainsFunc(l, func(s string) bool { return !segmentForm.MatchString(s) }) {
			want = ""
		}
		if got := Join(l); got != want {
			t.Fatalf("P11.1: Join(%q): %q", l, got)
		}
	}
}

func TestParentGoesUpToTheRoot(t *testing.T) {
	s := ten + "/" + ten + "/" + ten
	for depth := 3; depth > 0; depth-- {
		if Depth(s) != depth {
			t.Errorf("P11.1: Depth(%q)", s)
		}
		up, ok := Parent(s)
		if !ok || !Under(s, up) || Under(up, s) {
			t.Errorf("P11.1: Parent(%q): %q, %v", s, up, ok)
		}
		s = up
	}
	if up, ok := Parent(s); s != "" || up != "" || ok {
		t.Errorf("P11.1: the root's parent: %q, %v", up, ok)
	}
}

func TestUnder(t *testing.T) {
	few := append(texts("ab/", 4), ten, ten+"/a", ten+"/"+ten, ten+"/"+ten+"/"+ten, ten+"a", ten+"a/a", "a/b/c", "a/b/c/d", "a/bc/c", "A", "a/B", "\x00", "a\x00", "é")
	yes := 0
	for _, a := range few {
		for _, b := range few {
			want := modelUnder(a, b)
			if got := Under(a, b); got != want {
				t.Fatalf("P11.1: Under(%q, %q): %v", a, b, got)
			}
			if want {
				yes++
			}
		}
	}
	if yes < 100 {
		t.Errorf("only %d are under others", yes)
	}
}

func TestCodes(t *testing.T) {
	if got := Code("a/b"); got != "a\x00b\x00" {
		t.Errorf("P11.2: the chapter's example: %q", got)
	}
	for _, s := range samples() {
		if got := Code(s); got != modelCode(s) {
			t.Fatalf("P11.2: Code(%q): %q", s, got)
		}
		if !Is(s) {
			continue
		}
		if p, e := Decode(Code(s)); p != s || e != api.OK {
			t.Fatalf("P11.2: %q decoded again: %q, %v", s, p, e)
		}
	}
}

func TestDecode(t *testing.T) {
	if p, e := Decode(""); p != "" || e != api.OK {
		t.Errorf("P11.2: the root's code: %q, %v", p, e)
	}
	codes := 0
	for _, s := range samples() {
		want, err := modelDecode(s)
		p, e := Decode(s)
		if p != want || e != err {
			t.Fatalf("P11.2: Decode(%q): %q, %v", s, p, e)
		}
		if e == api.OK {
			codes++
			if Code(p) != s {
				t.Fatalf("P11.2: %q coded again: %q", s, Code(p))
			}
		}
	}
	if codes < 100 {
		t.Errorf("only %d codes among the samples", codes)
	}
}

// manyPaths, sorted by their codes: all that a few segments make, of which some begin alike.
func manyPaths() []string {
	segments := []string{"0", "00", "0a", "9", "a", "a0", "aa", "az", "b", "z", ten, ten[:9], "zzzzzzzzzz"}
	all := []string{""}
	for _, a := range segments {
		all = append(all, a)
		for _, b := range segments {
			all = append(all, a+"/"+b)
			for _, c := range segments {
				all = append(all, a+"/"+b+"/"+c)
			}
		}
	}
	r := rand.New(rand.NewSource(3))
	r.Shuffle(len(all), func(i, j int) { all[i], all[j] = all[j], all[i] })
	slices.SortFunc(all, func(a, b string) int { return strings.Compare(Code(a), Code(b)) })
	return all
}

func TestWhatIsUnderAPathStandsInOneRowBehindIt(t *testing.T) {
	all := manyPaths()
	if len(slices.Compact(slices.Clone(all))) != 1+13+13*13+13*13*13 {
		t.Errorf("P11.3: %d paths", len(all))
	}
	for i, top := range all {
		under := func(s string) bool { return top == "" || s == top || strings.HasPrefix(s, top+"/") }
		end := i
		for end < len(all) && under(all[end]) {
			end++
		}
		if end == i || slices.ContainsFunc(all[:i], under) || slices.ContainsFunc(all[end:], under) {
			t.Fatalf("P11.3: what is under %q isn't one row behind it", top)
		}
	}
}

func allocated(do func()) uint64 {
	var ahead, behind runtime.MemStats
	runtime.ReadMemStats(&ahead)
	do()
	runtime.ReadMemStats(&behind)
	return behind.TotalAlloc - ahead.TotalAlloc
}

func TestTextsAndListsOfAnyLength(t *testing.T) {
	const n = 1 << 24
	for _, s := range []string{strings.Repeat("a", n), strings.Repeat("/", n), strings.Repeat("a/", n/2), strings.Repeat("a\x00", n/2), strings.Repeat("\x00", n), "a/b/" + strings.Repeat("c", n)} {
		_, has := Parent(s)
		if Segment(s) || Is(s) || len(Split(s)) != 0 || has || Under(s, s) || Under("", s) || Under(s, "") || Depth(s) != 0 || Code(s) != "" {
			t.Errorf("P11.1: %q.. is a path", s[:8])
		}
		if p, e := Decode(s); p != "" || e != api.ErrPath {
			t.Errorf("P11.2: %q.. is a code: %q, %v", s[:8], p, e)
		}
		if got := Join([]string{s}); got != "" {
			t.Errorf("P11.1: joined: %d bytes", len(got))
		}
		if spent := allocated(func() { Is(s); Decode(s) }); spent > n {
			t.Errorf("rule 8: %q..: %d bytes of memory for what is no path", s[:8], spent)
		}
	}
	if got := Join(slices.Repeat([]string{"a"}, n)); got != "" {
		t.Errorf("P11.1: joined: %d bytes", len(got))
	}
}

func TestAnsweredTextsAreNewMemory(t *testing.T) {
	whole := ten + "/" + ten
	start := uintptr(unsafe.Pointer(unsafe.StringData(whole)))
	up, _ := Parent(whole)
	for _, s := range append(Split(whole), up, Join([]string{whole[:len(ten)]})) {
		if at := uintptr(unsafe.Pointer(unsafe.StringData(s))); start <= at && at < start+uintptr(len(whole)) {
			t.Errorf("rule 3: %q lies in what was handed in", s)
		}
	}
}

func TestListsAreNewMemoryAndArgumentsStay(t *testing.T) {
	one, two := Split("a/b"), Split("a/b")
	one[0] = "x"
	_ = append(one, "y")
	_ = append(one[:1], "z")
	if three := Split("a/b"); !slices.Equal(two, []string{"a", "b"}) || !slices.Equal(three, two) {
		t.Errorf("rule 3: %q, %q", two, three)
	}
	room := []string{"a", "b", "c", "d", "e"}
	if got := Join(room[:2]); got != "a/b" || !slices.Equal(room, []string{"a", "b", "c", "d", "e"}) {
		t.Errorf("rule 3: %q of %q", got, room)
	}
}
