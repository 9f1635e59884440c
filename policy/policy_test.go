package policy

import (
	"math"
	"math/rand"
	"runtime"
	"slices"
	"strings"
	"testing"
	"unsafe"

	"sacristy/api"
)

// wantParse holds Parse, Is and Print of a text against the model.
func wantParse(t *testing.T, s string) bool {
	t.Helper()
	want, ok := modelParse(s)
	l, e := Parse(s)
	if !ok {
		if len(l) != 0 || e != api.ErrPolicy {
			t.Fatalf("P18.1: Parse(%q): %v, %v of what is no policy", s, l, e)
		}
		return false
	}
	if e != api.OK || !slices.Equal(l, want) {
		t.Fatalf("P18.1: Parse(%q): %v, %v, not %v", s, l, e, want)
	}
	if !Is(l) || Print(l) != s {
		t.Fatalf("P18.1: %q printed again: %q; Is: %v", s, Print(l), Is(l))
	}
	return true
}

func wantIs(t *testing.T, l []api.Rule) bool {
	t.Helper()
	is := modelIs(l)
	if Is(l) != is || Print(l) != modelPrint(l) {
		t.Fatalf("P18.1: of %v Is tells %v, Print %q", l, !is, Print(l))
	}
	if !is {
		return false
	}
	if again, e := Parse(Print(l)); e != api.OK || !slices.Equal(again, l) {
		t.Fatalf("P18.1: %v printed and parsed: %v, %v", l, again, e)
	}
	return true
}

func TestTheExample(t *testing.T) {
	l, e := Parse("kv/* read;kv/x deny")
	if e != api.OK || !slices.Equal(l, []api.Rule{{Pattern: "kv/*", Can: api.CanRead}, {Pattern: "kv/x", Can: api.Denied}}) {
		t.Fatalf("P18.1: %v, %v", l, e)
	}
	if Can(l, "kv/y") != api.CanRead || Can(l, "kv/x") != 0 || Can(l, "kv") != 0 {
		t.Errorf("P18.2: %d, %d, %d", Can(l, "kv/y"), Can(l, "kv/x"), Can(l, "kv"))
	}
}

func TestEachWordIsItsAbility(t *testing.T) {
	for word, can := range map[string]int{"read": api.CanRead, "write": api.CanWrite, "delete": api.CanDelete, "list": api.CanList, "admin": api.CanAdmin, "deny": api.Denied} {
		l, e := Parse("a " + word)
		if e != api.OK || !slices.Equal(l, []api.Rule{{Pattern: "a", Can: can}}) {
			t.Errorf("P18.1: %s: %v, %v", word, l, e)
		}
	}
}

// Each row of words, of these and of some that are none: 63 of them are abilities.
func TestAbilitiesStandInTheirOrderEachOnce(t *testing.T) {
	are := 0
	for _, cans := range rows(sixWords, ",", 6) {
		if wantParse(t, "a "+cans) {
			are++
		}
	}
	if are != 63 {
		t.Errorf("P18.1: %d texts of abilities", are)
	}
	for _, cans := range rows(append([]string{"", "Read", "reads", "rea", " ", "none", "1", "*", "\x00"}, sixWords[:2]...), ",", 3) {
		wantParse(t, "a "+cans)
	}
	for _, cans := range []string{"read,write,delete,list,admin,deny,", "read,write,delete,list,admin,deny,read", "read,write,delete,list,admin,deny,deny", "readwrite", "read;write", "read.write", "read,,write"} {
		wantParse(t, "a "+cans)
	}
}

func TestPatterns(t *testing.T) {
	patterns := rows([]string{"a", "+", "*", "", "A", ten, ten + "a"}, "/", 5)
	for c := range 256 {
		b := string([]byte{byte(c)})
		patterns = append(patterns, b, "a"+b, b+"a", "a/"+b, b+"/a", "a/"+b+"/a", "a/b/c"+b+"d/e")
	}
	for n := range 40 {
		patterns = append(patterns, strings.Repeat("9", n), strings.Repeat("+", n), strings.Repeat("*", n), strings.Repeat("a", n)+"/*", "b/"+strings.Repeat("a", n))
	}
	patterns = append(patterns, "é", "a/é", "ａ", "٣", "a\n", "\na", "a*", "*a", "a+", "+a", "a/+b", "a/b*", "+/+/+/+", "+/+/+/*", "+/+/+/+/*", ten+"/"+ten+"/"+ten+"/"+ten)
	are := 0
	for _, pattern := range patterns {
		if wantParse(t, pattern+" list") {
			are++
		}
		wantIs(t, []api.Rule{{Pattern: pattern, Can: api.CanList}})
		wantIs(t, []api.Rule{{Pattern: "a", Can: api.CanList}, {Pattern: pattern, Can: api.CanList}})
		if Match(pattern, pattern) && modelMatch(pattern) == nil {
			t.Fatalf("P18.2: Match(%q, ..) is true of no pattern", pattern)
		}
	}
	if are < 200 {
		t.Errorf("only %d patterns", are)
	}
}

func TestTextsWithOneByteChanged(t *testing.T) {
	for _, s := range []string{"a read", "a/+/* read,deny", "* list;+ admin", ten + "/b write,delete;9 deny", strings.Repeat("a read;", 5) + "a read"} {
		if !wantParse(t, s) {
			t.Fatalf("P18.1: %q is no policy", s)
		}
		for i := range len(s) + 1 {
			for c := range 256 {
				b := string([]byte{byte(c)})
				wantParse(t, s[:i]+b+s[i:])
				if i < len(s) {
					wantParse(t, s[:i]+b+s[i+1:])
				}
			}
			if i < len(s) {
				wantParse(t, s[:i]+s[i+1:])
			}
			wantParse(t, s[:i])
			wantParse(t, s[i:])
		}
	}
}

func TestAsManyRulesAsThereMayBe(t *testing.T) {
	for n := range 12 {
		s := strings.TrimSuffix(strings.Repeat("a/* read;", n), ";")
		if wantParse(t, s) != (1 <= n && n <= 6) {
			t.Errorf("P18.1: %d rules", n)
		}
		wantParse(t, s+";")
		wantParse(t, ";"+s)
		if l := slices.Repeat([]api.Rule{{Pattern: "a/*", Can: 1}}, n); wantIs(t, l) != (1 <= n && n <= 6) {
			t.Errorf("P18.1: a list of %d", n)
		}
	}
}

func TestRowsOfPieces(t *testing.T) {
	pieces := []string{"a", "read", " ", ";", ",", "+", "/", "*", "deny"}
	are := 0
	for _, s := range append(rows(pieces, "", 5), "") {
		if wantParse(t, s) {
			are++
		}
	}
	if are < 100 {
		t.Errorf("only %d policies", are)
	}
}

func TestListsOfAnyAbilities(t *testing.T) {
	cans := []int{math.MinInt, math.MinInt + 1, math.MaxInt, math.MaxInt - 63, 1 << 32, 1<<32 + 1, -1 << 32, 1 << 20}
	for can := -130; can < 300; can++ {
		cans = append(cans, can)
	}
	for _, can := range cans {
		is := wantIs(t, []api.Rule{{Pattern: "a", Can: can}})
		if is != (1 <= can && can <= 63) {
			t.Errorf("P18.1: Can %d: %v", can, is)
		}
		for i := range 3 {
			l := slices.Repeat([]api.Rule{{Pattern: "+", Can: 63}}, 3)
			l[i].Can = can
			wantIs(t, l)
		}
	}
}

func TestWrongRulesAtEachPlace(t *testing.T) {
	for _, wrong := range []api.Rule{{}, {Pattern: "a"}, {Can: 1}, {Pattern: "a b", Can: 1}, {Pattern: "a;a", Can: 1}, {Pattern: "*/a", Can: 1}, {Pattern: "a", Can: 64}} {
		for n := 1; n <= 7; n++ {
			for i := range n {
				l := slices.Repeat([]api.Rule{{Pattern: "a", Can: 1}}, n)
				l[i] = wrong
				if wantIs(t, l) {
					t.Errorf("P18.1: %v is a policy", l)
				}
			}
		}
	}
}

func TestMatchOfAllSmallPatternsAndPaths(t *testing.T) {
	paths := rows([]string{"a", "b", "", "+"}, "/", 5)
	paths = append(paths, rows([]string{"a", ""}, "/", 9)...)
	yes := 0
	for _, pattern := range append(rows([]string{"a", "+", "*", ""}, "/", 5), "b", "b/+", "a/b/*", "A", "a/b/a/b") {
		m := modelMatch(pattern)
		for _, path := range paths {
			want := m != nil && m.MatchString(path)
			if Match(pattern, path) != want {
				t.Fatalf("P18.2: Match(%q, %q): %v", pattern, path, !want)
			}
			if want {
				yes++
			}
		}
	}
	if yes < 5000 {
		t.Errorf("only %d match", yes)
	}
}

func TestMatches(t *testing.T) {
	for _, c := range []struct {
		pattern string
		yes, no []string
	}{
		{"a", []string{"a"}, []string{"", "b", "A", "aa", "a/", "/a", "a/a", "a ", "a\x00", "+", "*"}},
		{ten, []string{ten}, []string{ten + "a", ten[:9], ten + "/"}},
		{"+", []string{"a", "+", "*", " ", "\x00", "\xff", "é", "A B", strings.Repeat("x", 1000)}, []string{"", "/", "a/", "/a", "a/b"}},
		{"*", []string{"a", "a/b", "a/b/c/d/e/f/g", "+", "*", "A", "a/b/"}, nil},
		{"a/*", []string{"a/b", "a/b/c", "a/b/c/d/e/f", "a/*", "a/ B"}, []string{"a", "", "b/a", "ab/c", "/a/b"}},
		{"+/b", []string{"a/b", "b/b", " /b"}, []string{"/b", "b", "a/c", "a/b/", "a/b/c"}},
		{"+/*", []string{"a/b", "a/b/c"}, []string{"a", "/b", "/", ""}},
		{"a/b/c/d", []string{"a/b/c/d"}, []string{"a/b/c", "a/b/c/d/e", "a/b/c/d/", "a/b/c/e", "a/b/c/de"}},
		{"a/b/c/+", []string{"a/b/c/d"}, []string{"a/b/c", "a/b/c/", "a/b/c/d/e", "a/b/c/d/e/f"}},
		{"a/b/c/*", []string{"a/b/c/d", "a/b/c/d/e", "a/b/c/d/e/f/g/h"}, []string{"a/b/c", "a/b/d/d"}},
	} {
		for _, path := range c.yes {
			if !Match(c.pattern, path) {
				t.Errorf("P18.2: Match(%q, %.40q) is false", c.pattern, path)
			}
		}
		for _, path := range c.no {
			if Match(c.pattern, path) {
				t.Errorf("P18.2: Match(%q, %.40q) is true", c.pattern, path)
			}
		}
	}
}

// A segment of a path has as many bytes as it likes, also none: of + alone the chapter asks for one.
func TestSegmentsWithoutBytes(t *testing.T) {
	for path, want := range map[string]bool{"": true, "/": true, "a/": true} {
		if Match("*", path) != want {
			t.Errorf("P18.2: Match(*, %q): %v", path, !want)
		}
	}
	if !Match("a/*", "a/") || Match("a/+", "a/") || Match("a/+/b", "a//b") || !Match("a/*", "a//b") {
		t.Error("P18.2: segments without bytes")
	}
}

func TestMatchIsFalseOfNoPattern(t *testing.T) {
	for _, s := range []string{"", "/", "a/", "/a", "a//b", "A", "é", "a b", "**", "++", "a*", "*/a", "*/*", "a/*/b", "a/b/c/d/e", "+/+/+/+/+", "a/b/c/d/*", ten + "a", "a\n", "a;", "\x00"} {
		for _, path := range []string{s, "a", "", "a/b", "a//b", "a/b/c/d/e", "x/y/z/v/w"} {
			if Match(s, path) {
				t.Errorf("P18.2: Match(%q, %q)", s, path)
			}
		}
	}
}

func TestCanIsAllThatMatchTogether(t *testing.T) {
	l := []api.Rule{{Pattern: "a/*", Can: api.CanRead}, {Pattern: "a/+", Can: api.CanWrite}, {Pattern: "+/b", Can: api.CanDelete | api.CanRead}, {Pattern: "a/b", Can: api.CanList}, {Pattern: "*", Can: api.CanAdmin}, {Pattern: "a", Can: 31}}
	for path, want := range map[string]int{
		"a/b":   31,
		"a/c":   api.CanRead | api.CanWrite | api.CanAdmin,
		"a/b/c": api.CanRead | api.CanAdmin,
		"b/b":   api.CanDelete | api.CanRead | api.CanAdmin,
		"b":     api.CanAdmin,
		"a":     31,
		"sys":   api.CanAdmin,
	} {
		if got := Can(l, path); got != want {
			t.Errorf("P18.2: Can of %q: %d, not %d", path, got, want)
		}
	}
	if Can(nil, "a") != 0 || Can([]api.Rule{}, "a") != 0 || Can(l[:4], "b") != 0 {
		t.Error("P18.2: of none that match")
	}
}

// Wherever the rule stands that denies, and whatever else that one or the others allow.
func TestWhoeverIsDeniedMayNothing(t *testing.T) {
	for n := 1; n <= 8; n++ {
		for i := range n {
			for can := range 64 {
				l := slices.Repeat([]api.Rule{{Pattern: "*", Can: 31}}, n)
				l[i] = api.Rule{Pattern: "+/x", Can: can}
				denied := can >= 32
				if got := Can(l, "a/x"); denied && got != 0 || !denied && n > 1 && got != 31 {
					t.Fatalf("P18.3: %d of %v", got, l)
				}
				if got := Can(l, "a/y"); n > 1 && got != 31 {
					t.Fatalf("P18.3: a denial of another path: %d of %v", got, l)
				}
			}
		}
	}
}

// Can takes all lists: of more rules than a policy has, of rules that are none.
func TestCanOfListsThatAreNoPolicies(t *testing.T) {
	var l []api.Rule
	for range 100000 {
		l = append(l, api.Rule{Pattern: "b", Can: 63}, api.Rule{Pattern: "a", Can: 1})
	}
	if got := Can(l, "a"); got != 1 {
		t.Errorf("P18.2: of many rules: %d", got)
	}
	l = append(l, api.Rule{Pattern: "a", Can: 2})
	if got := Can(l, "a"); got != 3 {
		t.Errorf("P18.2: the last of many rules: %d", got)
	}
	for _, wrong := range []string{"", "a/", "*/a", "A", "a//b"} {
		if got := Can([]api.Rule{{Pattern: wrong, Can: api.Denied}, {Pattern: "+", Can: 4}}, "a"); got != 4 {
			t.Errorf("P18.2: %q is no pattern, and matches nothing: %d", wrong, got)
		}
	}
	if Can([]api.Rule{{Pattern: "a", Can: -1}, {Pattern: "a", Can: 1}}, "a") != 0 || Can([]api.Rule{{Pattern: "a"}}, "a") != 0 {
		t.Error("P18.2: abilities that are none")
	}
}

func TestRandomPolicies(t *testing.T) {
	r := rand.New(rand.NewSource(18))
	policies, may := 0, 0
	for range 6000 {
		var l []api.Rule
		for range r.Intn(8) {
			l = append(l, api.Rule{Pattern: randomPattern(r), Can: 1 + r.Intn(31)})
			if r.Intn(6) == 0 {
				l[len(l)-1].Can = r.Intn(65)
			}
		}
		kept := slices.Clone(l)
		if wantIs(t, l) {
			policies++
		}
		for range 5 {
			path := randomPath(r)
			want := modelCan(l, path)
			if got := Can(l, path); got != want {
				t.Fatalf("P18.2: Can(%v, %q): %d, not %d", l, path, got, want)
			}
			if want != 0 {
				may++
			}
		}
		if !slices.Equal(l, kept) {
			t.Fatalf("rule 3: %v became %v", kept, l)
		}
	}
	if policies < 1000 || may < 1000 {
		t.Errorf("only %d policies, %d may", policies, may)
	}
}

func allocated(do func()) uint64 {
	var before, behind runtime.MemStats
	runtime.ReadMemStats(&before)
	do()
	runtime.ReadMemStats(&behind)
	return behind.TotalAlloc - before.TotalAlloc
}

func TestTextsOfAnyLength(t *testing.T) {
	const n = 1 << 24
	for _, s := range []string{strings.Repeat("a", n), strings.Repeat("/", n), strings.Repeat("a/", n/2), strings.Repeat(";", n), strings.Repeat("a read;", n/7), "a " + strings.Repeat("read,", n/5), "a " + strings.Repeat(",", n), strings.Repeat(" ", n), "a read" + strings.Repeat(",deny", n/5), strings.Repeat("*", n)} {
		spent := allocated(func() {
			if l, e := Parse(s); len(l) != 0 || e != api.ErrPolicy {
				t.Errorf("P18.1: %.8q..: %d rules, %v", s, len(l), e)
			}
			if l := []api.Rule{{Pattern: s, Can: 1}}; Is(l) || Print(l) != "" || Can(l, s) != 0 {
				t.Errorf("P18.1: %.8q.. is a pattern", s)
			}
			if Match(s, s) || !Match("*", s) {
				t.Errorf("P18.2: Match with %.8q..", s)
			}
			if l := []api.Rule{{Pattern: "*", Can: 2}}; Can(l, s) != 2 {
				t.Errorf("P18.2: Can of %.8q..", s)
			}
		})
		if spent > n/2 {
			t.Errorf("rule 8: %.8q..: %d bytes of memory", s, spent)
		}
	}
}

// A path is gone through once, not once a rule; what is too long for a pattern isn't gone through.
func TestManyRulesOfLongTexts(t *testing.T) {
	long := strings.Repeat("x", 1<<24)
	l := slices.Repeat([]api.Rule{{Pattern: "+", Can: 1}, {Pattern: long, Can: 2}}, 1<<17)
	if got := Can(l, long); got != 1 {
		t.Errorf("P18.2: %d", got)
	}
}

func TestAnswersAreNewMemory(t *testing.T) {
	given := "kv/* read;kv/x deny"
	start := uintptr(unsafe.Pointer(unsafe.StringData(given)))
	l, _ := Parse(given)
	other, _ := Parse(given)
	for _, r := range l {
		if at := uintptr(unsafe.Pointer(unsafe.StringData(r.Pattern))); start <= at && at < start+uintptr(len(given)) {
			t.Errorf("rule 3: %q lies in what was handed in", r.Pattern)
		}
	}
	want := slices.Clone(other)
	l[0] = api.Rule{}
	_ = append(l, api.Rule{Pattern: "z"})
	_ = append(l[:1], api.Rule{Pattern: "z"})
	if !slices.Equal(other, want) || Print(other) != given {
		t.Errorf("rule 3: %v", other)
	}
	for _, r := range l[len(l):cap(l)] {
		if r != (api.Rule{}) && r.Pattern != "z" {
			t.Errorf("rule 3: %v in the spare room", r)
		}
	}
	room := slices.Clone(append(want, api.Rule{Pattern: "+", Can: 9}, api.Rule{Pattern: "+", Can: 9}))
	kept := slices.Clone(room)
	Is(room[:2])
	Can(room[:2], "kv/y")
	if Print(room[:2]) != given || !slices.Equal(room, kept) {
		t.Errorf("rule 3: %v became %v", kept, room)
	}
}
