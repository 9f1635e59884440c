package tree

import (
	"fmt"
	"math"
	"math/rand"
	"slices"
	"strings"
	"testing"

	"sacristy/api"
	"sacristy/pager"
	"sacristy/sector"
)

// raw is a page with those bytes.
func raw(t *testing.T, p *pager.Pager, b string) uint32 {
	t.Helper()
	id, e := p.Alloc()
	if e != api.OK {
		t.Fatal(e)
	}
	rewrite(t, p, id, b)
	return id
}

func rewrite(t *testing.T, p *pager.Pager, id uint32, b string) {
	t.Helper()
	if e := p.Write(id, []byte(b)); e != api.OK {
		t.Fatal(e)
	}
}

func textBytes(s string) string {
	return string([]byte{byte(len(s) / 256), byte(len(s) % 256)}) + s
}

// leafBytes is a leaf of those keys, each with the value "v".
func leafBytes(keys ...string) string {
	b := string([]byte{1, byte(len(keys) / 256), byte(len(keys) % 256)})
	for _, k := range keys {
		b += textBytes(k) + textBytes("v")
	}
	return b
}

func branchBytes(keys []string, kids ...uint32) string {
	b := string([]byte{2, byte(len(keys) / 256), byte(len(keys) % 256)})
	for _, k := range keys {
		b += textBytes(k)
	}
	for _, id := range kids {
		b += string([]byte{byte(id >> 24), byte(id >> 16), byte(id >> 8), byte(id)})
	}
	return b
}

// planted writes a tree by a plan: "a b c" is a leaf of these keys; "( .. )" a branch, with "/k/" between its kids.
func planted(t *testing.T, p *pager.Pager, plan string) uint32 {
	t.Helper()
	words := strings.Fields(plan)
	var node func() uint32
	node = func() uint32 {
		if len(words) == 0 || words[0] != "(" {
			var keys []string
			for len(words) > 0 && words[0] != ")" && words[0][0] != '/' {
				keys, words = append(keys, words[0]), words[1:]
			}
			return raw(t, p, leafBytes(keys...))
		}
		words = words[1:]
		kids := []uint32{node()}
		var keys []string
		for words[0] != ")" {
			keys, words = append(keys, strings.Trim(words[0], "/")), words[1:]
			kids = append(kids, node())
		}
		words = words[1:]
		return raw(t, p, branchBytes(keys, kids...))
	}
	return node()
}

// TestCheckOfPlans: P9.2: each of the things that a tree is, broken alone.
func TestCheckOfPlans(t *testing.T) {
	for _, x := range []struct {
		plan string
		want api.Errno
	}{
		{"", api.OK},
		{"a", api.OK},
		{"a b c", api.OK},
		{"( a /b/ b )", api.OK},
		{"( a b /c/ d e )", api.OK},
		{"( a /b/ b /c/ c )", api.OK},
		{"( ( a /b/ b ) /c/ ( c /d/ d ) )", api.OK},
		{"( ( ( a /b/ b ) /c/ ( c /d/ d ) ) /e/ ( ( e /f/ f ) /g/ ( g /h/ h ) ) )", api.OK},
		{"( ( a /b/ b ) /bb/ ( c /d/ d /e/ f ) )", api.OK},
		// Not as deep.
		{"( ( a /b/ b ) /c/ c )", api.ErrTree},
		{"( a /b/ ( b /c/ c ) )", api.ErrTree},
		{"( ( a /b/ b ) /c/ ( ( c /d/ d ) /e/ ( e /f/ f ) ) )", api.ErrTree},
		{"( ( a /b/ b ) /c/ ( c /d/ d ) /e/ e )", api.ErrTree},
		// Keys that don't rise, or not as branches part them.
		{"b a", api.ErrTree},
		{"a a", api.ErrTree},
		{"( b /b/ c )", api.ErrTree},
		{"( c /b/ d )", api.ErrTree},
		{"( a c /b/ d )", api.ErrTree},
		{"( a /c/ b )", api.ErrTree},
		{"( a /c/ b d )", api.ErrTree},
		{"( a /b/ b a )", api.ErrTree},
		{"( a /c/ c /b/ d )", api.ErrTree},
		{"( a /b/ b /b/ c )", api.ErrTree},
		{"( a /b/ d /c/ e )", api.ErrTree},
		{"( ( a /b/ c ) /c/ ( c /d/ d ) )", api.ErrTree},
		{"( ( a /b/ b ) /c/ ( b /d/ d ) )", api.ErrTree},
		{"( ( a /b/ b ) /c/ ( bb /d/ d ) )", api.ErrTree},
		{"( ( a /d/ e ) /c/ ( f /g/ g ) )", api.ErrTree},
		{"( ( a /b/ b ) /c/ ( a /b/ d ) )", api.ErrTree},
		{"( ( a /b/ b ) /c/ ( c /c/ d ) )", api.ErrTree},
		// Empty leaves below a root.
		{"( /b/ b )", api.ErrTree},
		{"( a /b/ )", api.ErrTree},
		{"( a /b/ /c/ c )", api.ErrTree},
		{"( ( a /b/ b ) /c/ ( c /d/ ) )", api.ErrTree},
		// A branch with one kid, or none.
		{"( a )", api.ErrTree},
		{"( ( a ) /b/ ( b ) )", api.ErrTree},
		{"( ( a /b/ b ) /c/ ( c ) )", api.ErrTree},
	} {
		_, p := diskOf(t, 40)
		root := planted(t, p, x.plan)
		if e := Check(p, root); e != x.want {
			t.Errorf("P9.2: %q: %v, want %v", x.plan, e, x.want)
		}
		if x.want == api.OK {
			looked(t, p, root)
		}
	}
}

// TestCheckOfPagesReachedTwice: P9.2, though the keys would allow it (of what can't be read too).
func TestCheckOfPagesReachedTwice(t *testing.T) {
	_, p := diskOf(t, 40)
	a := raw(t, p, leafBytes("a"))
	self, e := p.Alloc()
	if e != api.OK {
		t.Fatal(e)
	}
	rewrite(t, p, self, branchBytes([]string{"b"}, a, self))
	unwritten, e := p.Alloc()
	if e != api.OK {
		t.Fatal(e)
	}
	for i, root := range []uint32{
		raw(t, p, branchBytes([]string{"b"}, a, a)),
		self,
		raw(t, p, branchBytes([]string{"b"}, unwritten, unwritten)),
		raw(t, p, branchBytes([]string{"b"}, 1000, 1000)),
		raw(t, p, branchBytes([]string{"b"}, math.MaxUint32, math.MaxUint32)),
	} {
		if e := Check(p, root); e != api.ErrTree {
			t.Errorf("P9.2: row %d: %v", i, e)
		}
	}
}

// TestCheckOfWhatIsNoNode: P9.2.
func TestCheckOfWhatIsNoNode(t *testing.T) {
	_, p := diskOf(t, 40)
	for _, b := range []string{"", "\x00", "\x03\x00\x00", "\x01", "\x01\x00", "\x02", "\x02\x00\x00", "\x02\x00\x00\x00\x00\x00\x01", "what", leafBytes("a") + "x", leafBytes("a")[:7], leafBytes(strings.Repeat("a", 61))} {
		id := raw(t, p, b)
		above := raw(t, p, branchBytes([]string{"b"}, raw(t, p, leafBytes("a")), id))
		for _, root := range []uint32{id, above} {
			if e := Check(p, root); e != api.ErrTree {
				t.Errorf("P9.2: %q at %d: %v", b, root, e)
			}
		}
		for _, free := range p.Used() {
			p.Free(free)
		}
	}
}

// TestPagersErrors: P9.2: pages that aren't there, were never written, or were changed on the disk; ErrTree goes ahead of them.
func TestPagersErrors(t *testing.T) {
	d, p := diskOf(t, 40)
	unwritten, e := p.Alloc()
	if e != api.OK {
		t.Fatal(e)
	}
	freed := raw(t, p, leafBytes("c"))
	p.Free(freed)
	spoilt := raw(t, p, leafBytes("c"))
	rewrite(t, p, spoilt, leafBytes("c"))
	fresh := func(b string) uint32 { return raw(t, p, b) }
	for _, x := range []struct {
		name string
		page uint32
		want api.Errno
	}{{"none", 1000, api.ErrPage}, {"unwritten", unwritten, api.ErrPage}, {"free", 39, api.ErrPage}, {"spoilt", spoilt, api.ErrSeal}} {
		if x.page == spoilt {
			d.Write(32+8*int(spoilt)+1, []byte("changed"))
		}
		if e := Check(p, x.page); e != x.want {
			t.Errorf("P9.2: %s alone: %v", x.name, e)
		}
		last := fresh(branchBytes([]string{"c"}, fresh(leafBytes("a")), x.page))
		first := fresh(branchBytes([]string{"b"}, x.page, fresh(leafBytes("b"))))
		for _, root := range []uint32{last, first} {
			if e := Check(p, root); e != x.want {
				t.Errorf("P9.2: %s: %v, want %v", x.name, e, x.want)
			}
			if l, e := Reach(p, root); len(l) != 0 || e != x.want {
				t.Errorf("P9.2: Reach, %s: %v, %v", x.name, l, e)
			}
			if n, e := Len(p, root); n != 0 || e != x.want {
				t.Errorf("P9.1: Len, %s: %d, %v", x.name, n, e)
			}
			if l, e := Scan(p, root, "", "", 9); len(l) != 0 || e != x.want {
				t.Errorf("P9.1: Scan, %s: %v, %v", x.name, l, e)
			}
		}
		for _, b := range []string{
			branchBytes([]string{"b"}, x.page, fresh(leafBytes("a"))),
			branchBytes([]string{"b"}, x.page, fresh(leafBytes())),
			branchBytes([]string{"b", "c"}, x.page, fresh(leafBytes("b")), fresh(branchBytes([]string{"d"}, fresh(leafBytes("c")), fresh(leafBytes("d"))))),
			branchBytes([]string{"c"}, fresh(branchBytes([]string{"d"}, x.page, 1001)), 1002),
			branchBytes([]string{"c"}, 1001, fresh(branchBytes([]string{"c"}, x.page, 1002))),
			branchBytes([]string{"c"}, x.page, x.page),
		} {
			if e := Check(p, fresh(b)); e != api.ErrTree {
				t.Errorf("P9.2: %s, and no tree: %v", x.name, e)
			}
		}
		for _, id := range p.Used() {
			if id != unwritten && id != spoilt {
				p.Free(id)
			}
		}
	}
}

// wide is a tree of 24 leaves below one branch; spoil makes the leaf of a key unreadable.
func wide(t *testing.T) (p *pager.Pager, root uint32, spoil func(key string)) {
	d, p := diskOf(t, 80)
	var keys []string
	var kids []uint32
	for i := range 24 {
		k := fmt.Sprintf("%02d", i)
		keys, kids = append(keys, k), append(kids, raw(t, p, leafBytes(k, k+"m", k+"z")))
	}
	return p, raw(t, p, branchBytes(keys[1:], kids...)), func(key string) {
		d.Write(32+8*int(kids[slices.Index(keys, key)])+1, []byte("changed"))
	}
}

// TestOnlyWhatIsAskedForIsRead: P9.1: what is asked elsewhere in the tree doesn't see a page that can't be read; what is asked there tells so, and changes nothing.
func TestOnlyWhatIsAskedForIsRead(t *testing.T) {
	t.Parallel()
	p, root, spoil := wide(t)
	spoil("05")
	used := p.Used()
	for i := range 24 {
		k := fmt.Sprintf("%02d", i)
		want, is := api.OK, "v"
		if k == "05" {
			want, is = api.ErrSeal, ""
		}
		for _, key := range []string{k, k + "m", k + "z"} {
			if v, had, e := Get(p, root, key); v != is || had != (is != "") || e != want {
				t.Errorf("P9.1: Get of %s: %q, %v, %v", key, v, had, e)
			}
			if l, e := Scan(p, root, key, key+"\x00", 9); len(l) != len(is) || e != want {
				t.Errorf("P9.1: Scan of %s: %v, %v", key, l, e)
			}
			next, e := Put(p, root, key, "new")
			if e != want || (next == 0) != (e != api.OK) || e != api.OK && !slices.Equal(p.Used(), used) {
				t.Errorf("P9.1: Put of %s: %d, %v", key, next, e)
			}
			after, had, f := Delete(p, root, key)
			if f != want || had != (f == api.OK) || (after == 0) != (f != api.OK) || f != api.OK && !slices.Equal(p.Used(), used) {
				t.Errorf("P9.1: Delete of %s: %d, %v, %v", key, after, had, f)
			}
			if e == api.OK {
				has(t, p, next, map[string]string{key: "new"}, key)
				has(t, p, after, nil, key)
			}
			for _, id := range p.Used() {
				if !slices.Contains(used, id) {
					p.Free(id)
				}
			}
		}
	}
	for _, x := range []struct {
		from, to string
		most     int
		want     api.Errno
	}{
		{"", "05", 99, api.OK}, {"", "050", 99, api.ErrSeal}, {"", "", 15, api.OK}, {"", "", 16, api.ErrSeal}, {"06", "", 99, api.OK},
		{"05zz", "", 99, api.ErrSeal}, {"05zz", "", 0, api.OK}, {"05", "05", 99, api.OK}, {"07", "03", 99, api.OK}, {"04", "06", -1, api.OK},
	} {
		if l, e := Scan(p, root, x.from, x.to, x.most); e != x.want || e != api.OK && len(l) > 0 {
			t.Errorf("P9.1: Scan from %q until %q, %d: %v, %v", x.from, x.to, x.most, l, e)
		}
	}
}

// TestLoneBranchesBorrow: P9.2: a branch that has one kid left takes some of a full one's beside it, on either side; the key between may be longer than the one that was there.
func TestLoneBranchesBorrow(t *testing.T) {
	long := func(s string) string { return s + strings.Repeat("k", 60-len(s)) }
	full := func(first string) string {
		plan := "( " + long(first+"0")
		for i := 1; i < 8; i++ {
			k := long(fmt.Sprint(first, i))
			plan += " /" + k + "/ " + k
		}
		return plan + " )"
	}
	for _, x := range []struct{ plan, key string }{
		{"( ( a /b/ b ) /c/ " + full("d") + " )", "a"},
		{"( ( a /b/ b ) /c/ " + full("d") + " )", "b"},
		{"( " + full("d") + " /e/ ( e /f/ f ) )", "e"},
		{"( " + full("d") + " /e/ ( e /f/ f ) )", "f"},
		{"( " + full("d") + " /e/ ( e /f/ f ) /g/ " + full("g") + " )", "f"},
		{"( ( " + full("a") + " /b/ ( b /c/ c ) ) /d/ ( " + full("d") + " /e/ " + full("e") + " ) )", "c"},
		{"( " + full("a") + " /b/ ( b /c/ c ) " + between("d", full) + " )", "b"},
	} {
		_, p := diskOf(t, 200)
		root := planted(t, p, x.plan)
		pairs, _, _ := looked(t, p, root)
		m := map[string]string{}
		for _, y := range pairs {
			m[y.Key] = y.Val
		}
		was, check := p.Used(), stays(t, p, root)
		next := drop(t, p, root, x.key)
		delete(m, x.key)
		holds(t, "P9.2", p, next, m)
		noneLost(t, p, was, next)
		check()
	}
}

// between is a row of full branches, with keys of 60 bytes between them: the branch above them is full too, once a key of one byte gives way to a long one.
func between(first string, full func(string) string) string {
	row := ""
	for i := range 6 {
		k := fmt.Sprint(first, i)
		row += " /" + k + strings.Repeat("0", 60-len(k)) + "/ " + full(k)
	}
	return row
}

// TestABranchGrowsByADelete: P9.2: keys of one byte give way to long ones, until the branch above is cut in two.
func TestABranchGrowsByADelete(t *testing.T) {
	_, p := diskOf(t, 200)
	// The branch beside the one that will be lone has 477 bytes; the one above has 426, and 485 once its key b is as long as the others.
	plan := "( ( " + strings.Repeat("a", 60) + " /ab/ ab ) /b/ ( "
	for i := range 8 {
		if i > 0 {
			plan += fmt.Sprintf(" /b%059d/ ", i)
		}
		plan += fmt.Sprintf("b%059d", i)
	}
	plan += " /bz/ bz )"
	for i := range 6 {
		plan += fmt.Sprintf(" /%s%059d/ ( %s%059d /%sx/ %sx )", string(rune('c'+i)), 0, string(rune('c'+i)), 0, string(rune('c'+i)), string(rune('c'+i)))
	}
	plan += " /z123456789/ ( z2 /zz/ zz ) )"
	root := planted(t, p, plan)
	pairs, _, depth := looked(t, p, root)
	m := map[string]string{}
	for _, y := range pairs {
		m[y.Key] = y.Val
	}
	delete(m, "ab")
	next := drop(t, p, root, "ab")
	holds(t, "P9.2", p, next, m)
	if _, _, now := looked(t, p, next); now != depth+1 {
		t.Errorf("it is %d deep, it was %d: the branch wasn't cut", now, depth)
	}
}

// TestPagesAreFilled: a leaf and a branch of 480 bytes are one page, of 481 two.
func TestPagesAreFilled(t *testing.T) {
	for more := -1; more <= 1; more++ {
		want := 1 + max(more, 0)
		p, root := begun(t, 40)
		m := map[string]string{"c": strings.Repeat("v", 44+more)}
		for _, k := range []string{"a", "b"} {
			m[strings.Repeat(k, 60)] = strings.Repeat("v", 150)
		}
		for k, v := range m {
			root = put(t, p, root, k, v)
		}
		holds(t, "P9.2", p, root, m)
		if _, _, depth := looked(t, p, root); depth != want {
			t.Errorf("a leaf of %d bytes: %d levels", 480+more, depth)
		}

		// A leaf that is cut in two gives the branch above it a key of 60 bytes and a kid.
		_, p = diskOf(t, 40)
		plan := "("
		for i := range 7 {
			plan += fmt.Sprintf(" a%059d", i)
		}
		for i := range 6 {
			plan += fmt.Sprintf(" /b%059d/ b%059d", i, i)
		}
		root = planted(t, p, plan+" /"+strings.Repeat("c", 5+more)+"/ d )")
		pairs, _, _ := looked(t, p, root)
		m = map[string]string{}
		for _, x := range pairs {
			m[x.Key] = x.Val
		}
		k := fmt.Sprintf("a%059d", 7)
		m[k] = "v"
		root = put(t, p, root, k, "v")
		holds(t, "P9.2", p, root, m)
		if _, _, depth := looked(t, p, root); depth != 1+want {
			t.Errorf("a branch of %d bytes: %d levels", 480+more, depth)
		}
	}
}

// TestAnEmptyLeafGoes: P9.1, P9.2: whatever is beside it; the branch above is all that is written.
func TestAnEmptyLeafGoes(t *testing.T) {
	for i, gone := range []string{"a", "b", "c"} {
		d, p := diskOf(t, 40)
		kids := []uint32{raw(t, p, leafBytes("a")), raw(t, p, leafBytes("b")), raw(t, p, leafBytes("c"))}
		root := raw(t, p, branchBytes([]string{"b", "c"}, kids...))
		left := slices.Delete(slices.Clone(kids), i, i+1)
		for _, id := range left {
			d.Write(32+8*int(id)+1, []byte("changed"))
		}
		used := len(p.Used())
		next := drop(t, p, root, gone)
		b, e := p.Read(next)
		if e != api.OK || len(p.Used()) != used+1 || !slices.Equal(plainOf(b).kids, left) {
			t.Errorf("P9.1: without %s: %q, %v", gone, b, e)
		}
		has(t, p, root, map[string]string{gone: "v"}, gone)
	}
}

// TestUnevenTreesLoseNothing: of a root that is none of the calls', whatever; but no pair goes by a change elsewhere.
func TestUnevenTreesLoseNothing(t *testing.T) {
	for _, plan := range []string{"( a aa /b/ ( b /c/ c ) )", "( ( a /b/ b ) /c/ c cc )", "( ( a /b/ b ) /c/ c cc /d/ ( d /e/ e ) )"} {
		for _, key := range []string{"aa", "cc", "d"} {
			_, p := diskOf(t, 40)
			root := planted(t, p, plan)
			l, e := Scan(p, root, "", "", 9)
			if e != api.OK {
				t.Fatal(e)
			}
			next, e := Put(p, root, key, "v")
			after, _, f := Delete(p, root, key)
			for _, x := range l {
				if e == api.OK {
					has(t, p, next, map[string]string{x.Key: "v"}, x.Key)
				}
				if f == api.OK && x.Key != key {
					has(t, p, after, map[string]string{x.Key: "v"}, x.Key)
				}
			}
		}
	}
}

// TestUnreadableBeside: P9.1: a lone branch with nothing readable beside it: the pager's error, and no page was taken; with one of two it goes together with that.
func TestUnreadableBeside(t *testing.T) {
	for _, x := range []struct {
		spoilt []int
		want   api.Errno
	}{{nil, api.OK}, {[]int{0}, api.OK}, {[]int{2}, api.OK}, {[]int{0, 2}, api.ErrSeal}} {
		d, p := diskOf(t, 60)
		kids := []uint32{planted(t, p, "( a /b/ b )"), planted(t, p, "( c /d/ d )"), planted(t, p, "( e /f/ f )")}
		root := raw(t, p, branchBytes([]string{"c", "e"}, kids...))
		for _, i := range x.spoilt {
			d.Write(32+8*int(kids[i])+1, []byte("changed"))
		}
		used := p.Used()
		next, had, e := Delete(p, root, "d")
		if e != x.want || had != (e == api.OK) || e != api.OK && (next != 0 || !slices.Equal(p.Used(), used)) {
			t.Errorf("P9.1: %v spoilt: %d, %v, %v", x.spoilt, next, had, e)
		}
		if e == api.OK {
			has(t, p, next, map[string]string{"c": "v"}, "c")
			has(t, p, next, nil, "d")
		}
	}
}

// all asks every call of a root, whatever it is; a call that fails has changed nothing, one that doesn't no page that was there.
func all(t *testing.T, p *pager.Pager, root uint32, key string) {
	t.Helper()
	used := p.Used()
	was := readable(p, used)
	check := func(name string, e api.Errno) {
		t.Helper()
		if e != api.OK && !slices.Equal(p.Used(), used) {
			t.Fatalf("P9.1: %s of page %d tells %v and changed what is used", name, root, e)
		}
		if !slices.Equal(readable(p, used), was) {
			t.Fatalf("P9.1: %s of page %d changed a page", name, root)
		}
		for _, id := range p.Used() {
			if !slices.Contains(used, id) {
				p.Free(id)
			}
		}
	}
	_, _, e := Get(p, root, key)
	check("Get", e)
	_, e = Put(p, root, key, strings.Repeat("v", 150))
	check("Put", e)
	_, e = Put(p, root, key, "")
	check("Put", e)
	_, _, e = Delete(p, root, key)
	check("Delete", e)
	_, e = Scan(p, root, "", "", math.MaxInt)
	check("Scan", e)
	_, e = Scan(p, root, key, "", 5)
	check("Scan", e)
	_, e = Reach(p, root)
	check("Reach", e)
	_, e = Len(p, root)
	check("Len", e)
	check("Check", Check(p, root))
}

func readable(p *pager.Pager, pages []uint32) []string {
	var l []string
	for _, id := range pages {
		b, e := p.Read(id)
		l = append(l, fmt.Sprint(string(b), e))
	}
	return l
}

// TestForeignRootsComeBack: P9.2: rings, and pages that are reached ever so often.
func TestForeignRootsComeBack(t *testing.T) {
	t.Parallel()
	_, p := diskOf(t, 400)
	var ids []uint32
	for range 60 {
		id, e := p.Alloc()
		if e != api.OK {
			t.Fatal(e)
		}
		ids = append(ids, id)
	}
	var keys []string
	for i := range 40 {
		keys = append(keys, fmt.Sprintf("%02d", i))
	}
	// A ladder: each branch has the next page forty times; the last is a leaf, then a ring.
	for _, last := range []string{leafBytes("a"), branchBytes(keys, slices.Repeat(ids[:1], 41)...), branchBytes(keys[:1], ids[59], ids[59])} {
		for i, id := range ids[:59] {
			rewrite(t, p, id, branchBytes(keys, slices.Repeat([]uint32{ids[i+1]}, 41)...))
		}
		rewrite(t, p, ids[59], last)
		for _, root := range []uint32{ids[0], ids[30], ids[58], ids[59]} {
			all(t, p, root, "20")
		}
		if e := Check(p, ids[0]); e != api.ErrTree {
			t.Errorf("P9.2: a ladder: %v", e)
		}
	}
	// A long row: each branch has the next and a leaf of its own.
	end := raw(t, p, leafBytes("z"))
	for i := range 150 {
		end = raw(t, p, branchBytes([]string{fmt.Sprintf("%03d", i)}, raw(t, p, leafBytes("a")), end))
	}
	for _, key := range []string{"a", "z", "075"} {
		all(t, p, end, key)
	}
	if e := Check(p, end); e != api.ErrTree {
		t.Errorf("P9.2: a long row: %v", e)
	}
	all(t, p, 399, "a")
	all(t, p, math.MaxUint32, "a")
}

// TestStrewnRoots: P9.2, rule 1: pages of strewn nodes over each other.
func TestStrewnRoots(t *testing.T) {
	t.Parallel()
	r := rand.New(rand.NewSource(4))
	for range 160 {
		_, p := diskOf(t, 40)
		pages := 2 + r.Intn(12)
		for i := range pages {
			var keys []string
			for range 1 + r.Intn(6) {
				keys = append(keys, strings.Repeat(string(rune('a'+r.Intn(8))), []int{1, 2, 60}[r.Intn(3)]))
			}
			if r.Intn(6) > 0 {
				slices.Sort(keys)
				keys = slices.Compact(keys)
			}
			var kids []uint32
			for range len(keys) + 1 {
				kids = append(kids, uint32(r.Intn(pages+1)))
			}
			b := branchBytes(keys, kids...)
			if r.Intn(2) == 0 || i == 0 {
				b = leafBytes(keys[:r.Intn(len(keys)+1)]...)
			}
			if r.Intn(20) == 0 {
				b = b[:r.Intn(len(b))]
			}
			raw(t, p, b)
		}
		for root := range uint32(pages + 1) {
			all(t, p, root, string(rune('a'+r.Intn(8))))
		}
	}
}

// TestPowerAtEachStep: the pager's ErrPower, from whichever step on; behind a crash the committed tree is there, whole.
func TestPowerAtEachStep(t *testing.T) {
	t.Parallel()
	begin := func() (*sector.Disk, *pager.Pager, uint32, map[string]string) {
		d, p := diskOf(t, 60)
		root, e := Empty(p)
		if e != api.OK {
			t.Fatal(e)
		}
		m := map[string]string{}
		for i := range 12 {
			k := fmt.Sprintf("%02d", i)
			m[k] = strings.Repeat("v", 90)
			root = put(t, p, root, k, m[k])
			keepOnly(t, p, root)
			if e := p.Commit(root, ""); e != api.OK {
				t.Fatal(e)
			}
		}
		return d, p, root, m
	}
	calls := map[string]func(p *pager.Pager, root uint32) (bool, api.Errno){
		"Empty": func(p *pager.Pager, root uint32) (bool, api.Errno) {
			next, e := Empty(p)
			return next == 0, e
		},
		"Put": func(p *pager.Pager, root uint32) (bool, api.Errno) {
			next, e := Put(p, root, "055", strings.Repeat("n", 150))
			return next == 0, e
		},
		"Delete": func(p *pager.Pager, root uint32) (bool, api.Errno) {
			next, had, e := Delete(p, root, "05")
			return next == 0 && !had, e
		},
	}
	for name, call := range calls {
		cuts := 0
		for at := 1; ; at++ {
			d, p, root, m := begin()
			d.Power(at)
			zero, e := call(p, root)
			if e == api.OK {
				break
			}
			cuts++
			if e != api.ErrPower || !zero {
				t.Fatalf("P9.1: %s, power off at step %d: %v", name, at, e)
			}
			for again, other := range calls {
				if zero, e := other(p, root); e != api.ErrPower || !zero {
					t.Fatalf("P9.1: %s behind it: %v", again, e)
				}
			}
			if v, had, e := Get(p, root, "05"); v != "" || had || e != api.ErrPower {
				t.Fatalf("P9.1: Get behind it: %v", e)
			}
			if l, e := Scan(p, root, "", "", 9); len(l) > 0 || e != api.ErrPower {
				t.Fatalf("P9.1: Scan behind it: %v", e)
			}
			if l, e := Reach(p, root); len(l) > 0 || e != api.ErrPower {
				t.Fatalf("P9.2: Reach behind it: %v", e)
			}
			if n, e := Len(p, root); n != 0 || e != api.ErrPower {
				t.Fatalf("P9.1: Len behind it: %v", e)
			}
			if e := Check(p, root); e != api.ErrPower {
				t.Fatalf("P9.2: Check behind it: %v", e)
			}
			d.Crash([]uint8{255, 3, 0, 255})
			p, e = pager.Open(d, api.Key{9})
			if e != api.OK || p.Root() != root {
				t.Fatalf("P9.3: opened again: %v", e)
			}
			holds(t, "P9.3", p, root, m)
		}
		if cuts == 0 {
			t.Errorf("%s takes no step", name)
		}
	}
}
