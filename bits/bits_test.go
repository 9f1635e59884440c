package bits

import (
	"bytes"
	"math"
	"strings"
	"testing"

	"sacristy/api"
)

// turnedSlowly turns by one place at a time, to the left.
func turnedSlowly(x uint32, places int) uint32 {
	for range places {
		top := x >> 31
		x = x<<1 | top
	}
	return x
}

var words = []uint32{0, 1, 2, 0x80000000, 0xffffffff, 0x01020304, 0xdeadbeef, 0x7fffffff}

func TestTurned(t *testing.T) { // P1.1
	for _, x := range words {
		for n := -100; n <= 100; n++ {
			left := turnedSlowly(x, (n+128)%32)
			right := turnedSlowly(x, (128-n)%32)
			if got := Rotl(x, n); got != left {
				t.Errorf("Rotl(%#x, %d) = %#x, want %#x", x, n, got, left)
			}
			if got := Rotr(x, n); got != right {
				t.Errorf("Rotr(%#x, %d) = %#x, want %#x", x, n, got, right)
			}
		}
	}
}

func TestTurnedAtTheEnds(t *testing.T) { // P1.1
	for _, c := range []struct {
		x           uint32
		n           int
		left, right uint32
	}{
		{1, 31, 2147483648, 2},
		{1, 0, 1, 1},
		{0x80000001, 32, 0x80000001, 0x80000001},
		{0x80000001, -32, 0x80000001, 0x80000001},
		{0x12345678, 33, 0x2468acf0, 0x091a2b3c},
		{0x12345678, -1, 0x091a2b3c, 0x2468acf0},
		{0x12345678, math.MinInt, 0x12345678, 0x12345678},
		{0x12345678, math.MinInt + 1, 0x2468acf0, 0x091a2b3c},
		{0x12345678, math.MaxInt, 0x091a2b3c, 0x2468acf0},
		{0x12345678, 1 << 30, 0x12345678, 0x12345678},
	} {
		if got := Rotl(c.x, c.n); got != c.left {
			t.Errorf("Rotl(%#x, %d) = %#x, want %#x", c.x, c.n, got, c.left)
		}
		if got := Rotr(c.x, c.n); got != c.right {
			t.Errorf("Rotr(%#x, %d) = %#x, want %#x", c.x, c.n, got, c.right)
		}
	}
}

func TestWordsOfBytes(t *testing.T) { // P1.1
	for _, c := range []struct {
		b           []byte
		big, little uint32
	}{
		{nil, 0, 0},
		{[]byte{}, 0, 0},
		{[]byte{0xa1}, 0xa1000000, 0xa1},
		{[]byte{0xa1, 0xb2}, 0xa1b20000, 0xb2a1},
		{[]byte{0xa1, 0xb2, 0xc3}, 0xa1b2c300, 0xc3b2a1},
		{[]byte{0xa1, 0xb2, 0xc3, 0xd4}, 0xa1b2c3d4, 0xd4c3b2a1},
		{[]byte{0xa1, 0xb2, 0xc3, 0xd4, 0xe5}, 0xa1b2c3d4, 0xd4c3b2a1},
		{[]byte{0xa1, 0xb2, 0xc3, 0xd4, 0xe5}[:2], 0xa1b20000, 0xb2a1},
		{[]byte{255, 255, 255, 255}, math.MaxUint32, math.MaxUint32},
	} {
		if got := Big(c.b); got != c.big {
			t.Errorf("Big(%x) = %#x, want %#x", c.b, got, c.big)
		}
		if got := Little(c.b); got != c.little {
			t.Errorf("Little(%x) = %#x, want %#x", c.b, got, c.little)
		}
	}
}

func TestBytesOfWords(t *testing.T) { // P1.1
	if got, want := PutBig(0xa1b2c3d4), [4]byte{0xa1, 0xb2, 0xc3, 0xd4}; got != want {
		t.Errorf("PutBig: %x, want %x", got, want)
	}
	if got, want := PutLittle(0xa1b2c3d4), [4]byte{0xd4, 0xc3, 0xb2, 0xa1}; got != want {
		t.Errorf("PutLittle: %x, want %x", got, want)
	}
}

func TestPut(t *testing.T) { // P1.2
	const n = 0x0102030405060708
	whole := []byte{1, 2, 3, 4, 5, 6, 7, 8}
	for _, c := range []struct {
		b     []byte
		n     uint64
		bytes int
		want  []byte
	}{
		{nil, n, 0, nil},
		{nil, n, 1, []byte{8}},
		{nil, n, 3, []byte{6, 7, 8}},
		{nil, n, 8, whole},
		{nil, n, 9, whole},
		{nil, n, math.MaxInt, whole},
		{nil, n, -1, nil},
		{nil, n, math.MinInt, nil},
		{[]byte{9, 9}, n, 2, []byte{9, 9, 7, 8}},
		{[]byte{9, 9}, n, -1, []byte{9, 9}},
		{[]byte{9}, 5, 4, []byte{9, 0, 0, 0, 5}},
		{nil, math.MaxUint64, 8, bytes.Repeat([]byte{255}, 8)},
		{nil, 256, 1, []byte{0}},
	} {
		if got := Put(c.b, c.n, c.bytes); !bytes.Equal(got, c.want) {
			t.Errorf("Put(%x, %#x, %d) = %x, want %x", c.b, c.n, c.bytes, got, c.want)
		}
	}
}

func TestGet(t *testing.T) { // P1.2
	ten := []byte{1, 2, 3, 4, 5, 6, 7, 8, 9, 10}
	for _, c := range []struct {
		b     []byte
		bytes int
		n     uint64
		rest  []byte
		e     api.Errno
	}{
		{ten, 0, 0, ten, api.OK},
		{ten, -1, 0, ten, api.OK},
		{ten, math.MinInt, 0, ten, api.OK},
		{ten, 1, 1, ten[1:], api.OK},
		{ten, 3, 0x010203, ten[3:], api.OK},
		{ten, 8, 0x0102030405060708, ten[8:], api.OK},
		{ten, 9, 0x0102030405060708, ten[8:], api.OK},
		{ten, math.MaxInt, 0x0102030405060708, ten[8:], api.OK},
		{ten[:8], 8, 0x0102030405060708, nil, api.OK},
		{ten[:7], 8, 0, ten[:7], api.ErrShort},
		{ten[:7], 9, 0, ten[:7], api.ErrShort},
		{ten[:1], 2, 0, ten[:1], api.ErrShort},
		{nil, 1, 0, nil, api.ErrShort},
		{nil, 0, 0, nil, api.OK},
	} {
		n, rest, e := Get(c.b, c.bytes)
		if n != c.n || !bytes.Equal(rest, c.rest) || e != c.e {
			t.Errorf("Get(%x, %d) = %#x, %x, %v, want %#x, %x, %v", c.b, c.bytes, n, rest, e, c.n, c.rest, c.e)
		}
	}
}

func TestText(t *testing.T) { // P1.2
	for _, c := range []struct {
		b    []byte
		s    string
		want string
	}{
		{nil, "", "\x00\x00"},
		{nil, "abc", "\x00\x03abc"},
		{[]byte("x"), "abc", "x\x00\x03abc"},
		{nil, "\x00\xff\xc3", "\x00\x03\x00\xff\xc3"},
		{nil, strings.Repeat("a", 256), "\x01\x00" + strings.Repeat("a", 256)},
		{nil, strings.Repeat("a", 65535), "\xff\xff" + strings.Repeat("a", 65535)},
		{[]byte("x"), strings.Repeat("a", 65535) + "b", "x\xff\xff" + strings.Repeat("a", 65535)},
		{nil, strings.Repeat("a", 65535) + strings.Repeat("b", 65537), "\xff\xff" + strings.Repeat("a", 65535)},
	} {
		if got := Text(c.b, c.s); string(got) != c.want {
			t.Errorf("Text(%x, %d bytes): %d bytes, want %d, or unlike ones", c.b, len(c.s), len(got), len(c.want))
		}
	}
}

func TestGetText(t *testing.T) { // P1.2
	long := strings.Repeat("a", 65535)
	for _, c := range []struct {
		b    string
		most int
		s    string
		rest string
		e    api.Errno
	}{
		{"\x00\x03abc", 3, "abc", "", api.OK},
		{"\x00\x03abcdef", 3, "abc", "def", api.OK},
		{"\x00\x03abc", math.MaxInt, "abc", "", api.OK},
		{"\x00\x03abc", 2, "", "\x00\x03abc", api.ErrLong},
		{"\x00\x03ab", 2, "", "\x00\x03ab", api.ErrLong},
		{"\x00\x03ab", 3, "", "\x00\x03ab", api.ErrShort},
		{"\x00\x03", 3, "", "\x00\x03", api.ErrShort},
		{"\x00", 3, "", "\x00", api.ErrShort},
		{"\xff", 3, "", "\xff", api.ErrShort},
		{"", 3, "", "", api.ErrShort},
		{"", -1, "", "", api.ErrShort},
		{"\x00\x00", 0, "", "", api.OK},
		{"\x00\x00x", 0, "", "x", api.OK},
		{"\x00\x00", -1, "", "\x00\x00", api.ErrLong},
		{"\x00\x00", math.MinInt, "", "\x00\x00", api.ErrLong},
		{"\xff\xff" + long, 65535, long, "", api.OK},
		{"\xff\xff" + long, 65534, "", "\xff\xff" + long, api.ErrLong},
		{"\x01\x02" + long[:258] + "z", 258, long[:258], "z", api.OK},
	} {
		s, rest, e := GetText([]byte(c.b), c.most)
		if s != c.s || string(rest) != c.rest || e != c.e {
			t.Errorf("GetText(%.20q, %d) = %.20q, %.20q, %v, want %.20q, %.20q, %v", c.b, c.most, s, rest, e, c.s, c.rest, c.e)
		}
	}
}

func TestXor(t *testing.T) { // P1.2
	for _, c := range []struct{ a, b, want []byte }{
		{nil, nil, nil},
		{nil, []byte{1}, nil},
		{[]byte{1}, nil, nil},
		{[]byte{1, 2, 3}, []byte{3, 3}, []byte{2, 1}},
		{[]byte{3, 3}, []byte{1, 2, 3}, []byte{2, 1}},
		{[]byte{0xff, 0xf0, 0}, []byte{0xff, 0x0f, 0x5a}, []byte{0, 0xff, 0x5a}},
	} {
		if got := Xor(c.a, c.b); !bytes.Equal(got, c.want) {
			t.Errorf("Xor(%x, %x) = %x, want %x", c.a, c.b, got, c.want)
		}
	}
}

func TestThereAndBack(t *testing.T) { // P1.3
	for _, x := range words {
		big, little := PutBig(x), PutLittle(x)
		if Big(big[:]) != x || Little(little[:]) != x {
			t.Errorf("%#x isn't got as it was put", x)
		}
		for _, n := range []int{0, 1, 7, 31, 32, 33, -1, -31, -33, math.MinInt, math.MaxInt} {
			if Rotr(Rotl(x, n), n) != x || Rotl(Rotr(x, n), n) != x || Rotl(Rotl(x, n), -n) != x {
				t.Errorf("%#x turned by %d and back isn't itself", x, n)
			}
		}
	}
}

func TestPutIsGot(t *testing.T) { // P1.3
	const n = 0xf1e2d3c4b5a69788
	for size := 0; size <= 8; size++ {
		want := uint64(n) & (1<<(8*size) - 1)
		got, rest, e := Get(append(Put(nil, n, size), 7), size)
		if got != want || !bytes.Equal(rest, []byte{7}) || e != api.OK {
			t.Errorf("in %d bytes: %#x, %x, %v", size, got, rest, e)
		}
	}
	for _, s := range []string{"", "a", "\xff\x00", strings.Repeat("k", 300), strings.Repeat("v", 65535)} {
		b := Text(Put(Text(nil, s), 5, 3), "end")
		got, b, e := GetText(b, len(s))
		five, b, e2 := Get(b, 3)
		end, b, e3 := GetText(b, 3)
		if got != s || five != 5 || end != "end" || len(b) != 0 || e != 0 || e2 != 0 || e3 != 0 {
			t.Errorf("a text of %d bytes isn't got as it was put", len(s))
		}
	}
}

// roomy is b with room behind it that holds 0xee.
func roomy(b string) []byte {
	whole := append([]byte(b), bytes.Repeat([]byte{0xee}, 16)...)
	return whole[:len(b)]
}

// TestMemory: nothing that is handed in is changed, its room neither; answers share nothing (DOC.md, rule 3).
func TestMemory(t *testing.T) {
	calls := map[string]func(b []byte) []byte{
		"Put":                 func(b []byte) []byte { return Put(b, 0x1122, 2) },
		"Put of no bytes":     func(b []byte) []byte { return Put(b, 0x1122, 0) },
		"Get":                 func(b []byte) []byte { _, rest, _ := Get(b, 1); return rest },
		"Get of no bytes":     func(b []byte) []byte { _, rest, _ := Get(b, 0); return rest },
		"Get, ErrShort":       func(b []byte) []byte { _, rest, _ := Get(b, 8); return rest },
		"Text":                func(b []byte) []byte { return Text(b, "xyz") },
		"Text of none":        func(b []byte) []byte { return Text(b, "") },
		"GetText":             func(b []byte) []byte { _, rest, _ := GetText(b, 9); return rest },
		"GetText, ErrLong":    func(b []byte) []byte { _, rest, _ := GetText(b, 0); return rest },
		"GetText, ErrShort":   func(b []byte) []byte { _, rest, _ := GetText(b[:3], 9); return rest },
		"GetText, no length":  func(b []byte) []byte { _, rest, _ := GetText(b[:1], 9); return rest },
		"Xor as the first":    func(b []byte) []byte { return Xor(b, []byte("abcdefgh")) },
		"Xor as the second":   func(b []byte) []byte { return Xor([]byte("abcdefgh"), b) },
		"Xor with itself":     func(b []byte) []byte { return Xor(b, b) },
		"Xor with the longer": func(b []byte) []byte { return Xor(b[:2], b) },
	}
	for name, call := range calls {
		in := roomy("\x00\x03abcd")
		before := bytes.Clone(in[:cap(in)])
		one, two := call(in), call(in)
		kept := bytes.Clone(two)
		for i := range one[:cap(one)] {
			one[:cap(one)][i] ^= 0x55
		}
		if !bytes.Equal(in[:cap(in)], before) {
			t.Errorf("%s: what was handed in is changed", name)
		}
		if !bytes.Equal(two, kept) {
			t.Errorf("%s: two answers share memory", name)
		}
		for i := range in[:cap(in)] {
			in[:cap(in)][i] ^= 0x55
		}
		if !bytes.Equal(two, kept) {
			t.Errorf("%s: the answer shares memory with what was handed in", name)
		}
	}
}

func TestWordsChangeNothing(t *testing.T) {
	in := roomy("\x01\x02")
	before := bytes.Clone(in[:cap(in)])
	Big(in)
	Little(in)
	if !bytes.Equal(in[:cap(in)], before) {
		t.Error("Big or Little changed what was handed in")
	}
}
