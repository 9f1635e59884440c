package seal

import (
	"bytes"
	"crypto/hmac"
	"crypto/sha256"
	"encoding/binary"
	"encoding/hex"
	"math"
	"testing"

	"sacristy/api"
	"sacristy/stream"
)

func sample(n int) []byte {
	b := make([]byte, n)
	for i := range b {
		b[i] = byte(i*i>>3 + 7*i + n)
	}
	return b
}

// roomy is b with room behind it that isn't noughts.
func roomy(b []byte) []byte {
	whole := append(bytes.Clone(b), bytes.Repeat([]byte{0xee}, 200)...)
	return whole[:len(b)]
}

func spoil(b []byte) {
	for i := range b {
		b[i] ^= 0xff
	}
}

func rising() api.Key {
	var k api.Key
	for i := range k {
		k[i] = byte(i)
	}
	return k
}

func falling() api.Key {
	var k api.Key
	for i := range k {
		k[i] = byte(31 - i)
	}
	return k
}

// hashed is HMAC-SHA-256 as Go's library has it.
func hashed(key []byte, parts ...[]byte) [32]byte {
	h := hmac.New(sha256.New, key)
	for _, p := range parts {
		h.Write(p)
	}
	return [32]byte(h.Sum(nil))
}

// derived is the key of a label and the number 0.
func derived(k api.Key, label string) api.Key {
	return hashed(k[:], []byte(label), []byte{0, 0, 0, 0, 1})
}

func tagged(k api.Key, nonce api.Nonce, aad, cipher []byte) api.Tag {
	key := derived(k, "mac")
	length := binary.BigEndian.AppendUint64(nil, uint64(len(aad)))
	sum := hashed(key[:], length, aad, nonce[:], cipher)
	return api.Tag(sum[:16])
}

// sealed is what Seal is to answer, block by block.
func sealed(k api.Key, nonce api.Nonce, aad, plain []byte) []byte {
	out, key := bytes.Clone(plain), derived(k, "enc")
	for i := range out {
		block := stream.Block(key, nonce, uint32(1+i/64))
		out[i] ^= block[i%64]
	}
	tag := tagged(k, nonce, aad, out)
	return append(out, tag[:]...)
}

// lengths are those about a tag, a block of the stream, a page's plain bytes.
func lengths() []int {
	return []int{0, 1, 4, 15, 16, 17, 31, 32, 33, 63, 64, 65, 127, 128, 129, 255, 256, 257, 480, 496}
}

func refused(t *testing.T, promise, what string, want api.Errno, plain []byte, e api.Errno) {
	t.Helper()
	if e != want || len(plain) != 0 {
		t.Fatalf("%s: %s: %x, %v, want nothing, %v", promise, what, plain, e, want)
	}
}

func TestNonceOf(t *testing.T) { // P5.1
	full := api.Nonce(bytes.Repeat([]byte{0xff}, 12))
	for _, c := range []struct {
		page uint32
		gen  uint64
		want api.Nonce
	}{
		{0, 0, api.Nonce{}},
		{1, 0, api.Nonce{3: 1}},
		{0, 1, api.Nonce{11: 1}},
		{256, 256, api.Nonce{2: 1, 10: 1}},
		{0x01020304, 0x05060708090a0b0c, api.Nonce{1, 2, 3, 4, 5, 6, 7, 8, 9, 10, 11, 12}},
		{math.MaxUint32, 0, api.Nonce{0xff, 0xff, 0xff, 0xff}},
		{0, math.MaxUint32, api.Nonce{8: 0xff, 9: 0xff, 10: 0xff, 11: 0xff}},
		{0, 1 << 32, api.Nonce{7: 1}},
		{1 << 31, 1 << 63, api.Nonce{0: 0x80, 4: 0x80}},
		{math.MaxUint32, math.MaxUint64, full},
	} {
		if got := NonceOf(c.page, c.gen); got != c.want {
			t.Errorf("P5.1: NonceOf(%d, %d): %x, want %x", c.page, c.gen, got, c.want)
		}
	}
}

func TestNonceOfEachBit(t *testing.T) { // P5.1: unlike pages or generations, unlike nonces
	seen := map[api.Nonce]int{NonceOf(0, 0): 1}
	for bit := range 32 {
		seen[NonceOf(1<<bit, 0)]++
	}
	for bit := range 64 {
		seen[NonceOf(0, 1<<bit)]++
	}
	if len(seen) != 1+32+64 {
		t.Errorf("P5.1: %d nonces of %d", len(seen), 1+32+64)
	}
}

func TestTagOfKnown(t *testing.T) { // P5.1: worked out by other programs
	for i, c := range []struct {
		k           api.Key
		nonce       api.Nonce
		aad, cipher string
		tag         string
	}{
		{api.Key{}, api.Nonce{}, "", "", "0dc63f8c2b43675f87c2047f22f3909f"},
		{rising(), NonceOf(1, 2), "aad", "cipher", "11ab29e822dfa8ac4124411eb4176777"},
	} {
		got := TagOf(c.k, c.nonce, []byte(c.aad), []byte(c.cipher))
		if hex.EncodeToString(got[:]) != c.tag {
			t.Errorf("P5.1: case %d: %x, want %s", i, got, c.tag)
		}
	}
}

func TestTagOfEachLength(t *testing.T) { // P5.1
	for _, n := range lengths() {
		for _, m := range lengths() {
			k, nonce, aad, cipher := api.Key(sample(32 + n)[n:]), api.Nonce(sample(12 + m)[m:]), sample(n), sample(m)
			if TagOf(k, nonce, aad, cipher) != tagged(k, nonce, aad, cipher) {
				t.Fatalf("P5.1: %d bytes of aad, %d of cipher", n, m)
			}
		}
	}
	for _, n := range []int{65535, 65536, 1 << 20} { // higher bytes of the length
		long, short := sample(n), sample(5)
		if TagOf(rising(), api.Nonce{1}, long, short) != tagged(rising(), api.Nonce{1}, long, short) {
			t.Errorf("P5.1: %d bytes of aad", n)
		}
		if TagOf(rising(), api.Nonce{1}, short, long) != tagged(rising(), api.Nonce{1}, short, long) {
			t.Errorf("P5.1: %d bytes of cipher", n)
		}
	}
}

func TestSealOfKnown(t *testing.T) { // P5.1: worked out by other programs
	fullKey, fullNonce := api.Key(bytes.Repeat([]byte{0xff}, 32)), api.Nonce(bytes.Repeat([]byte{0xff}, 12))
	for i, c := range []struct {
		k          api.Key
		nonce      api.Nonce
		aad, plain []byte
		want       string
	}{
		{api.Key{}, api.Nonce{}, nil, nil, "0dc63f8c2b43675f87c2047f22f3909f"},
		{rising(), NonceOf(7, 9), []byte("page"), []byte("plain"), "0bff886fa6adf439f5d4b941289cbf360ffe36f139"},
		{rising(), NonceOf(0x01020304, 0x05060708090a0b0c), nil, make([]byte, 65), "5bdcdd413aa2078a62d95f6004eae87f2af44c4bfbe1e9386ec3ec37a2462e85712f9e373deb254bf2226b7ec183fa88ecf449585d07b44518b154036c580baf4db30b7bca74969a9c1424553b16d488ee"},
		{fullKey, fullNonce, make([]byte, 300), []byte{1}, "734399d224c76c7c7d5832c00b8c852674"},
	} {
		got := Seal(c.k, c.nonce, c.aad, c.plain)
		if hex.EncodeToString(got) != c.want {
			t.Errorf("P5.1: case %d: %x, want %s", i, got, c.want)
		}
		plain, e := Open(c.k, c.nonce, c.aad, got)
		if e != api.OK || !bytes.Equal(plain, c.plain) {
			t.Errorf("P5.1: case %d: opened %x, %v", i, plain, e)
		}
	}
}

func TestSealAndOpenOfEachLength(t *testing.T) { // P5.1
	for _, n := range lengths() {
		for _, m := range lengths() {
			k, nonce, aad, plain := api.Key(sample(32 + n)[n:]), api.Nonce(sample(12 + m)[m:]), sample(n), sample(m)
			b := Seal(k, nonce, aad, plain)
			if !bytes.Equal(b, sealed(k, nonce, aad, plain)) {
				t.Fatalf("P5.1: sealed: %d bytes of aad, %d of plain", n, m)
			}
			if got, e := Open(k, nonce, aad, b); e != api.OK || !bytes.Equal(got, plain) {
				t.Fatalf("P5.1: opened: %d bytes of aad, %d of plain: %v", n, m, e)
			}
		}
	}
	long := sample(1 << 20)
	b := Seal(rising(), api.Nonce{}, nil, long)
	if got, e := Open(rising(), api.Nonce{}, nil, b); e != api.OK || !bytes.Equal(got, long) || len(b) != len(long)+16 {
		t.Errorf("P5.1: %d bytes: %v", len(long), e)
	}
}

func TestSealOfNothing(t *testing.T) { // P5.1: a tag
	for _, aad := range [][]byte{nil, {}, []byte("aad")} {
		tag := TagOf(rising(), api.Nonce{5}, aad, nil)
		for _, plain := range [][]byte{nil, {}, roomy(nil)} {
			b := Seal(rising(), api.Nonce{5}, aad, plain)
			if !bytes.Equal(b, tag[:]) {
				t.Errorf("P5.1: %x, want %x", b, tag)
			}
			if got, e := Open(rising(), api.Nonce{5}, aad, b); e != api.OK || len(got) != 0 {
				t.Errorf("P5.1: opened %x, %v", got, e)
			}
		}
	}
}

func TestOpenOfTooFewBytes(t *testing.T) { // P5.1: ErrShort up to 15 bytes, whatever they are
	nonce := NonceOf(3, 4)
	for _, m := range []int{0, 1, 40} {
		b := Seal(rising(), nonce, []byte("aad"), sample(m))
		for n := range 16 {
			for what, cut := range map[string][]byte{"the first": b[:n], "the last": b[len(b)-n:], "others": sample(n)} {
				plain, e := Open(rising(), nonce, []byte("aad"), cut)
				refused(t, "P5.1", what, api.ErrShort, plain, e)
			}
		}
	}
	plain, e := Open(rising(), nonce, []byte("aad"), nil)
	refused(t, "P5.1", "nil", api.ErrShort, plain, e)
	plain, e = Open(rising(), nonce, []byte("aad"), sample(16))
	refused(t, "P5.1", "16 bytes that aren't the tag", api.ErrSeal, plain, e)
}

func TestOpenTakesItsTag(t *testing.T) { // P5.1: whatever bytes with their TagOf behind them are opened
	nonce := NonceOf(3, 4)
	for _, n := range lengths() {
		cipher := sample(n)
		tag := TagOf(rising(), nonce, []byte("aad"), cipher)
		got, e := Open(rising(), nonce, []byte("aad"), append(bytes.Clone(cipher), tag[:]...))
		if e != api.OK || !bytes.Equal(got, stream.Xor(derived(rising(), "enc"), nonce, 1, cipher)) {
			t.Errorf("P5.1: %d bytes: %v", n, e)
		}
		plain, e := Open(rising(), nonce, []byte("aad"), append(tag[:], cipher...))
		if n > 0 {
			refused(t, "P5.1", "the tag ahead", api.ErrSeal, plain, e)
		}
	}
}

func TestWrapOfKnown(t *testing.T) { // P5.2: worked out by other programs
	for i, c := range []struct {
		kek  api.Key
		slot uint32
		gen  uint64
		key  api.Key
		want string
	}{
		{api.Key{}, 0, 0, api.Key{}, "d87f88d68b553cf81aa2f1572cc418217f73ce44cd275bc98f1bd69e955574a34d1c75cbe4afc46041073b782294f80c"},
		{rising(), 23, 1 << 40, falling(), "47f6adf31ca522ec50bf0164bd08733647e6ef2555a732618e27aeb396faf2b4dd621ed6303eaa1613ff9e46b8c432d1"},
	} {
		got := Wrap(c.kek, c.slot, c.gen, c.key)
		if hex.EncodeToString(got[:]) != c.want {
			t.Errorf("P5.2: case %d: %x, want %s", i, got, c.want)
		}
	}
}

func TestWrapIsSeal(t *testing.T) { // P5.2
	for _, slot := range []uint32{0, 1, 23, 24, 256, math.MaxUint32} {
		for _, gen := range []uint64{0, 1, 255, 256, 1 << 32, math.MaxUint64} {
			kek, key := api.Key(sample(32 + int(slot%50))[slot%50:]), falling()
			w := Wrap(kek, slot, gen, key)
			if !bytes.Equal(w[:], sealed(kek, NonceOf(slot, gen), []byte("wrap"), key[:])) {
				t.Errorf("P5.2: slot %d, generation %d: %x", slot, gen, w)
			}
			if got, e := Unwrap(kek, slot, gen, w); got != key || e != api.OK {
				t.Errorf("P5.2: slot %d, generation %d: %x, %v", slot, gen, got, e)
			}
		}
	}
}

func TestUnwrapOfWhatIsNotWrappedSo(t *testing.T) { // P5.2: ErrSeal, and no key
	kek, key := rising(), falling()
	w, nonce := Wrap(kek, 5, 6, key), NonceOf(5, 6)
	for i, c := range []struct {
		kek  api.Key
		slot uint32
		gen  uint64
		w    [48]byte
	}{
		{kek, 4, 6, w}, {kek, 5, 7, w}, {kek, 6, 5, w}, {key, 5, 6, w}, {api.Key{}, 5, 6, w},
		{kek, 5, 6, [48]byte{}},
		{kek, 5, 6, [48]byte(Seal(kek, nonce, nil, key[:]))},
		{kek, 5, 6, [48]byte(Seal(kek, nonce, []byte("page"), key[:]))},
	} {
		if got, e := Unwrap(c.kek, c.slot, c.gen, c.w); got != (api.Key{}) || e != api.ErrSeal {
			t.Errorf("P5.2: case %d: %x, %v", i, got, e)
		}
	}
	for bit := range 48 * 8 {
		bad := w
		bad[bit/8] ^= 1 << (bit % 8)
		if got, e := Unwrap(kek, 5, 6, bad); got != (api.Key{}) || e != api.ErrSeal {
			t.Errorf("P5.2, P5.3: bit %d: %x, %v", bit, got, e)
		}
	}
}

func TestWhatWasChangedIsNotOpened(t *testing.T) { // P5.3: each bit of what is sealed, of aad, of the nonce, of the key
	k, nonce, aad := rising(), NonceOf(7, 9), sample(40)
	for _, n := range []int{0, 1, 63, 64, 65, 480} {
		b := Seal(k, nonce, aad, sample(n))
		for bit := range 8 * len(b) {
			bad := bytes.Clone(b)
			bad[bit/8] ^= 1 << (bit % 8)
			plain, e := Open(k, nonce, aad, bad)
			refused(t, "P5.3", "a bit of what is sealed", api.ErrSeal, plain, e)
		}
	}
	b := Seal(k, nonce, aad, sample(100))
	for bit := range 8 * len(aad) {
		bad := bytes.Clone(aad)
		bad[bit/8] ^= 1 << (bit % 8)
		plain, e := Open(k, nonce, bad, b)
		refused(t, "P5.3", "a bit of aad", api.ErrSeal, plain, e)
	}
	for bit := range 8 * len(nonce) {
		bad := nonce
		bad[bit/8] ^= 1 << (bit % 8)
		plain, e := Open(k, bad, aad, b)
		refused(t, "P5.3", "a bit of the nonce", api.ErrSeal, plain, e)
	}
	for bit := range 8 * len(k) {
		bad := k
		bad[bit/8] ^= 1 << (bit % 8)
		plain, e := Open(bad, nonce, aad, b)
		refused(t, "P5.3", "a bit of the key", api.ErrSeal, plain, e)
	}
}

func TestWhatIsCutOrLongerIsNotOpened(t *testing.T) { // P5.3
	k, nonce, aad := rising(), NonceOf(7, 9), sample(40)
	b := Seal(k, nonce, aad, sample(100))
	for n := 16; n < len(b); n++ {
		plain, e := Open(k, nonce, aad, b[:n])
		refused(t, "P5.3", "cut behind", api.ErrSeal, plain, e)
		plain, e = Open(k, nonce, aad, b[len(b)-n:])
		refused(t, "P5.3", "cut ahead", api.ErrSeal, plain, e)
		plain, e = Open(k, nonce, aad, append(bytes.Clone(b[:n-16]), b[len(b)-16:]...))
		refused(t, "P5.3", "cut ahead of the tag", api.ErrSeal, plain, e)
	}
	for _, more := range [][]byte{{0}, {1}, make([]byte, 16), b[len(b)-16:], b} {
		plain, e := Open(k, nonce, aad, append(bytes.Clone(b), more...))
		refused(t, "P5.3", "longer behind", api.ErrSeal, plain, e)
		plain, e = Open(k, nonce, aad, append(bytes.Clone(more), b...))
		refused(t, "P5.3", "longer ahead", api.ErrSeal, plain, e)
		plain, e = Open(k, nonce, append(bytes.Clone(aad), more...), b)
		refused(t, "P5.3", "aad longer", api.ErrSeal, plain, e)
	}
	for n := range aad {
		plain, e := Open(k, nonce, aad[:n], b)
		refused(t, "P5.3", "aad cut", api.ErrSeal, plain, e)
	}
}

func TestBytesDoNotMoveBetweenTheParts(t *testing.T) { // P5.3: aad, nonce and cipher one behind the other are the same bytes, parted elsewhere
	k := rising()
	row := sample(60)
	seen := map[api.Tag]int{}
	for at := range 49 {
		seen[TagOf(k, api.Nonce(row[at:at+12]), row[:at], row[at+12:])] = at
	}
	if len(seen) != 49 {
		t.Errorf("P5.3: %d tags of one row, parted at 49 places", len(seen))
	}
	alike := bytes.Repeat([]byte{7}, 60)
	clear(seen)
	for at := range 49 {
		seen[TagOf(k, api.Nonce(alike[:12]), alike[:at], alike[at+12:])] = at
	}
	if len(seen) != 49 {
		t.Errorf("P5.3: %d tags of a row of one byte, parted at 49 places", len(seen))
	}
}

func TestSealedIsNotPlain(t *testing.T) { // P5.1: the two keys are unlike, and neither is k
	k, nonce, plain := rising(), NonceOf(1, 1), make([]byte, 64)
	b := Seal(k, nonce, nil, plain)
	for what, key := range map[string]api.Key{"k": k, "that of tags": derived(k, "mac")} {
		if bytes.Equal(b[:64], stream.Xor(key, nonce, 1, plain)) {
			t.Errorf("P5.1: sealed by the key %s", what)
		}
	}
	if bytes.Equal(b[:64], stream.Xor(derived(k, "enc"), nonce, 0, plain)) {
		t.Error("P5.1: sealed from counter 0 on")
	}
}

func TestSameAskedSameAnswered(t *testing.T) { // DOC.md's rule 6
	k, nonce, aad, plain := rising(), NonceOf(7, 9), sample(40), sample(100)
	b, w := Seal(k, nonce, aad, plain), Wrap(k, 1, 2, falling())
	Seal(api.Key{}, api.Nonce{}, sample(10), sample(1000))
	Open(api.Key{}, nonce, aad, b)
	Unwrap(api.Key{}, 1, 2, w)
	if !bytes.Equal(Seal(k, nonce, roomy(aad), roomy(plain)), b) || Wrap(k, 1, 2, falling()) != w {
		t.Error("asked again, another answer")
	}
	if got, e := Open(k, nonce, roomy(aad), roomy(b)); e != api.OK || !bytes.Equal(got, plain) {
		t.Errorf("asked from where there is room: %v", e)
	}
	if got, e := Unwrap(k, 1, 2, w); e != api.OK || got != falling() {
		t.Errorf("unwrapped behind a refused one: %v", e)
	}
}

func TestNothingHandedInIsChanged(t *testing.T) { // DOC.md's rule 3
	k, nonce := rising(), NonceOf(7, 9)
	for _, n := range lengths() {
		aad, plain := roomy(sample(n)), roomy(sample(n))
		b := roomy(Seal(k, nonce, aad, plain))
		var lists, before [][]byte
		for _, list := range [][]byte{aad, plain, b} {
			lists = append(lists, list[:cap(list)])
			before = append(before, bytes.Clone(list[:cap(list)]))
		}
		Seal(k, nonce, aad, plain)
		TagOf(k, nonce, aad, plain)
		Open(k, nonce, aad, b)
		Open(k, nonce, aad[:n/2], b)
		Open(k, nonce, aad, b[:n/2])
		for i := range lists {
			if !bytes.Equal(lists[i], before[i]) {
				t.Errorf("%d bytes: list %d is changed", n, i)
			}
		}
	}
}

func TestAnswersAreNewMemory(t *testing.T) { // DOC.md's rule 3
	k, nonce := rising(), NonceOf(7, 9)
	for _, n := range lengths() {
		aad, plain := roomy(sample(n)), roomy(sample(n))
		first, second := Seal(k, nonce, aad, plain), Seal(k, nonce, aad, plain)
		want := bytes.Clone(second)
		spoil(first[:cap(first)])
		spoil(aad[:cap(aad)])
		spoil(plain[:cap(plain)])
		if !bytes.Equal(second, want) || !bytes.Equal(Seal(k, nonce, sample(n), sample(n)), want) {
			t.Errorf("%d bytes: what is sealed shares memory", n)
		}
		b := roomy(want)
		before := bytes.Clone(b[:cap(b)])
		one, _ := Open(k, nonce, sample(n), b)
		two, _ := Open(k, nonce, sample(n), b)
		spoil(one[:cap(one)])
		if !bytes.Equal(two, sample(n)) || !bytes.Equal(b[:cap(b)], before) {
			t.Errorf("%d bytes: what is opened shares memory", n)
		}
		spoil(b[:cap(b)])
		if !bytes.Equal(two, sample(n)) {
			t.Errorf("%d bytes: what is opened is touched by what was handed in", n)
		}
	}
}
