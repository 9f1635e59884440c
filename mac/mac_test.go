package mac

import (
	"bytes"
	"crypto/hkdf"
	"crypto/hmac"
	"crypto/sha256"
	"encoding/binary"
	"encoding/hex"
	"math"
	"strings"
	"testing"

	"sacristy/api"
)

func sample(n int) []byte {
	b := make([]byte, n)
	for i := range b {
		b[i] = byte(i*i>>3 + 7*i + n)
	}
	return b
}

// roomy is b with room behind it that isn't noughts.
func roomy(b []byte) []byte {
	whole := append(bytes.Clone(b), bytes.Repeat([]byte{0xee}, 100)...)
	return whole[:len(b)]
}

func fromHex(t *testing.T, s string) []byte {
	t.Helper()
	b, err := hex.DecodeString(s)
	if err != nil {
		t.Fatal(err)
	}
	return b
}

// known is HMAC-SHA-256 as Go's library has it.
func known(key, msg []byte) [32]byte {
	h := hmac.New(sha256.New, key)
	h.Write(msg)
	return [32]byte(h.Sum(nil))
}

// expanded is HKDF-Expand as Go's library has it.
func expanded(t *testing.T, k api.Key, info string, n int) []byte {
	t.Helper()
	b, err := hkdf.Expand(sha256.New, k[:], info, n)
	if err != nil {
		t.Fatal(err)
	}
	return b
}

func TestMacOfKnownMessages(t *testing.T) { // P3.1: the cases of RFC 4231
	for i, c := range []struct{ key, msg, code string }{
		{strings.Repeat("0b", 20), "4869205468657265", "b0344c61d8db38535ca8afceaf0bf12b881dc200c9833da726e9376c2e32cff7"},
		{"4a656665", "7768617420646f2079612077616e7420666f72206e6f7468696e673f", "5bdcc146bf60754e6a042426089575c75a003f089d2739839dec58b964ec3843"},
		{strings.Repeat("aa", 20), strings.Repeat("dd", 50), "773ea91e36800e46854db8ebd09181a72959098b3ef8c122d9635514ced565fe"},
		{"0102030405060708090a0b0c0d0e0f10111213141516171819", strings.Repeat("cd", 50), "82558a389a443c0ea4cc819899f2083a85f0faa3e578f8077a2e3ff46729665b"},
		{strings.Repeat("aa", 131), hex.EncodeToString([]byte("Test Using Larger Than Block-Size Key - Hash Key First")), "60e431591ee0b67f0d8a26aacbf5b77f8e0bc6213728c5140546040f0ee37f54"},
		{strings.Repeat("aa", 131), hex.EncodeToString([]byte("This is a test using a larger than block-size key and a larger than block-size data. The key needs to be hashed before being used by the HMAC algorithm.")), "9b09ffa71b942fcb27635fbcd5b0e944bfdc63644f0713938a7f51535c3a35e2"},
		{"", "", "b613679a0814d9ec772f95d778c35fc5ff1697c493715653c6c712144292c5ad"},
	} {
		got := Mac(fromHex(t, c.key), fromHex(t, c.msg))
		if hex.EncodeToString(got[:]) != c.code {
			t.Errorf("P3.1: case %d: %x, want %s", i, got, c.code)
		}
	}
}

func TestMacOfEachLength(t *testing.T) { // P3.1
	for n := range 200 {
		if key, msg := sample(n), sample(77); Mac(key, msg) != known(key, msg) {
			t.Errorf("P3.1: a key of %d bytes", n)
		}
		if key, msg := sample(33), sample(n); Mac(key, msg) != known(key, msg) {
			t.Errorf("P3.1: a message of %d bytes", n)
		}
	}
	for _, n := range []int{63, 64, 65, 100000} {
		if b := sample(n); Mac(b, b) != known(b, b) {
			t.Errorf("P3.1: key and message of %d bytes", n)
		}
	}
}

func TestMacFillsUpKeys(t *testing.T) { // P3.1
	msg := []byte("message")
	for n := range 64 {
		if Mac(sample(n), msg) != Mac(append(sample(n), 0), msg) {
			t.Errorf("P3.1: a key of %d bytes isn't filled up with noughts", n)
		}
	}
	if Mac(sample(64), msg) == Mac(append(sample(64), 0), msg) {
		t.Error("P3.1: the byte behind the 64th of a key counts for nothing")
	}
	sum := sha256.Sum256(sample(65))
	if Mac(sample(65), msg) != Mac(sum[:], msg) {
		t.Error("P3.1: a key of 65 bytes isn't its Sum")
	}
	sum = sha256.Sum256(sample(64))
	if Mac(sample(64), msg) == Mac(sum[:], msg) {
		t.Error("P3.1: a key of 64 bytes is its Sum")
	}
	if Mac(nil, nil) != Mac([]byte{}, []byte{}) || Mac(nil, msg) != Mac(make([]byte, 64), msg) {
		t.Error("P3.1: no key isn't one of noughts")
	}
}

func TestExtract(t *testing.T) { // P3.2
	for _, n := range []int{0, 1, 32, 63, 64, 65, 140} {
		for _, m := range []int{0, 1, 55, 56, 64, 200} {
			salt, secret := sample(n), sample(m + 1)[:m]
			if Extract(salt, secret) != api.Key(known(salt, secret)) {
				t.Errorf("P3.2: a salt of %d bytes, a secret of %d", n, m)
			}
		}
	}
	if Extract([]byte("a"), []byte("b")) == Extract([]byte("b"), []byte("a")) {
		t.Error("P3.2: salt and secret are taken one for the other")
	}
}

func TestExpandOfKnownKeys(t *testing.T) { // P3.2: the cases of RFC 5869
	from80 := make([]byte, 80)
	for i := range from80 {
		from80[i] = byte(i)
	}
	shifted := func(by byte) []byte {
		b := bytes.Clone(from80)
		for i := range b {
			b[i] += by
		}
		return b
	}
	for i, c := range []struct {
		secret, salt, info []byte
		key, out           string
	}{
		{bytes.Repeat([]byte{0x0b}, 22), from80[:13], shifted(0xf0)[:10],
			"077709362c2e32df0ddc3f0dc47bba6390b6c73bb50f9c3122ec844ad7c2b3e5",
			"3cb25f25faacd57a90434f64d0362f2a2d2d0a90cf1a5a4c5db02d56ecc4c5bf34007208d5b887185865"},
		{from80, shifted(0x60), shifted(0xb0),
			"06a6b88c5853361a06104c9ceb35b45cef760014904671014a193f40c15fc244",
			"b11e398dc80327a1c8e7f78c596a49344f012eda2d4efad8a050cc4c19afa97c59045a99cac7827271cb41c65e590e09da3275600c2f09b8367793a9aca3db71cc30c58179ec3e87c14c01d5c1f3434f1d87"},
		{bytes.Repeat([]byte{0x0b}, 22), nil, nil,
			"19ef24a32c717b167f33a91d6f648bdf96596776afdb6377ac434c1c293ccb04",
			"8da4e775a563c18f715f802a063c5a31b8a11f5c5ee1879ec3454e5f3c738d2d9d201395faa4b61a96c8"},
	} {
		k := Extract(c.salt, c.secret)
		if hex.EncodeToString(k[:]) != c.key {
			t.Errorf("P3.2: case %d: key %x, want %s", i, k, c.key)
		}
		want := fromHex(t, c.out)
		if got := Expand(k, c.info, len(want)); !bytes.Equal(got, want) {
			t.Errorf("P3.2: case %d: %x, want %x", i, got, want)
		}
	}
}

func TestExpandOfEachLength(t *testing.T) { // P3.2
	k := api.Key(sample(32))
	for _, size := range []int{0, 1, 23, 24, 64, 300} {
		info := sample(size)
		want := expanded(t, k, string(info), 8160)
		for n := range 300 {
			if got := Expand(k, info, n); !bytes.Equal(got, want[:n]) {
				t.Fatalf("P3.2: %d bytes, info of %d", n, size)
			}
		}
		for _, n := range []int{8128, 8129, 8159, 8160} {
			if got := Expand(k, info, n); !bytes.Equal(got, want[:n]) {
				t.Fatalf("P3.2: %d bytes, info of %d", n, size)
			}
		}
	}
}

func TestExpandHoldsItsLength(t *testing.T) { // P3.2
	k, info := api.Key(sample(32)), []byte("info")
	for _, n := range []int{0, -1, -32, math.MinInt32, math.MinInt} {
		if got := Expand(k, info, n); len(got) != 0 {
			t.Errorf("P3.2: %d: %d bytes", n, len(got))
		}
	}
	if got := Expand(api.Key{}, nil, 0); len(got) != 0 {
		t.Errorf("P3.2: nothing: %d bytes", len(got))
	}
	all := Expand(k, info, 8160)
	if len(all) != 8160 {
		t.Fatalf("P3.2: %d bytes of 8160", len(all))
	}
	for _, n := range []int{8161, 8192, 9000, math.MaxInt32, math.MaxInt} {
		if got := Expand(k, info, n); !bytes.Equal(got, all) {
			t.Errorf("P3.2: %d: %d bytes", n, len(got))
		}
	}
	if !bytes.Equal(Expand(k, nil, 100), Expand(k, []byte{}, 100)) {
		t.Error("P3.2: a nil list is no empty one")
	}
}

func TestExpandHangsOnItsKey(t *testing.T) { // P3.2
	seen := map[api.Key]int{}
	for i := range 32 {
		for bit := range 8 {
			var k api.Key
			k[i] = 1 << bit
			seen[api.Key(Expand(k, []byte("info"), 32))]++
		}
	}
	if len(seen) != 256 {
		t.Errorf("P3.2: %d answers of 256 keys", len(seen))
	}
}

func TestDerive(t *testing.T) { // P3.2
	k := api.Key(sample(32))
	for _, label := range []string{"", "a", "label", "a\x00", "\xff\xfe", strings.Repeat("long", 50)} {
		for _, n := range []uint32{0, 1, 255, 256, 0x01020304, 1 << 16, 1 << 24, 1 << 31, math.MaxUint32} {
			info := string(binary.BigEndian.AppendUint32([]byte(label), n))
			got := Derive(k, label, n)
			if got != api.Key(expanded(t, k, info, 32)) {
				t.Errorf("P3.2: %q, %d", label, n)
			}
			if !bytes.Equal(got[:], Expand(k, []byte(info), 32)) {
				t.Errorf("P3.2: %q, %d: not as Expand has it", label, n)
			}
		}
	}
}

func TestEqual(t *testing.T) { // P3.2
	for n := range 150 {
		a := sample(n)
		if !Equal(a, bytes.Clone(a)) || !Equal(a, a) {
			t.Errorf("P3.2: %d bytes alike", n)
		}
		for i := range n {
			for bit := range 8 {
				b := bytes.Clone(a)
				b[i] ^= 1 << bit
				if Equal(a, b) || Equal(b, a) {
					t.Fatalf("P3.2: %d bytes, unlike at %d", n, i)
				}
			}
		}
	}
}

func TestEqualOfUnlikeLengths(t *testing.T) { // P3.2
	if !Equal(nil, nil) || !Equal(nil, []byte{}) || !Equal([]byte{}, nil) {
		t.Error("P3.2: nothing is unlike nothing")
	}
	for n := range 100 {
		noughts := make([]byte, n+1)
		if Equal(noughts, noughts[:n]) || Equal(noughts[:n], noughts) {
			t.Errorf("P3.2: %d noughts and one more", n)
		}
		a := sample(n + 1)
		if Equal(a, a[:n]) || Equal(a[:n], a) || Equal(nil, a) || Equal(a, nil) {
			t.Errorf("P3.2: %d bytes and one more", n)
		}
	}
}

func TestEqualOfTwoChanges(t *testing.T) { // P3.2: no change makes up for another one
	a := sample(130)
	for i := range a {
		for j := range i {
			b := bytes.Clone(a)
			b[i] ^= 0x10
			b[j] ^= 0x10
			if Equal(a, b) {
				t.Fatalf("P3.2: unlike at %d and %d", j, i)
			}
		}
	}
}

func TestUnlikeLabelsUnlikeKeys(t *testing.T) { // P3.3
	labels := []string{"", "a", "b", "ab", "ba", "a\x00", "a\x00\x00\x00\x00", "\x00", "\x00\x00\x00\x01", "page", "wrap", "page\x00", "Page"}
	numbers := []uint32{0, 1, 2, 256, 1 << 24, math.MaxUint32}
	seen := map[api.Key]int{}
	asked := 0
	for _, k := range []api.Key{{}, {1}, {31: 1}, Extract(nil, nil)} {
		seen[k]++
		asked++
		for _, label := range labels {
			for _, n := range numbers {
				seen[Derive(k, label, n)]++
				asked++
			}
		}
	}
	if len(seen) != asked {
		t.Errorf("P3.3: %d keys where %d were asked for", len(seen), asked)
	}
}

func TestSameAskedSameAnswered(t *testing.T) { // DOC.md's rule 6
	k := Extract([]byte("salt"), []byte("secret"))
	first := Derive(k, "label", 7)
	Derive(api.Key{}, "label", 7)
	Expand(k, []byte("label"), 8160)
	if Derive(k, "label", 7) != first {
		t.Error("asked again, another answer")
	}
}

func TestNothingHandedInIsChanged(t *testing.T) { // DOC.md's rule 3
	for _, n := range []int{0, 1, 31, 32, 33, 63, 64, 65, 130} {
		a, b := roomy(sample(n)), roomy(sample(n))
		before := bytes.Clone(a[:cap(a)])
		Mac(a, b)
		Extract(a, b)
		Expand(api.Key{}, a, 200)
		Equal(a, b)
		if !bytes.Equal(a[:cap(a)], before) || !bytes.Equal(b[:cap(b)], before) {
			t.Errorf("%d bytes: changed", n)
		}
	}
}

func TestAnswersAreNewMemory(t *testing.T) { // DOC.md's rule 3
	k, info := api.Key(sample(32)), []byte("info")
	for _, n := range []int{0, 1, 31, 32, 33, 64, 200, 8160} {
		first, second := Expand(k, info, n), Expand(k, info, n)
		want := bytes.Clone(second)
		for _, b := range [][]byte{first[:cap(first)], info} {
			for i := range b {
				b[i] ^= 0xff
			}
		}
		if !bytes.Equal(second, want) {
			t.Errorf("%d bytes: an answer is touched by another one, or by what was handed in", n)
		}
		copy(info, "info")
		if !bytes.Equal(Expand(k, info, n), want) {
			t.Errorf("%d bytes: a later answer is touched by an earlier one", n)
		}
	}
}
