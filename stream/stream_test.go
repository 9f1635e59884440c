package stream

import (
	"bytes"
	"encoding/binary"
	"encoding/hex"
	"math"
	"math/bits"
	"testing"

	"sacristy/api"
)

func sample(n int) []byte {
	b := make([]byte, n)
	for i := range b {
		b[i] = byte(i*i>>3 + 7*i + n)
	}
	return b
}

// roomy is b with room behind it that isn't noughts.
func roomy(b []byte) []byte {
	whole := append(bytes.Clone(b), bytes.Repeat([]byte{0xee}, 200)...)
	return whole[:len(b)]
}

func fromHex(t *testing.T, s string) []byte {
	t.Helper()
	b, err := hex.DecodeString(s)
	if err != nil {
		t.Fatal(err)
	}
	return b
}

// row is four words of the square that the sixteen make.
type row [4]uint32

func (r row) plus(s row) row {
	for i := range r {
		r[i] += s[i]
	}
	return r
}

func (r row) turned(s row, n int) row {
	for i := range r {
		r[i] = bits.RotateLeft32(r[i]^s[i], n)
	}
	return r
}

// moved has each word n places further left: so diagonals come to stand as columns.
func (r row) moved(n int) row {
	return row{r[n%4], r[(n+1)%4], r[(n+2)%4], r[(n+3)%4]}
}

// known is the block worked out another way: whole rows at once.
func known(k api.Key, nonce api.Nonce, counter uint32) [64]byte {
	text := append([]byte("expand 32-byte k"), k[:]...)
	text = binary.LittleEndian.AppendUint32(text, counter)
	text = append(text, nonce[:]...)
	var first [4]row
	for i := range 16 {
		first[i/4][i%4] = binary.LittleEndian.Uint32(text[4*i:])
	}
	a, b, c, d := first[0], first[1], first[2], first[3]
	for i := range 20 {
		a = a.plus(b)
		d = d.turned(a, 16)
		c = c.plus(d)
		b = b.turned(c, 12)
		a = a.plus(b)
		d = d.turned(a, 8)
		c = c.plus(d)
		b = b.turned(c, 7)
		if i%2 == 0 {
			b, c, d = b.moved(1), c.moved(2), d.moved(3)
		} else {
			b, c, d = b.moved(3), c.moved(2), d.moved(1)
		}
	}
	var out []byte
	for i, r := range [4]row{a, b, c, d} {
		for _, x := range r.plus(first[i]) {
			out = binary.LittleEndian.AppendUint32(out, x)
		}
	}
	return [64]byte(out)
}

func counters() []uint32 {
	return []uint32{0, 1, 2, 255, 256, 65535, 65536, 0x01020304, 1<<24 - 1, 1 << 31, math.MaxUint32 - 1, math.MaxUint32}
}

func TestQuarterOfKnownWords(t *testing.T) { // P4.1: RFC 8439, 2.1.1 and 2.2.1, and edges
	type four [4]uint32
	for _, c := range []struct{ in, out four }{
		{four{0x11111111, 0x01020304, 0x9b8d6f43, 0x01234567}, four{0xea2a92f4, 0xcb1cf8ce, 0x4581472e, 0x5881c4bb}},
		{four{0x516461b1, 0x2a5f714c, 0x53372767, 0x3d631689}, four{0xbdb886dc, 0xcfacafd2, 0xe46bea80, 0xccc07c79}},
		{four{}, four{}},
		{four{1, 0, 0, 0}, four{0x10000001, 0x80808808, 0x01010110, 0x01000110}},
	} {
		var got four
		got[0], got[1], got[2], got[3] = Quarter(c.in[0], c.in[1], c.in[2], c.in[3])
		if got != c.out {
			t.Errorf("P4.1: Quarter of %x: %x, want %x", c.in, got, c.out)
		}
	}
}

// undone takes the steps of Quarter back, the last first.
func undone(a, b, c, d uint32) (uint32, uint32, uint32, uint32) {
	b = bits.RotateLeft32(b, -7) ^ c
	c -= d
	d = bits.RotateLeft32(d, -8) ^ a
	a -= b
	b = bits.RotateLeft32(b, -12) ^ c
	c -= d
	d = bits.RotateLeft32(d, -16) ^ a
	a -= b
	return a, b, c, d
}

func TestQuarterStepByStep(t *testing.T) { // P4.1
	words := []uint32{0, 1, 0x80000000, 0x7fffffff, math.MaxUint32, 0x61707865, 0x01020304}
	for _, a := range words {
		for _, b := range words {
			for _, c := range words {
				for _, d := range words {
					ga, gb, gc, gd := undone(Quarter(a, b, c, d))
					if ga != a || gb != b || gc != c || gd != d {
						t.Fatalf("P4.1: Quarter of %x %x %x %x, taken back: %x %x %x %x", a, b, c, d, ga, gb, gc, gd)
					}
				}
			}
		}
	}
}

func TestBlockOfKnownKeys(t *testing.T) { // P4.1: RFC 8439, 2.3.2 and A.1
	var rising api.Key
	for i := range rising {
		rising[i] = byte(i)
	}
	for i, c := range []struct {
		k       api.Key
		nonce   api.Nonce
		counter uint32
		block   string
	}{
		{rising, api.Nonce{3: 9, 7: 0x4a}, 1, "10f1e7e4d13b5915500fdd1fa32071c4c7d1f4c733c068030422aa9ac3d46c4ed2826446079faa0914c2d705d98b02a2b5129cd1de164eb9cbd083e8a2503c4e"},
		{api.Key{}, api.Nonce{}, 0, "76b8e0ada0f13d90405d6ae55386bd28bdd219b8a08ded1aa836efcc8b770dc7da41597c5157488d7724e03fb8d84a376a43b8f41518a11cc387b669b2ee6586"},
		{api.Key{}, api.Nonce{}, 1, "9f07e7be5551387a98ba977c732d080dcb0f29a048e3656912c6533e32ee7aed29b721769ce64e43d57133b074d839d531ed1f28510afb45ace10a1f4b794d6f"},
		{api.Key{31: 1}, api.Nonce{}, 1, "3aeb5224ecf849929b9d828db1ced4dd832025e8018b8160b82284f3c949aa5a8eca00bbb4a73bdad192b5c42f73f2fd4e273644c8b36125a64addeb006c13a0"},
		{api.Key{1: 0xff}, api.Nonce{}, 2, "72d54dfbf12ec44b362692df94137f328fea8da73990265ec1bbbea1ae9af0ca13b25aa26cb4a648cb9b9d1be65b2c0924a66c54d545ec1b7374f4872e99f096"},
		{api.Key{}, api.Nonce{11: 2}, 0, "c2c64d378cd536374ae204b9ef933fcd1a8b2288b3dfa49672ab765b54ee27c78a970e0e955c14f3a88e741b97c286f75f8fc299e8148362fa198a39531bed6d"},
	} {
		got := Block(c.k, c.nonce, c.counter)
		if hex.EncodeToString(got[:]) != c.block {
			t.Errorf("P4.1: case %d: %x, want %s", i, got, c.block)
		}
	}
}

func TestBlockAnotherWay(t *testing.T) { // P4.1
	for _, counter := range counters() {
		for i := range 40 {
			k, nonce := api.Key(sample(32 + i)[i:]), api.Nonce(sample(12 + i)[i:])
			if Block(k, nonce, counter) != known(k, nonce, counter) {
				t.Fatalf("P4.1: key %x, nonce %x, counter %d", k, nonce, counter)
			}
		}
	}
	full, fullNonce := api.Key(bytes.Repeat([]byte{0xff}, 32)), api.Nonce(bytes.Repeat([]byte{0xff}, 12))
	if Block(full, fullNonce, math.MaxUint32) != known(full, fullNonce, math.MaxUint32) {
		t.Error("P4.1: all bits set")
	}
}

func TestBlockHangsOnEachBit(t *testing.T) { // P4.1
	seen := map[[64]byte]int{Block(api.Key{}, api.Nonce{}, 0): 1}
	for bit := range 256 {
		var k api.Key
		k[bit/8] = 1 << (bit % 8)
		seen[Block(k, api.Nonce{}, 0)]++
	}
	for bit := range 96 {
		var nonce api.Nonce
		nonce[bit/8] = 1 << (bit % 8)
		seen[Block(api.Key{}, nonce, 0)]++
	}
	for bit := range 32 {
		seen[Block(api.Key{}, api.Nonce{}, 1<<bit)]++
	}
	if len(seen) != 1+256+96+32 {
		t.Errorf("P4.1: %d blocks of %d arguments", len(seen), 1+256+96+32)
	}
}

func TestXorOfKnownTexts(t *testing.T) { // P4.2: RFC 8439, 2.4.2 and A.2
	var rising api.Key
	for i := range rising {
		rising[i] = byte(i)
	}
	for i, c := range []struct {
		k         api.Key
		nonce     api.Nonce
		counter   uint32
		text, out string
	}{
		{rising, api.Nonce{7: 0x4a}, 1,
			"Ladies and Gentlemen of the class of '99: If I could offer you only one tip for the future, sunscreen would be it.",
			"6e2e359a2568f98041ba0728dd0d6981e97e7aec1d4360c20a27afccfd9fae0bf91b65c5524733ab8f593dabcd62b3571639d624e65152ab8f530c359f0861d807ca0dbf500d6a6156a38e088a22b65e52bc514d16ccf806818ce91ab77937365af90bbf74a35be6b40b8eedf2785e42874d"},
		{api.Key(fromHex(t, "1c9240a5eb55d38af333888604f6b5f0473917c1402b80099dca5cbc207075c0")), api.Nonce{11: 2}, 42,
			"'Twas brillig, and the slithy toves\nDid gyre and gimble in the wabe:\nAll mimsy were the borogoves,\nAnd the mome raths outgrabe.",
			"62e6347f95ed87a45ffae7426f27a1df5fb69110044c0d73118effa95b01e5cf166d3df2d721caf9b21e5fb14c616871fd84c54f9d65b283196c7fe4f60553ebf39c6402c42234e32a356b3e764312a61a5532055716ead6962568f87d3f3f7704c6a8d1bcd1bf4d50d6154b6da731b187b58dfd728afa36757a797ac188d1"},
	} {
		if got := Xor(c.k, c.nonce, c.counter, []byte(c.text)); hex.EncodeToString(got) != c.out {
			t.Errorf("P4.2: case %d: %x, want %s", i, got, c.out)
		}
	}
}

// masked is b with the blocks from counter on, byte by byte.
func masked(k api.Key, nonce api.Nonce, counter uint32, b []byte) []byte {
	out := bytes.Clone(b)
	var block [64]byte
	for i := range out {
		if i%64 == 0 {
			block = known(k, nonce, counter+uint32(i/64))
		}
		out[i] ^= block[i%64]
	}
	return out
}

func TestXorOfEachLength(t *testing.T) { // P4.2
	k, nonce := api.Key(sample(32)), api.Nonce(sample(12))
	for _, counter := range counters() {
		for n := range 260 {
			b := sample(n)
			if got := Xor(k, nonce, counter, b); !bytes.Equal(got, masked(k, nonce, counter, b)) {
				t.Fatalf("P4.2: %d bytes from block %d on", n, counter)
			}
		}
	}
	for _, n := range []int{256*64 - 1, 256 * 64, 256*64 + 1, 65536*64 + 100} {
		b := sample(n)
		if got := Xor(k, nonce, 7, b); !bytes.Equal(got, masked(k, nonce, 7, b)) {
			t.Errorf("P4.2: %d bytes", n)
		}
	}
}

func TestXorOfNothing(t *testing.T) { // P4.2
	for _, counter := range counters() {
		if got := Xor(api.Key{1}, api.Nonce{2}, counter, nil); len(got) != 0 {
			t.Errorf("P4.2: a nil list: %x", got)
		}
		if got := Xor(api.Key{1}, api.Nonce{2}, counter, roomy(nil)); len(got) != 0 {
			t.Errorf("P4.2: an empty list: %x", got)
		}
	}
}

func TestXorBeyondTheLastCounter(t *testing.T) { // P4.2: behind 2^32 - 1 comes 0, and the nonce stays
	k, nonce := api.Key(sample(32)), api.Nonce(sample(12))
	got := Xor(k, nonce, math.MaxUint32-1, make([]byte, 4*64))
	for i, counter := range []uint32{math.MaxUint32 - 1, math.MaxUint32, 0, 1} {
		want := Block(k, nonce, counter)
		if !bytes.Equal(got[64*i:64*(i+1)], want[:]) {
			t.Errorf("P4.2: block %d isn't that of counter %d", i, counter)
		}
	}
}

func TestTwiceIsNone(t *testing.T) { // P4.3
	for _, counter := range counters() {
		for _, n := range []int{0, 1, 63, 64, 65, 127, 128, 129, 480, 1000} {
			k, nonce, b := api.Key(sample(32 + n)[n:]), api.Nonce(sample(12 + n)[n:]), sample(n)
			once := Xor(k, nonce, counter, b)
			if n > 8 && bytes.Equal(once, b) {
				t.Errorf("P4.3: %d bytes: once is none", n)
			}
			if got := Xor(k, nonce, counter, once); !bytes.Equal(got, b) {
				t.Errorf("P4.3: %d bytes from block %d on: twice is %x", n, counter, got)
			}
		}
	}
}

func TestTwiceOfUnlikeIsSome(t *testing.T) { // P4.3: with another key, nonce or counter it doesn't come back
	k, nonce, b := api.Key(sample(32)), api.Nonce(sample(12)), sample(100)
	once := Xor(k, nonce, 5, b)
	otherKey, otherNonce := k, nonce
	otherKey[31] ^= 0x80
	otherNonce[11] ^= 0x80
	for i, got := range [][]byte{Xor(otherKey, nonce, 5, once), Xor(k, otherNonce, 5, once), Xor(k, nonce, 6, once)} {
		if bytes.Equal(got, b) {
			t.Errorf("P4.3: case %d: twice is none", i)
		}
	}
}

func TestSameAskedSameAnswered(t *testing.T) { // DOC.md's rule 6
	k, nonce, b := api.Key(sample(32)), api.Nonce(sample(12)), sample(200)
	block, text := Block(k, nonce, 9), Xor(k, nonce, 9, b)
	Block(api.Key{}, api.Nonce{}, 0)
	Xor(api.Key{}, api.Nonce{}, 0, sample(1000))
	if Block(k, nonce, 9) != block || !bytes.Equal(Xor(k, nonce, 9, roomy(b)), text) {
		t.Error("asked again, another answer")
	}
}

func TestNothingHandedInIsChanged(t *testing.T) { // DOC.md's rule 3
	for _, n := range []int{0, 1, 63, 64, 65, 128, 200} {
		b := roomy(sample(n))
		before := bytes.Clone(b[:cap(b)])
		Xor(api.Key{1}, api.Nonce{2}, 3, b)
		if !bytes.Equal(b[:cap(b)], before) {
			t.Errorf("%d bytes: changed", n)
		}
	}
}

func TestAnswersAreNewMemory(t *testing.T) { // DOC.md's rule 3
	k, nonce := api.Key(sample(32)), api.Nonce(sample(12))
	for _, n := range []int{0, 1, 63, 64, 65, 128, 200} {
		b := roomy(sample(n))
		first, second := Xor(k, nonce, 3, b), Xor(k, nonce, 3, b)
		want, before := bytes.Clone(second), bytes.Clone(b[:cap(b)])
		spoil(first[:cap(first)])
		if !bytes.Equal(second, want) || !bytes.Equal(b[:cap(b)], before) {
			t.Errorf("%d bytes: an answer shares memory with another one, or with what was handed in", n)
		}
		spoil(b[:cap(b)])
		if !bytes.Equal(second, want) {
			t.Errorf("%d bytes: an answer is touched by what was handed in", n)
		}
		if !bytes.Equal(Xor(k, nonce, 3, sample(n)), want) {
			t.Errorf("%d bytes: a later answer is touched by an earlier one", n)
		}
	}
}

func spoil(b []byte) {
	for i := range b {
		b[i] ^= 0xff
	}
}
