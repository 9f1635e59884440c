package sha

import (
	"bytes"
	"crypto/sha256"
	"encoding/hex"
	"math/big"
	"strings"
	"testing"
)

// borders: lengths about a block's end, and about the last one that has room for the length.
var borders = []int{0, 1, 3, 4, 54, 55, 56, 57, 62, 63, 64, 65, 118, 119, 120, 121, 127, 128, 129, 183, 184, 191, 192, 193}

func sample(n int) []byte {
	b := make([]byte, n)
	for i := range b {
		b[i] = byte(i*i>>3 + 7*i + n)
	}
	return b
}

// roomy is b with room behind it that isn't noughts.
func roomy(b []byte) []byte {
	whole := append(bytes.Clone(b), bytes.Repeat([]byte{0xee}, 100)...)
	return whole[:len(b)]
}

func TestSumOfKnownMessages(t *testing.T) { // P2.1
	for _, c := range []struct{ message, sum string }{
		{"", "e3b0c44298fc1c149afbf4c8996fb92427ae41e4649b934ca495991b7852b855"},
		{"abc", "ba7816bf8f01cfea414140de5dae2223b00361a396177a9cb410ff61f20015ad"},
		{"abcdbcdecdefdefgefghfghighijhijkijkljklmklmnlmnomnopnopq", "248d6a61d20638b8e5c026930c3e6039a33ce45964ff2167f6ecedd419db06c1"},
		{"abcdefghbcdefghicdefghijdefghijkefghijklfghijklmghijklmnhijklmnoijklmnopjklmnopqklmnopqrlmnopqrsmnopqrstnopqrstu", "cf5b16a778af8380036ce59e7b0492370b249b11e8f07a51afac45037afee9d1"},
		{strings.Repeat("a", 1000000), "cdc76e5c9914fb9281a1c7e284d73e67f1809a48a497200e046d39ccc7112cd0"},
	} {
		if got := Hex(Sum([]byte(c.message))); got != c.sum {
			t.Errorf("P2.1: %d bytes: %s, want %s", len(c.message), got, c.sum)
		}
	}
	if Sum(nil) != Sum([]byte{}) {
		t.Error("P2.1: a nil list is no empty one")
	}
}

func TestSumOfEachLength(t *testing.T) { // P2.1
	for n := range 400 {
		if b := sample(n); Sum(b) != sha256.Sum256(b) {
			t.Errorf("P2.1: %d bytes", n)
		}
	}
	for _, fill := range []byte{0, 0x80, 0xff} {
		for _, n := range borders {
			if b := bytes.Repeat([]byte{fill}, n); Sum(b) != sha256.Sum256(b) {
				t.Errorf("P2.1: %d times %#x", n, fill)
			}
		}
	}
}

func TestSumOfALengthOfManyBytes(t *testing.T) { // P2.1
	for _, n := range []int{31, 32, 8191, 8192, 2097151, 2097152, 2097153, 40000000} {
		if b := sample(n); Sum(b) != sha256.Sum256(b) {
			t.Errorf("P2.1: %d bytes", n)
		}
	}
}

// rootBits is the first 32 bits behind the point of the root of n, of that degree.
func rootBits(n int64, degree int64) uint32 {
	wanted := new(big.Int).Lsh(big.NewInt(n), uint(32*degree))
	low, high := big.NewInt(0), new(big.Int).Lsh(big.NewInt(n), 32)
	for low.Cmp(high) < 0 {
		middle := new(big.Int).Add(low, high)
		middle.Add(middle, big.NewInt(1)).Rsh(middle, 1)
		if new(big.Int).Exp(middle, big.NewInt(degree), nil).Cmp(wanted) <= 0 {
			low = middle
		} else {
			high = middle.Sub(middle, big.NewInt(1))
		}
	}
	return uint32(low.Uint64())
}

func TestWordsOfRoots(t *testing.T) { // P2.1
	found := 0
	for n := int64(2); found < len(roundWords); n++ {
		if !big.NewInt(n).ProbablyPrime(0) {
			continue
		}
		if got, want := roundWords[found], rootBits(n, 3); got != want {
			t.Errorf("P2.1: cube root of %d: %#x, want %#x", n, got, want)
		}
		if first := firstWords(); found < len(first) && first[found] != rootBits(n, 2) {
			t.Errorf("P2.1: square root of %d: %#x, want %#x", n, first[found], rootBits(n, 2))
		}
		found++
	}
}

func TestHashHasWhatWasWritten(t *testing.T) { // P2.2
	h := New()
	var all []byte
	if h.Len() != 0 || h.Sum() != sha256.Sum256(nil) {
		t.Error("P2.2: a new one has something")
	}
	for _, n := range borders {
		b := sample(n)
		h.Write(b)
		all = append(all, b...)
		if h.Len() != len(all) {
			t.Errorf("P2.2: Len() = %d, want %d", h.Len(), len(all))
		}
		if h.Sum() != sha256.Sum256(all) {
			t.Errorf("P2.2: sum of %d bytes", len(all))
		}
	}
}

func TestSumChangesNothing(t *testing.T) { // P2.2
	for _, n := range borders {
		h := New()
		h.Write(sample(n))
		first := h.Sum()
		if h.Sum() != first || h.Sum() != first || h.Len() != n {
			t.Errorf("P2.2: %d bytes: asked again, another answer", n)
		}
		h.Write([]byte("more"))
		if h.Sum() != sha256.Sum256(append(sample(n), "more"...)) {
			t.Errorf("P2.2: %d bytes: a sum was kept in what is written", n)
		}
	}
}

func TestNothingWritten(t *testing.T) { // P2.2
	for _, n := range borders {
		h := New()
		h.Write(nil)
		h.Write(sample(n))
		h.Write([]byte{})
		h.Write(nil)
		if h.Len() != n || h.Sum() != sha256.Sum256(sample(n)) {
			t.Errorf("P2.2: %d bytes and nothing", n)
		}
	}
}

func TestCopyGoesItsOwnWay(t *testing.T) { // P2.2
	for _, n := range borders {
		h := New()
		h.Write(sample(n))
		c := h.Copy()
		if c == h || c.Len() != n || c.Sum() != h.Sum() {
			t.Fatalf("P2.2: %d bytes: no copy", n)
		}
		c.Write(bytes.Repeat([]byte("c"), 70))
		if h.Len() != n || h.Sum() != sha256.Sum256(sample(n)) {
			t.Errorf("P2.2: %d bytes: the copy writes into the first", n)
		}
		h.Write(bytes.Repeat([]byte("h"), 90))
		if c.Len() != n+70 || c.Sum() != sha256.Sum256(append(sample(n), bytes.Repeat([]byte("c"), 70)...)) {
			t.Errorf("P2.2: %d bytes: the first writes into the copy", n)
		}
		if h.Len() != n+90 || h.Sum() != sha256.Sum256(append(sample(n), bytes.Repeat([]byte("h"), 90)...)) {
			t.Errorf("P2.2: %d bytes: the first went astray", n)
		}
	}
}

func TestHashesAreApart(t *testing.T) { // P2.2
	a, b := New(), New()
	a.Write([]byte("a"))
	if b.Len() != 0 || b.Sum() != sha256.Sum256(nil) {
		t.Error("P2.2: one new Hash writes into another")
	}
	b.Write([]byte("b"))
	if a.Sum() != sha256.Sum256([]byte("a")) || b.Sum() != sha256.Sum256([]byte("b")) {
		t.Error("P2.2: two Hashes share what they have")
	}
}

func TestHashThatNewDidNotMake(t *testing.T) { // P2.2
	var h Hash
	if h.Len() != 0 || h.Sum() != sha256.Sum256(nil) {
		t.Error("P2.2: an empty Hash isn't like a new one")
	}
	c := h.Copy()
	var all []byte
	for _, n := range borders {
		c.Write(sample(n))
		all = append(all, sample(n)...)
		if c.Sum() != sha256.Sum256(all) {
			t.Errorf("P2.2: an empty Hash, %d bytes on", len(all))
		}
	}
}

func TestHex(t *testing.T) { // P2.2
	for c := range 256 {
		for _, place := range []int{0, 1, 16, 30, 31} {
			var s [32]byte
			s[place] = byte(c)
			if got := Hex(s); got != hex.EncodeToString(s[:]) {
				t.Errorf("P2.2: %#x at %d: %s", c, place, got)
			}
		}
	}
	if got := Hex([32]byte{}); got != strings.Repeat("0", 64) {
		t.Errorf("P2.2: noughts: %s", got)
	}
}

func TestPieces(t *testing.T) { // P2.3
	for _, n := range borders {
		b := sample(n)
		want := Sum(b)
		for first := range n + 1 {
			for _, second := range []int{first, (first + n) / 2, n} {
				h := New()
				h.Write(b[:first])
				h.Write(b[first:second])
				h.Write(b[second:])
				if h.Sum() != want || h.Len() != n {
					t.Fatalf("P2.3: %d bytes, cut at %d and %d", n, first, second)
				}
			}
		}
	}
}

func TestEvenPieces(t *testing.T) { // P2.3
	b := sample(1000)
	for size := 1; size <= len(b); size++ {
		h := New()
		for rest := b; len(rest) > 0; {
			n := min(size, len(rest))
			h.Write(rest[:n])
			rest = rest[n:]
		}
		if h.Sum() != sha256.Sum256(b) || h.Len() != len(b) {
			t.Errorf("P2.3: pieces of %d", size)
		}
	}
}

func TestNothingHandedInIsChangedOrKept(t *testing.T) { // DOC.md's rule 3
	for _, n := range borders {
		b := roomy(sample(n))
		before := bytes.Clone(b[:cap(b)])
		h := New()
		h.Write(b)
		h.Sum()
		Sum(b)
		if !bytes.Equal(b[:cap(b)], before) {
			t.Errorf("%d bytes: changed", n)
		}
		clear(b[:cap(b)])
		if h.Sum() != sha256.Sum256(sample(n)) {
			t.Errorf("%d bytes: kept", n)
		}
	}
}

func TestAnswersAreNewMemory(t *testing.T) { // DOC.md's rule 3
	h := New()
	h.Write([]byte("abc"))
	first := h.Sum()
	clear(first[:])
	if h.Sum() != sha256.Sum256([]byte("abc")) || Sum([]byte("abc")) != h.Sum() {
		t.Error("an answer is touched by another one")
	}
}
