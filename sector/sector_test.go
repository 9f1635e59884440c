package sector

import (
	"bytes"
	"math"
	"math/rand"
	"slices"
	"testing"

	"sacristy/api"
)

const size = 64

// filled is n bytes, no two neighbours alike, unlike those of another mark.
func filled(n int, mark byte) []byte {
	b := make([]byte, n)
	for i := range b {
		b[i] = byte(3*i) ^ mark
	}
	return b
}

// roomy is b with room behind it that isn't noughts.
func roomy(b []byte) []byte {
	whole := append(bytes.Clone(b), bytes.Repeat([]byte{0xee}, 200)...)
	return whole[:len(b)]
}

func spoil(b []byte) {
	for i := range b {
		b[i] ^= 0xff
	}
}

// begun is a disk with each sector kept unlike the others, and those bytes.
func begun(t *testing.T, sectors int) (*Disk, [][]byte) {
	t.Helper()
	d := New(sectors)
	kept := make([][]byte, sectors)
	for i := range kept {
		kept[i] = filled(size, byte(0x40+i))
		write(t, d, i, kept[i])
	}
	flush(t, d)
	return d, kept
}

func write(t *testing.T, d *Disk, i int, b []byte) {
	t.Helper()
	if e := d.Write(i, b); e != api.OK {
		t.Fatalf("P6.1: Write(%d, %d bytes): %v", i, len(b), e)
	}
}

func flush(t *testing.T, d *Disk) {
	t.Helper()
	if e := d.Flush(); e != api.OK {
		t.Fatalf("P6.1: Flush: %v", e)
	}
}

func reads(t *testing.T, promise string, d *Disk, i int, want []byte) {
	t.Helper()
	if got, e := d.Read(i); e != api.OK || !bytes.Equal(got, want) {
		t.Fatalf("%s: sector %d: %x, %v, want %x", promise, i, got, e, want)
	}
}

func keeps(t *testing.T, promise string, d *Disk, want [][]byte) {
	t.Helper()
	if got := d.Image(); !bytes.Equal(got, slices.Concat(want...)) {
		t.Fatalf("%s: image %x, want %x", promise, got, slices.Concat(want...))
	}
}

func readRefused(t *testing.T, d *Disk, i int, want api.Errno) {
	t.Helper()
	if b, e := d.Read(i); e != want || len(b) != 0 {
		t.Fatalf("P6.1: Read(%d): %x, %v, want nothing, %v", i, b, e, want)
	}
}

func noSectors(sectors int) []int {
	return []int{-1, -2, -64, math.MinInt, sectors, sectors + 1, 64 * sectors, 4000, math.MaxInt32, math.MaxInt}
}

func TestNewHoldsTheNumber(t *testing.T) { // P6.1
	for _, c := range []struct{ asked, want int }{
		{math.MinInt, 0}, {-4000, 0}, {-1, 0}, {0, 0}, {1, 1}, {2, 2}, {64, 64}, {1632, 1632},
		{3999, 3999}, {4000, 4000}, {4001, 4000}, {1 << 40, 4000}, {math.MaxInt, 4000},
	} {
		d := New(c.asked)
		if d.Len() != c.want || d.Steps() != 0 || !bytes.Equal(d.Image(), make([]byte, size*c.want)) {
			t.Errorf("P6.1: New(%d): Len %d, want %d; %d steps", c.asked, d.Len(), c.want, d.Steps())
		}
		for i := range c.want {
			reads(t, "P6.1", d, i, make([]byte, size))
		}
		if c.want > 0 {
			write(t, d, c.want-1, filled(size, 1))
		}
		readRefused(t, d, c.want, api.ErrDisk)
		if e := d.Write(c.want, nil); e != api.ErrDisk {
			t.Errorf("P6.1: New(%d): Write(%d): %v", c.asked, c.want, e)
		}
	}
}

func TestWithoutSectors(t *testing.T) { // P6.1: of New, and one that New didn't make
	for _, d := range []*Disk{New(0), {}} {
		c := d.Copy()
		for _, x := range []*Disk{d, c} {
			readRefused(t, x, 0, api.ErrDisk)
			if e := x.Write(0, nil); e != api.ErrDisk {
				t.Errorf("P6.1: Write: %v", e)
			}
			flush(t, x)
			x.Crash([]uint8{255})
			if x.Len() != 0 || x.Steps() != 2 || len(x.Image()) != 0 {
				t.Errorf("P6.1: %d sectors, %d steps, %d bytes", x.Len(), x.Steps(), len(x.Image()))
			}
		}
	}
}

func TestWriteOfEachLength(t *testing.T) { // P6.1: the rest stays, whether it is kept or pending
	for first := range size + 1 {
		for second := range size + 1 {
			d, kept := begun(t, 3)
			want := bytes.Clone(kept[1])
			copy(want, filled(first, 0x80))
			write(t, d, 1, filled(first, 0x80))
			reads(t, "P6.1", d, 1, want)
			copy(want, filled(second, 0x90))
			write(t, d, 1, filled(second, 0x90))
			reads(t, "P6.1", d, 1, want)
			reads(t, "P6.1", d, 0, kept[0])
			reads(t, "P6.1", d, 2, kept[2])
			keeps(t, "P6.2", d, kept)
			flush(t, d)
			kept[1] = want
			reads(t, "P6.1", d, 1, want)
			keeps(t, "P6.2", d, kept)
		}
	}
}

func TestWrongSectorsAndLengths(t *testing.T) { // P6.1: ErrDisk, and nothing is changed but Steps
	d, kept := begun(t, 5)
	steps := d.Steps()
	refused := func(i int, b []byte) {
		t.Helper()
		steps++
		if e := d.Write(i, b); e != api.ErrDisk || d.Steps() != steps {
			t.Errorf("P6.1: Write(%d, %d bytes): %v, %d steps, want %d", i, len(b), e, d.Steps(), steps)
		}
	}
	for _, i := range noSectors(5) {
		readRefused(t, d, i, api.ErrDisk)
		for _, n := range []int{0, 1, size, size + 1} {
			refused(i, filled(n, 1))
		}
	}
	for i := range 5 {
		for _, n := range []int{size + 1, size + 2, 2 * size, 5 * size, 10000} {
			refused(i, filled(n, 1))
		}
	}
	keeps(t, "P6.1", d, kept)
	d.Crash(bytes.Repeat([]byte{255}, 9))
	for i := range kept {
		reads(t, "P6.1", d, i, kept[i])
	}
}

func TestRefusedWriteLeavesWhatIsPending(t *testing.T) { // P6.1
	d, kept := begun(t, 2)
	write(t, d, 1, []byte("pending"))
	d.Write(1, filled(size+1, 1))
	d.Write(2, []byte("none"))
	want := append([]byte("pending"), kept[1][7:]...)
	reads(t, "P6.1", d, 1, want)
	d.Crash([]uint8{255})
	keeps(t, "P6.1", d, [][]byte{kept[0], want})
}

func TestOnlyWritesAndFlushesAreSteps(t *testing.T) { // P6.1
	d := New(3)
	steps := func(want int, what string) {
		t.Helper()
		if got := d.Steps(); got != want {
			t.Errorf("P6.1: behind %s: %d steps, want %d", what, got, want)
		}
	}
	steps(0, "New")
	d.Flush()
	steps(1, "Flush of nothing")
	d.Write(0, []byte("a"))
	d.Write(0, nil)
	d.Write(7, nil)
	d.Write(0, make([]byte, 65))
	steps(5, "four Writes")
	d.Read(0)
	d.Read(-1)
	d.Len()
	d.Image()
	d.Copy().Flush()
	d.Steps()
	d.Power(2)
	d.Power(0)
	d.Crash(nil)
	steps(5, "what is no step")
	d.Power(1)
	d.Write(0, nil)
	d.Flush()
	d.Write(9, nil)
	d.Read(0)
	steps(8, "three steps without power")
	d.Crash(nil)
	d.Flush()
	steps(9, "Crash and Flush")
}

func TestPowerGoesAtThatStep(t *testing.T) { // P6.1: of Writes, refused ones and Flushes in each order
	kinds := []func(d *Disk) api.Errno{
		func(d *Disk) api.Errno { return d.Write(1, []byte{byte(d.Steps())}) },
		func(d *Disk) api.Errno { return d.Write(2, nil) },
		func(d *Disk) api.Errno { return d.Flush() },
	}
	told := []api.Errno{api.OK, api.ErrDisk, api.OK}
	for at := 1; at <= 5; at++ {
		for order := range 3 * 3 * 3 * 3 * 3 * 3 {
			d := New(2)
			d.Power(at)
			n := order
			for step := 1; step <= 6; step++ {
				kind := n % 3
				n /= 3
				want := told[kind]
				if step >= at {
					want = api.ErrPower
				} else {
					reads(t, "P6.1", d, 0, make([]byte, size))
				}
				if got := kinds[kind](d); got != want || d.Steps() != step {
					t.Fatalf("P6.1: Power(%d), order %d, step %d: %v, want %v; %d steps", at, order, step, got, want, d.Steps())
				}
				if step >= at {
					readRefused(t, d, 0, api.ErrPower)
				}
			}
		}
	}
}

func TestPowerIsToldAheadOfWrongSectors(t *testing.T) { // P6.1: the error that is named first
	d, kept := begun(t, 3)
	d.Power(1)
	for _, i := range append(noSectors(3), 0, 1, 2) {
		for _, n := range []int{0, size, size + 1} {
			if e := d.Write(i, filled(n, 1)); e != api.ErrPower {
				t.Errorf("P6.1: Write(%d, %d bytes) without power: %v", i, n, e)
			}
		}
		readRefused(t, d, i, api.ErrPower)
	}
	keeps(t, "P6.1", d, kept)
}

func TestTheStepThatPowerTakesIsNotDone(t *testing.T) { // P6.1
	d, kept := begun(t, 3)
	d.Power(2)
	write(t, d, 0, filled(size, 1))
	if e := d.Write(1, filled(size, 2)); e != api.ErrPower {
		t.Fatalf("P6.1: %v", e)
	}
	d.Write(2, filled(size, 3))
	d.Flush()
	keeps(t, "P6.1", d, kept)
	d.Crash([]uint8{255, 255, 255})
	keeps(t, "P6.1", d, [][]byte{filled(size, 1), kept[1], kept[2]})

	d, kept = begun(t, 2)
	write(t, d, 1, filled(size, 1))
	d.Power(1)
	if e := d.Flush(); e != api.ErrPower {
		t.Fatalf("P6.1: %v", e)
	}
	keeps(t, "P6.1", d, kept)
	d.Crash([]uint8{0})
	keeps(t, "P6.1", d, kept)
	reads(t, "P6.1", d, 1, kept[1])
}

func TestPowerIsTakenBack(t *testing.T) { // P6.1: 0 or less: it isn't off
	for _, at := range []int{0, -1, -2, math.MinInt} {
		d := New(1)
		d.Power(at)
		flush(t, d)
		for _, first := range []int{1, 2, 5} {
			d.Power(first)
			d.Power(at)
			for range 8 {
				flush(t, d)
			}
		}
		reads(t, "P6.1", d, 0, make([]byte, size))
	}
}

func TestTheLastPowerStands(t *testing.T) { // P6.1: counted from its own call on
	for _, c := range []struct{ first, steps, second int }{{5, 0, 2}, {2, 0, 5}, {3, 2, 3}, {3, 1, 1}, {1, 0, 1}, {math.MaxInt, 4, 2}} {
		d := New(1)
		d.Power(c.first)
		for range c.steps {
			flush(t, d)
		}
		d.Power(c.second)
		for range c.second - 1 {
			flush(t, d)
		}
		if e := d.Flush(); e != api.ErrPower {
			t.Errorf("P6.1: Power(%d), %d steps, Power(%d): %v", c.first, c.steps, c.second, e)
		}
	}
}

func TestPowerFarAhead(t *testing.T) { // P6.1
	for _, at := range []int{1000, math.MaxInt32, math.MaxInt - 1, math.MaxInt} {
		d := New(1)
		for range 5 {
			flush(t, d)
		}
		d.Power(at)
		for range 999 {
			flush(t, d)
		}
		want := api.OK
		if at == 1000 {
			want = api.ErrPower
		}
		if e := d.Flush(); e != want {
			t.Errorf("P6.1: Power(%d): the 1000th step: %v", at, e)
		}
	}
}

func TestOffStaysOff(t *testing.T) { // P6.1: nothing changes that but Crash
	d, kept := begun(t, 2)
	write(t, d, 1, filled(size, 1))
	d.Power(1)
	d.Flush()
	for _, at := range []int{0, -1, 1, 2, 9, math.MinInt, math.MaxInt} {
		d.Power(at)
		readRefused(t, d, 0, api.ErrPower)
		if d.Flush() != api.ErrPower || d.Write(0, nil) != api.ErrPower {
			t.Errorf("P6.1: Power(%d) while it is off: a step is done", at)
		}
	}
	keeps(t, "P6.2", d, kept)
	if d.Len() != 2 {
		t.Errorf("P6.1: Len %d without power", d.Len())
	}
	d.Power(3)
	d.Crash([]uint8{255})
	for range 9 {
		flush(t, d)
	}
	keeps(t, "P6.2", d, [][]byte{kept[0], filled(size, 1)})
}

func TestCrashTakesPowerBack(t *testing.T) { // P6.2: also one that hasn't come yet
	for _, at := range []int{1, 2, 7} {
		d := New(1)
		d.Power(at)
		d.Crash(nil)
		for range 9 {
			flush(t, d)
		}
		reads(t, "P6.2", d, 0, make([]byte, size))
		d.Power(1)
		if e := d.Flush(); e != api.ErrPower {
			t.Errorf("P6.2: Power behind a Crash: %v", e)
		}
	}
}

// left is what a crash is to leave of a sector, byte by byte.
func left(kept, written []byte, choice int) []byte {
	out := make([]byte, size)
	for i := range out {
		switch {
		case choice == 255, choice != 0 && i < choice-choice/64*64:
			out[i] = written[i]
		default:
			out[i] = kept[i]
		}
	}
	return out
}

func TestCrashByEachChoice(t *testing.T) { // P6.2
	for choice := range 256 {
		d, kept := begun(t, 3)
		written := filled(size, 0x80)
		write(t, d, 1, written)
		d.Crash([]uint8{uint8(choice)})
		kept[1] = left(kept[1], written, choice)
		keeps(t, "P6.2", d, kept)
		for i := range kept {
			reads(t, "P6.2", d, i, kept[i])
		}
		d.Crash([]uint8{255, 255, 255})
		keeps(t, "P6.2", d, kept)
	}
}

func TestCrashAtTheEdges(t *testing.T) { // P6.2: written out
	a, b := bytes.Repeat([]byte{'a'}, size), bytes.Repeat([]byte{'b'}, size)
	for choice, spared := range map[uint8]int{0: 0, 1: 1, 2: 2, 63: 63, 64: 0, 65: 1, 127: 63, 128: 0, 129: 1, 191: 63, 192: 0, 193: 1, 254: 62, 255: 64} {
		d := New(1)
		write(t, d, 0, a)
		flush(t, d)
		write(t, d, 0, b)
		d.Crash([]uint8{choice})
		keeps(t, "P6.2", d, [][]byte{append(bytes.Clone(b[:spared]), a[spared:]...)})
	}
}

func TestCrashOfWhatWasWrittenTwice(t *testing.T) { // P6.2: what was kept, not what was written in between
	d, kept := begun(t, 1)
	write(t, d, 0, filled(size, 1))
	write(t, d, 0, filled(20, 2))
	last := append(filled(20, 2), filled(size, 1)[20:]...)
	d.Crash([]uint8{40})
	keeps(t, "P6.2", d, [][]byte{append(bytes.Clone(last[:40]), kept[0][40:]...)})
}

func TestChoicesGoByNumber(t *testing.T) { // P6.2: not by when it was written, how often, or by which choice
	for _, order := range [][]int{{1, 3, 4, 6}, {6, 4, 3, 1}, {4, 1, 6, 3}, {3, 3, 6, 1, 4, 6, 3}} {
		for _, choices := range [][]uint8{nil, {255}, {0, 255}, {10, 20, 30, 40}, {255, 0, 255, 0}, {0, 0, 0, 255}, {1, 2, 3, 4, 255, 255, 255}} {
			d, kept := begun(t, 8)
			for _, i := range order {
				write(t, d, i, filled(size, byte(0x80+i)))
			}
			d.Crash(choices)
			for k, i := range []int{1, 3, 4, 6} {
				choice := 0
				if k < len(choices) {
					choice = int(choices[k])
				}
				kept[i] = left(kept[i], filled(size, byte(0x80+i)), choice)
			}
			keeps(t, "P6.2", d, kept)
		}
	}
}

func TestManyPendingByNumber(t *testing.T) { // P6.2
	const sectors = 4000
	d, r := New(sectors), rand.New(rand.NewSource(1))
	want, choices := make([][]byte, sectors), make([]uint8, sectors-1)
	r.Read(choices)
	for _, i := range r.Perm(sectors) {
		written := filled(size, byte(i))
		write(t, d, i, written)
		choice := 0
		if i < len(choices) {
			choice = int(choices[i])
		}
		want[i] = left(make([]byte, size), written, choice)
	}
	d.Crash(choices)
	keeps(t, "P6.2", d, want)
}

func TestAWriteOfNothingIsPending(t *testing.T) { // P6.1, P6.2: it takes a choice
	d, kept := begun(t, 2)
	write(t, d, 0, nil)
	write(t, d, 1, filled(size, 1))
	d.Crash([]uint8{255})
	keeps(t, "P6.2", d, kept)
	write(t, d, 0, []byte{})
	write(t, d, 1, filled(size, 1))
	d.Crash([]uint8{0, 255})
	keeps(t, "P6.2", d, [][]byte{kept[0], filled(size, 1)})
}

func TestAWriteOfTheSameIsPending(t *testing.T) { // P6.1, P6.2
	d, kept := begun(t, 2)
	write(t, d, 0, kept[0])
	write(t, d, 1, filled(size, 1))
	d.Crash([]uint8{255})
	keeps(t, "P6.2", d, kept)
}

func TestFlushedIsNotPending(t *testing.T) { // P6.1, P6.3: it takes no choice
	d, kept := begun(t, 3)
	write(t, d, 0, filled(size, 1))
	write(t, d, 2, filled(9, 2))
	flush(t, d)
	kept[0], kept[2] = filled(size, 1), append(filled(9, 2), kept[2][9:]...)
	keeps(t, "P6.3", d, kept)
	write(t, d, 1, filled(size, 3))
	kept[1] = filled(size, 3)
	d.Crash([]uint8{255})
	keeps(t, "P6.3", d, kept)
}

func TestExample(t *testing.T) { // the chapter's: Write, Crash without choices: noughts
	for _, choices := range [][]uint8{nil, {}} {
		d := New(1)
		write(t, d, 0, filled(size, 1))
		d.Crash(choices)
		reads(t, "P6.2", d, 0, make([]byte, size))
	}
}

func TestFlushedIsThere(t *testing.T) { // P6.3: whatever comes behind it, where it isn't written again
	r := rand.New(rand.NewSource(2))
	for range 300 {
		d, kept := begun(t, 8)
		for range 5 {
			d.Power(r.Intn(12))
			for range r.Intn(10) {
				if i := 2 * r.Intn(4); d.Write(i, filled(r.Intn(70), byte(r.Int()))) == api.OK && r.Intn(9) == 0 {
					d.Flush()
				}
			}
			choices := make([]byte, r.Intn(6))
			r.Read(choices)
			d.Crash(choices)
			for i := 1; i < 8; i += 2 {
				reads(t, "P6.3", d, i, kept[i])
			}
		}
	}
}

func TestCopyHasAll(t *testing.T) { // P6.2: sectors, what is pending, Steps, the power
	d, kept := begun(t, 3)
	write(t, d, 1, filled(10, 1))
	d.Power(3)
	flushed := append(filled(10, 1), kept[1][10:]...)
	c := d.Copy()
	if c.Len() != 3 || c.Steps() != d.Steps() {
		t.Errorf("P6.2: a copy: Len %d, %d steps, want 3, %d", c.Len(), c.Steps(), d.Steps())
	}
	keeps(t, "P6.2", c, kept)
	reads(t, "P6.2", c, 1, flushed)
	for _, x := range []*Disk{c, d} { // each counts its own steps until the power goes
		write(t, x, 1, nil)
		flush(t, x)
		keeps(t, "P6.2", x, [][]byte{kept[0], flushed, kept[2]})
		if e := x.Flush(); e != api.ErrPower {
			t.Errorf("P6.2: the power of a copy: %v", e)
		}
		readRefused(t, x.Copy(), 0, api.ErrPower)
	}
	off := d.Copy()
	off.Crash(nil)
	reads(t, "P6.2", off, 0, kept[0])
	readRefused(t, d, 0, api.ErrPower)
}

func TestCopyGoesItsOwnWay(t *testing.T) { // P6.2: in both directions
	for _, swapped := range []bool{false, true} {
		one, kept := begun(t, 4)
		write(t, one, 0, filled(size, 1))
		other := one.Copy()
		if swapped {
			one, other = other, one
		}
		steps := other.Steps()
		write(t, one, 0, filled(size, 2))
		write(t, one, 1, filled(size, 3))
		flush(t, one)
		write(t, one, 2, filled(size, 4))
		one.Crash([]uint8{255})
		one.Power(1)
		one.Flush()
		if other.Steps() != steps {
			t.Errorf("P6.2: %d steps, want %d", other.Steps(), steps)
		}
		keeps(t, "P6.2", other, kept)
		reads(t, "P6.2", other, 0, filled(size, 1))
		for i := 1; i < 4; i++ {
			reads(t, "P6.2", other, i, kept[i])
		}
		write(t, other, 3, filled(size, 5))
		other.Crash([]uint8{255, 255})
		keeps(t, "P6.2", other, [][]byte{filled(size, 1), kept[1], kept[2], filled(size, 5)})
		keeps(t, "P6.2", one, [][]byte{filled(size, 2), filled(size, 3), filled(size, 4), kept[3]})
	}
}

func TestNothingHandedInIsChangedOrKept(t *testing.T) { // DOC.md's rule 3
	for _, n := range []int{0, 1, 63, 64, 65} {
		d, kept := begun(t, 2)
		b, choices := roomy(filled(n, 1)), roomy([]byte{255, 7})
		want := bytes.Clone(kept[1])
		if n <= size {
			copy(want, b)
		}
		whole := bytes.Clone(b[:cap(b)])
		d.Write(1, b)
		if !bytes.Equal(b[:cap(b)], whole) {
			t.Errorf("Write of %d bytes changes them", n)
		}
		spoil(b[:cap(b)])
		reads(t, "P6.1", d, 1, want)
		whole = bytes.Clone(choices[:cap(choices)])
		d.Crash(choices)
		if !bytes.Equal(choices[:cap(choices)], whole) {
			t.Error("Crash changes its choices")
		}
		spoil(choices)
		keeps(t, "P6.2", d, [][]byte{kept[0], want})
	}
}

func TestAnswersAreNewMemory(t *testing.T) { // DOC.md's rule 3
	d, kept := begun(t, 2)
	write(t, d, 1, filled(size, 1))
	for i, want := range [][]byte{kept[0], filled(size, 1)} {
		first, _ := d.Read(i)
		second, _ := d.Read(i)
		spoil(first[:cap(first)])
		if !bytes.Equal(second, want) {
			t.Errorf("sector %d: two answers share memory", i)
		}
		reads(t, "P6.1", d, i, want)
	}
	first, second := d.Image(), d.Image()
	spoil(first[:cap(first)])
	if !bytes.Equal(second, slices.Concat(kept...)) {
		t.Error("two images share memory")
	}
	keeps(t, "P6.2", d, kept)
	earlier, _ := d.Read(0)
	write(t, d, 0, filled(size, 2))
	flush(t, d)
	if !bytes.Equal(earlier, kept[0]) || !bytes.Equal(second, slices.Concat(kept...)) {
		t.Error("an earlier answer is touched by a later Write")
	}
}

// plain is the disk another way: each sector twice, and the step at which the power goes.
type plain struct {
	kept, now [][]byte
	pending   []bool
	steps, at int
	off       bool
}

func newPlain(sectors int) *plain {
	p := &plain{pending: make([]bool, sectors)}
	for range sectors {
		p.kept, p.now = append(p.kept, make([]byte, size)), append(p.now, make([]byte, size))
	}
	return p
}

func (p *plain) powered() bool {
	p.steps++
	p.off = p.off || p.at != 0 && p.steps >= p.at
	return !p.off
}

func (p *plain) write(i int, b []byte) api.Errno {
	switch {
	case !p.powered():
		return api.ErrPower
	case i < 0 || i >= len(p.now) || len(b) > size:
		return api.ErrDisk
	}
	copy(p.now[i], b)
	p.pending[i] = true
	return api.OK
}

func (p *plain) flush() api.Errno {
	if !p.powered() {
		return api.ErrPower
	}
	for i := range p.now {
		copy(p.kept[i], p.now[i])
		p.pending[i] = false
	}
	return api.OK
}

func (p *plain) power(at int) {
	switch {
	case p.off:
	case at <= 0:
		p.at = 0
	default:
		p.at = p.steps + at
	}
}

func (p *plain) crash(choices []uint8) {
	p.off, p.at = false, 0
	for i := range p.now {
		if p.pending[i] {
			choice := 0
			if len(choices) > 0 {
				choice, choices = int(choices[0]), choices[1:]
			}
			p.kept[i] = left(p.kept[i], p.now[i], choice)
			copy(p.now[i], p.kept[i])
			p.pending[i] = false
		}
	}
}

func alike(t *testing.T, d *Disk, p *plain) {
	t.Helper()
	if d.Steps() != p.steps || d.Len() != len(p.kept) {
		t.Fatalf("P6.1: %d steps of %d sectors, want %d of %d", d.Steps(), d.Len(), p.steps, len(p.kept))
	}
	keeps(t, "P6.2", d, p.kept)
	for i := range p.now {
		if p.off {
			readRefused(t, d, i, api.ErrPower)
		} else {
			reads(t, "P6.1", d, i, p.now[i])
		}
	}
}

func TestAgainstAnotherWay(t *testing.T) { // P6.1, P6.2, P6.3: rows of calls; the same row, the same answers (DOC.md's rule 6)
	for seed := range int64(200) {
		r := rand.New(rand.NewSource(seed))
		sectors := r.Intn(9)
		d, p := New(sectors), newPlain(sectors)
		for range 150 {
			var got, want api.Errno
			switch r.Intn(10) {
			case 0:
				got, want = d.Flush(), p.flush()
			case 1:
				at := r.Intn(14) - 4
				d.Power(at)
				p.power(at)
			case 2:
				choices := make([]byte, r.Intn(7))
				for i := range choices {
					choices[i] = []byte{0, 255, 63, 64, byte(r.Int())}[r.Intn(5)]
				}
				d.Crash(choices)
				p.crash(choices)
			case 3:
				elder := d
				d = d.Copy()
				elder.Crash([]uint8{9})
				elder.Write(0, filled(size, 9))
			default:
				i, b := r.Intn(sectors+2)-1, filled(r.Intn(67), byte(r.Int()))
				got, want = d.Write(i, b), p.write(i, b)
			}
			if got != want {
				t.Fatalf("P6.1: row %d: %v, want %v", seed, got, want)
			}
			alike(t, d, p)
		}
	}
}
