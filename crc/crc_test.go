package crc_test

import (
	"bytes"
	"math"
	"math/bits"
	"slices"
	"testing"

	"kinora/crc"
)

// The tests hold the package against the chapter's words themselves: polynomials as lists of factors, the highest power's first, divided as one divides by hand.

// divisor has the factors of G, by its powers.
func divisor() []byte {
	g := make([]byte, 33)
	for _, power := range []int{32, 26, 23, 22, 16, 12, 11, 10, 8, 7, 5, 4, 2, 1, 0} {
		g[32-power] = 1
	}
	return g
}

// factors are those of bytes: the first byte's lowest bit is the highest power's.
func factors(b []byte) []byte {
	var p []byte
	for _, c := range b {
		for k := range 8 {
			p = append(p, c>>k&1)
		}
	}
	return p
}

// remainder is that of a polynomial by G, 32 factors.
func remainder(p []byte) []byte {
	g := divisor()
	rest := append(make([]byte, 32), p...)
	for i := range len(rest) - 32 {
		if rest[i] == 1 {
			for k, f := range g {
				rest[i+k] ^= f
			}
		}
	}
	return rest[len(rest)-32:]
}

// number has the factor of x^31 as its lowest bit.
func number(rest []byte) uint32 {
	v := uint32(0)
	for k, f := range rest {
		v |= uint32(f) << k
	}
	return v
}

// told is what the chapter says that the sum of bytes is.
func told(b []byte) uint32 {
	p := append(factors(b), make([]byte, 32)...)
	for i := range 32 { // the ones ahead of the bytes
		p[i] ^= 1
	}
	return ^number(remainder(p))
}

// row has bytes that look like chance and are the same each time.
func row(seed uint64, n int) []byte {
	b := make([]byte, n)
	for i := range b {
		b[i] = byte(word(seed, i))
	}
	return b
}

// word is the i-th of a row of numbers.
func word(seed uint64, i int) uint64 {
	z := seed*0xD1342543DE82EF95 + uint64(i+1)*0x9E3779B97F4A7C15
	z = (z ^ z>>30) * 0xBF58476D1CE4E5B9
	z = (z ^ z>>27) * 0x94D049BB133111EB
	return z ^ z>>31
}

// sums are some: the edges, each bit alone, and others.
func sums() []uint32 {
	s := []uint32{0, 1, math.MaxUint32, math.MaxUint32 - 1, 0xCBF43926, 0xEDB88320, 0x04C11DB7}
	for k := range 32 {
		s = append(s, 1<<k)
	}
	for i := range 20 {
		s = append(s, uint32(word(3, i)))
	}
	return s
}

// having are four bytes of which a sum is the sum: each sum is that of some, for the remainders of x^32 to x^63 hang on one another in no way.
func having(t *testing.T, sum uint32) []byte {
	t.Helper()
	var rows [32]uint64 // at k one with the bit k highest: a change of the sum below, the bits turned for it above
	none := told(make([]byte, 4))
	for k := range 32 {
		bit := make([]byte, 4)
		bit[k/8] = 1 << (k % 8)
		r := uint64(told(bit)^none) | 1<<(32+k)
		for uint32(r) != 0 {
			high := bits.Len32(uint32(r)) - 1
			if rows[high] == 0 {
				rows[high] = r
				break
			}
			r ^= rows[high]
		}
	}
	left := uint64(sum ^ none)
	for uint32(left) != 0 {
		left ^= rows[bits.Len32(uint32(left))-1]
	}
	turned := uint32(left >> 32)
	b := []byte{byte(turned), byte(turned >> 8), byte(turned >> 16), byte(turned >> 24)}
	if told(b) != sum {
		t.Fatalf("the tests' own bytes: %x have %x, wanted %x", b, told(b), sum)
	}
	return b
}

// P3.1 (R1): Table.

func TestTableHasTheRemainderOfEachByte(t *testing.T) {
	x := crc.Table()
	for i := range 256 {
		p := append(factors([]byte{byte(i)}), make([]byte, 32)...)
		if want := number(remainder(p)); x[i] != want {
			t.Errorf("at %d: %08x, wanted %08x", i, x[i], want)
		}
	}
	if x[0] != 0 || x[1] != 0x77073096 || x[128] != 0xEDB88320 || x[255] != 0x2D02EF8D {
		t.Errorf("%08x %08x %08x %08x", x[0], x[1], x[128], x[255])
	}
}

func TestTableIsNewEachTime(t *testing.T) {
	x, want := crc.Table(), crc.Table()
	clear(x[:])
	if crc.Table() != want || crc.Sum([]byte("123456789")) != 0xCBF43926 {
		t.Error("a table that was written into is answered again")
	}
}

// P3.1 (R1): Sum.

func TestSumIsTheTold(t *testing.T) {
	for s, want := range map[string]uint32{
		"":                 0,
		"123456789":        0xCBF43926,
		"a":                0xE8B7BE43,
		"abc":              0x352441C2,
		"\x00":             0xD202EF8D,
		"\xFF":             0xFF000000,
		"\x00\x00\x00\x00": 0x2144DF1C,
		"\xFF\xFF\xFF\xFF": 0xFFFFFFFF,
		"The quick brown fox jumps over the lazy dog": 0x414FA339,
	} {
		if own := told([]byte(s)); own != want {
			t.Errorf("the tests' own sum of %q: %08x, wanted %08x", s, own, want)
		}
		if sum := crc.Sum([]byte(s)); sum != want {
			t.Errorf("Sum of %q: %08x, wanted %08x", s, sum, want)
		}
	}
	if sum := crc.Sum(nil); sum != 0 {
		t.Errorf("Sum of nil: %08x", sum)
	}
}

func TestSumOfOneByteAndOfTwo(t *testing.T) {
	for i := range 256 {
		for _, b := range [][]byte{{byte(i)}, {byte(i), 0x5A}, {0x5A, byte(i)}} {
			if sum, want := crc.Sum(b), told(b); sum != want {
				t.Errorf("Sum of %x: %08x, wanted %08x", b, sum, want)
			}
		}
	}
}

func TestSumOfManyLengths(t *testing.T) {
	for n := range 300 {
		for _, b := range [][]byte{row(uint64(n), n), make([]byte, n), bytes.Repeat([]byte{0xFF}, n)} {
			if sum, want := crc.Sum(b), told(b); sum != want {
				t.Errorf("Sum of %d bytes: %08x, wanted %08x", n, sum, want)
			}
		}
	}
	b := row(1, 100003)
	if sum, want := crc.Sum(b), told(b); sum != want {
		t.Errorf("Sum of %d bytes: %08x, wanted %08x", len(b), sum, want)
	}
}

func TestBytesAreLeftAndThoseBehindNotSeen(t *testing.T) {
	all := row(2, 64)
	kept := slices.Clone(all)
	sum, more := crc.Sum(all[8:40]), crc.More(77, all[8:40])
	if !bytes.Equal(all, kept) {
		t.Error("bytes were written into")
	}
	for i := 40; i < len(all); i++ {
		all[i] ^= 0xFF
	}
	for i := range 8 {
		all[i] ^= 0xFF
	}
	if crc.Sum(all[8:40]) != sum || crc.More(77, all[8:40]) != more || sum != told(kept[8:40]) {
		t.Error("bytes beside those handed in are summed")
	}
}

// P3.1 (R1): More.

func TestMoreIsTheSumWithBytesBehind(t *testing.T) {
	for i, sum := range sums() {
		ahead := having(t, sum)
		for _, n := range []int{0, 1, 2, 3, 4, 5, 8, 33, 100} {
			b := row(uint64(i), n)
			want := told(slices.Concat(ahead, b))
			if s := crc.More(sum, b); s != want {
				t.Errorf("More of %08x and %d bytes: %08x, wanted %08x", sum, n, s, want)
			}
		}
		if s := crc.More(sum, nil); s != sum {
			t.Errorf("More of %08x and nil: %08x", sum, s)
		}
	}
}

// P3.1 (R1): Zeros.

func TestZerosOfFewIsMoreWithBytes0(t *testing.T) {
	for _, sum := range sums() {
		ahead := having(t, sum)
		for n := range 40 {
			want := told(append(ahead, make([]byte, n)...))
			if s := crc.Zeros(sum, uint64(n)); s != want {
				t.Errorf("Zeros of %08x and %d: %08x, wanted %08x", sum, n, s, want)
			}
		}
		for _, n := range []int{255, 256, 257, 1000, 65535, 65536, 65537, 1 << 20} {
			if s, want := crc.Zeros(sum, uint64(n)), crc.More(sum, make([]byte, n)); s != want {
				t.Errorf("Zeros of %08x and %d: %08x, wanted %08x", sum, n, s, want)
			}
		}
	}
}

// times are two remainders one times the other by G, 32 factors each.
func times(a, b []byte) []byte {
	p := make([]byte, 63)
	for i, x := range a {
		for k, y := range b {
			p[i+k] ^= x & y
		}
	}
	return remainder(p)
}

// toldZeros is what Zeros must be by the words: of P with the ones the power x^(8n), its remainder from squares.
func toldZeros(sum uint32, n uint64) uint32 {
	rest := make([]byte, 32)
	for k := range rest {
		rest[k] = byte(^sum >> k & 1)
	}
	power := remainder([]byte{1, 0, 0, 0, 0, 0, 0, 0, 0}) // x^8
	for ; n > 0; n >>= 1 {
		if n&1 == 1 {
			rest = times(rest, power)
		}
		power = times(power, power)
	}
	return ^number(rest)
}

func TestZerosOfVeryMany(t *testing.T) {
	many := []uint64{1<<31 - 1, 1 << 31, 1<<32 - 2, 1<<32 - 1, 1 << 32, 1<<32 + 1, 1<<40 + 3, 1<<61 - 1, 1 << 61, 1<<61 + 1, 1<<63 - 1, 1 << 63, math.MaxUint64 - 1, math.MaxUint64}
	for k := range 64 {
		many = append(many, 1<<k)
	}
	for i := range 20 {
		many = append(many, word(4, i))
	}
	for i, n := range many {
		for _, sum := range []uint32{0, 1, math.MaxUint32, uint32(word(5, i))} {
			if s, want := crc.Zeros(sum, n), toldZeros(sum, n); s != want {
				t.Errorf("Zeros of %08x and %d: %08x, wanted %08x", sum, n, s, want)
			}
		}
	}
}

// G divides x^(2^32 - 1) + 1, so as many bytes 0, or 2^32 + 1 times as many, leave each sum as it is.
func TestZerosGoRound(t *testing.T) {
	for _, sum := range sums() {
		for _, n := range []uint64{0, 1<<32 - 1, 2 * (1<<32 - 1), math.MaxUint64} {
			if s := crc.Zeros(sum, n); s != sum {
				t.Errorf("Zeros of %08x and %d: %08x", sum, n, s)
			}
		}
		if a, b := crc.Zeros(sum, math.MaxUint64-1), crc.Zeros(sum, 1<<32-2); a != b || crc.Zeros(a, 1) != sum {
			t.Errorf("Zeros of %08x and one byte less than round: %08x, %08x", sum, a, b)
		}
	}
}

func TestZerosBehindZeros(t *testing.T) {
	for i := range 50 {
		sum, a, b := uint32(word(6, i)), word(7, i)>>1, word(8, i)>>1
		if crc.Zeros(crc.Zeros(sum, a), b) != crc.Zeros(sum, a+b) {
			t.Errorf("Zeros of %08x, %d and %d", sum, a, b)
		}
	}
}

// P3.1 (R1): Join.

func TestJoinOfAnySums(t *testing.T) {
	some := sums()
	for i, a := range some {
		for k := range 8 {
			b := some[(i+7*k)%len(some)]
			n := word(uint64(i), k) >> (8 * k)
			if s, want := crc.Join(a, b, n), toldZeros(a, n)^toldZeros(0, n)^b; s != want {
				t.Errorf("Join of %08x, %08x and %d: %08x, wanted %08x", a, b, n, s, want)
			}
			if s := crc.Join(0, b, n); s != b {
				t.Errorf("Join of no bytes' sum, %08x and %d: %08x", b, n, s)
			}
			for _, round := range []uint64{0, math.MaxUint64} {
				if s := crc.Join(a, b, round); s != a^b {
					t.Errorf("Join of %08x, %08x and %d: %08x, wanted %08x", a, b, round, s, a^b)
				}
			}
		}
	}
}

// P3.3 (piece by piece).

func TestSumsAreJoinedAsBytesAre(t *testing.T) {
	for _, b := range [][]byte{[]byte("123456789"), row(9, 0), row(9, 1), row(9, 131), make([]byte, 40), bytes.Repeat([]byte{0xFF}, 40)} {
		want := told(b)
		for i := range len(b) + 1 {
			ahead, behind := b[:i], b[i:]
			if s := crc.More(crc.Sum(ahead), behind); s != want {
				t.Errorf("More at %d of %d bytes: %08x, wanted %08x", i, len(b), s, want)
			}
			if s := crc.Join(crc.Sum(ahead), crc.Sum(behind), uint64(len(behind))); s != want {
				t.Errorf("Join at %d of %d bytes: %08x, wanted %08x", i, len(b), s, want)
			}
		}
	}
}

func TestThreePiecesAreJoinedEitherWay(t *testing.T) {
	b := row(10, 60)
	want := told(b)
	for i := range len(b) + 1 {
		for k := i; k <= len(b); k++ {
			x, y, z := crc.Sum(b[:i]), crc.Sum(b[i:k]), crc.Sum(b[k:])
			ny, nz := uint64(k-i), uint64(len(b)-k)
			if s := crc.Join(crc.Join(x, y, ny), z, nz); s != want {
				t.Fatalf("the first two ahead, at %d and %d: %08x, wanted %08x", i, k, s, want)
			}
			if s := crc.Join(x, crc.Join(y, z, nz), ny+nz); s != want {
				t.Fatalf("the last two ahead, at %d and %d: %08x, wanted %08x", i, k, s, want)
			}
		}
	}
}

// P3.2 (what is turned is told).

// turned are bytes with bits turned from a place on, the bits of a number in the chapter's order.
func turned(b []byte, place int, pattern uint32) []byte {
	c := slices.Clone(b)
	for k := range 32 {
		if pattern>>k&1 == 1 {
			c[(place+k)/8] ^= 1 << ((place + k) % 8)
		}
	}
	return c
}

// patterns are bits to be turned, within 32 beside one another: all within 8, the first and one or two others, all, and others.
func patterns() []uint32 {
	p := []uint32{math.MaxUint32, 0xEDB88320, 0x04C11DB7, 0xDB710641, 0xAAAAAAAA, 0x55555555}
	for i := uint32(1); i < 256; i++ {
		p = append(p, i, i<<24)
	}
	for k := range 32 {
		p = append(p, 1|1<<k, 1|1<<k|1<<31, math.MaxUint32>>k)
	}
	for i := range 300 {
		p = append(p, uint32(word(11, i))|1)
	}
	return p
}

func TestWhatIsTurnedIsTold(t *testing.T) {
	for _, b := range [][]byte{row(12, 12), make([]byte, 7), bytes.Repeat([]byte{0xFF}, 7), []byte("123456789"), row(13, 1), row(14, 4)} {
		sum := crc.Sum(b)
		for place := range 8 * len(b) {
			for _, p := range patterns() {
				if place+bits.Len32(p) > 8*len(b) {
					continue
				}
				c := turned(b, place, p)
				if s := crc.Sum(c); s == sum {
					t.Fatalf("bits %08x turned from %d on in %x: the sum stays %08x", p, place, b, s)
				}
			}
		}
	}
}

// What 32 bits beside one another become is told only if no two of them that differ have one sum: their changes, one for each bit, hang on one another in no way.
func TestNoBitsWithin32MakeUpForOneAnother(t *testing.T) {
	b := row(15, 24)
	sum := crc.Sum(b)
	for place := range 8*len(b) - 31 {
		var rows [32]uint32
		for k := range 32 {
			r := crc.Sum(turned(b, place, 1<<k)) ^ sum
			for r != 0 && rows[bits.Len32(r)-1] != 0 {
				r ^= rows[bits.Len32(r)-1]
			}
			if r == 0 {
				t.Fatalf("turned from %d on, the bit %d behind is made up for by others", place, k)
			}
			rows[bits.Len32(r)-1] = r
		}
	}
}

// That is so because a bit turned changes the sum in one way, whatever the other bits are.
func TestTurnedBitsChangeTheSumEachByItself(t *testing.T) {
	b := row(16, 9)
	zeros := make([]byte, len(b))
	for place := range 8*len(b) - 31 {
		for _, p := range patterns() {
			want := crc.Sum(turned(zeros, place, p)) ^ crc.Sum(zeros)
			if change := crc.Sum(turned(b, place, p)) ^ crc.Sum(b); change != want {
				t.Fatalf("bits %08x turned from %d on: %08x, wanted %08x", p, place, change, want)
			}
		}
	}
}

// P2: what is answered hangs on the arguments alone.
func TestSameArgumentsSameAnswers(t *testing.T) {
	b := row(17, 50)
	sum, more, zeros, join := crc.Sum(b), crc.More(5, b), crc.Zeros(5, 1<<40), crc.Join(5, 6, 1<<40)
	crc.Sum(row(18, 99))
	crc.Zeros(9, 3)
	if crc.Sum(b) != sum || crc.More(5, b) != more || crc.Zeros(5, 1<<40) != zeros || crc.Join(5, 6, 1<<40) != join {
		t.Error("a call ahead is told")
	}
}
