package coder_test

import (
	"bytes"
	"math"
	"math/big"
	"slices"
	"testing"

	"kinora/api"
	"kinora/coder"
)

// The tests hold the package against the chapter's words themselves: a code is one great number, and a range another.

const (
	least = coder.Chance(31)
	most  = coder.Chance(2017)
)

// model is the code and the range by the words.
type model struct {
	code, width *big.Int
	count       int // of the code's bytes
}

func newModel() *model {
	return &model{code: big.NewInt(0), width: big.NewInt(math.MaxUint32), count: 4}
}

// bound is that of a chance.
func (m *model) bound(c coder.Chance) *big.Int {
	part := new(big.Int).Div(m.width, big.NewInt(2048))
	return part.Mul(part, big.NewInt(int64(c)))
}

func (m *model) put(c coder.Chance, bit int) {
	bound := m.bound(c)
	if bit == 0 {
		m.width.Set(bound)
	} else {
		m.code.Add(m.code, bound)
		m.width.Sub(m.width, bound)
	}
	for m.width.Cmp(big.NewInt(1<<24)) < 0 {
		m.width.Mul(m.width, big.NewInt(256))
		m.code.Mul(m.code, big.NewInt(256))
		m.count++
	}
}

func (m *model) bytes() []byte { return m.code.FillBytes(make([]byte, m.count)) }

// step is a bit with its chance.
type step struct {
	c   coder.Chance
	bit int
}

// told is the code of steps by the words.
func told(steps []step) []byte {
	m := newModel()
	for _, s := range steps {
		m.put(s.c, s.bit)
	}
	return m.bytes()
}

// coded is the code of steps by the package.
func coded(t *testing.T, steps []step) []byte {
	t.Helper()
	x := coder.New()
	for i, s := range steps {
		if e := x.Put(s.c, s.bit); e != api.OK {
			t.Fatalf("Put %d of %v: %v", i, s, e)
		}
	}
	return x.Bytes()
}

// opened is a decoder of bytes.
func opened(t *testing.T, b []byte) *coder.Decoder {
	t.Helper()
	y, e := coder.Open(b)
	if y == nil || e != api.OK {
		t.Fatalf("Open of %x: %v", b, e)
	}
	return y
}

// word is the i-th of a row of numbers that look like chance and are the same each time.
func word(seed uint64, i int) uint64 {
	z := seed*0xD1342543DE82EF95 + uint64(i+1)*0x9E3779B97F4A7C15
	z = (z ^ z>>30) * 0xBF58476D1CE4E5B9
	z = (z ^ z>>27) * 0x94D049BB133111EB
	return z ^ z>>31
}

// anyChance is one of all.
func anyChance(w uint64) coder.Chance { return least + coder.Chance(w%uint64(most-least+1)) }

// row has steps of any chances; of 16 bits about so many are 1.
func row(seed uint64, n int, ones uint64) []step {
	l := make([]step, n)
	for i := range l {
		w := word(seed, i)
		l[i].c = anyChance(w >> 8)
		if w&15 < ones {
			l[i].bit = 1
		}
	}
	return l
}

// following has steps whose chances follow the bits.
func following(seed uint64, n int, ones uint64) []step {
	l := row(seed, n, ones)
	c := coder.Even
	for i := range l {
		l[i].c = c
		c = c.Next(l[i].bit)
	}
	return l
}

// same has one step so often.
func same(c coder.Chance, bit, n int) []step { return slices.Repeat([]step{{c, bit}}, n) }

// rows are those that the tests go through.
func rows() [][]step {
	l := [][]step{nil}
	for _, c := range []coder.Chance{least, least + 1, 1023, coder.Even, 1025, most - 1, most} {
		for _, n := range []int{1, 2, 3, 7, 8, 9, 40, 300} {
			l = append(l, same(c, 0, n), same(c, 1, n))
			alike, other := row(uint64(n), n, 8), row(uint64(n)+50, n, 1)
			for i := range n {
				alike[i].c, other[i].c = c, c
			}
			l = append(l, alike, other)
		}
	}
	for i := range 40 {
		l = append(l, row(uint64(i), 20*i, uint64(i%17)), following(uint64(i), 50*i, uint64(i%17)))
	}
	return append(l, straddle(12))
}

// straddle has steps whose code gets so many bytes ever nearer below 80000000 00.., and with the last one goes over.
func straddle(count int) []step {
	var l []step
	m := newModel()
	for {
		short := new(big.Int).Lsh(big.NewInt(0x80000000), uint(8*(m.count-4)))
		short.Sub(short, m.code)
		if m.count >= count && m.bound(most).Cmp(short) >= 0 {
			return append(l, step{most, 1})
		}
		s := step{coder.Even, 0}
		if m.bound(s.c).Cmp(short) == 0 { // neither of the two parts would have it inside
			s.c++
		}
		if m.bound(s.c).Cmp(short) < 0 {
			s.bit = 1
		}
		m.put(s.c, s.bit)
		l = append(l, s)
	}
}

// P4.1 (C1): Next.

func TestNextOfEachChance(t *testing.T) {
	for c := least; c <= most; c++ {
		x := int(c)
		zero, one := x+(2048-x)/32, x-x/32
		if n := c.Next(0); int(n) != zero {
			t.Errorf("Next of %d behind a 0: %d, wanted %d", c, n, zero)
		}
		for _, bit := range []int{1, 2, -1, 256, math.MaxInt, math.MinInt} {
			if n := c.Next(bit); int(n) != one {
				t.Errorf("Next of %d behind %d: %d, wanted %d", c, bit, n, one)
			}
		}
	}
	if coder.Even != 1024 || coder.Even.Next(0) != 1056 || coder.Even.Next(1) != 992 {
		t.Errorf("Even: %d, %d, %d", coder.Even, coder.Even.Next(0), coder.Even.Next(1))
	}
	if least.Next(1) != 31 || least.Next(0) != 94 || most.Next(0) != 2017 || most.Next(1) != 1954 {
		t.Errorf("the ends: %d, %d, %d, %d", least.Next(1), least.Next(0), most.Next(0), most.Next(1))
	}
}

func TestNextOfWhatIsNoChance(t *testing.T) {
	for i := range 1 << 16 {
		c, near := coder.Chance(i), coder.Chance(i)
		switch {
		case i < 31:
			near = 31
		case i > 2017:
			near = 2017
		default:
			continue
		}
		if c.Next(0) != near.Next(0) || c.Next(1) != near.Next(1) || c.Next(-5) != near.Next(1) {
			t.Fatalf("Next of %d: %d, %d, %d", i, c.Next(0), c.Next(1), c.Next(-5))
		}
	}
}

func TestNextStaysAChanceAndComesToTheEnds(t *testing.T) {
	up, down := coder.Even, coder.Even
	for range 1000 {
		up, down = up.Next(0), down.Next(1)
		if up > most || down < least {
			t.Fatalf("no chances: %d, %d", up, down)
		}
	}
	if up != most || down != least {
		t.Errorf("the ends: %d, %d", up, down)
	}
}

// P4.1 (C1): Put and Bytes.

func TestCodeOfNoBits(t *testing.T) {
	if b := coder.New().Bytes(); !bytes.Equal(b, make([]byte, 4)) {
		t.Errorf("%x", b)
	}
}

func TestCodeOfFewBits(t *testing.T) {
	for _, x := range []struct {
		steps []step
		want  []byte
	}{
		{[]step{{coder.Even, 0}}, []byte{0, 0, 0, 0}},
		{[]step{{coder.Even, 1}}, []byte{0x7F, 0xFF, 0xFC, 0x00}},
		{[]step{{coder.Even, 1}, {coder.Even, 0}}, []byte{0x7F, 0xFF, 0xFC, 0x00}},
		{[]step{{least, 1}}, []byte{0x03, 0xDF, 0xFF, 0xE1}},
		{[]step{{most, 1}}, []byte{0xFC, 0x1F, 0xF8, 0x1F}},
		{same(least, 0, 2), []byte{0, 0, 0, 0, 0}},
		{same(coder.Even, 0, 7), []byte{0, 0, 0, 0}},
		{same(coder.Even, 0, 8), []byte{0, 0, 0, 0, 0}},
		{[]step{{33, 0}, {993, 0}, {1024, 0}}, []byte{0, 0, 0, 0}},    // a range of 2^24
		{[]step{{31, 0}, {793, 0}, {1365, 0}}, []byte{0, 0, 0, 0, 0}}, // of 2^24 - 1, till a byte more is behind
	} {
		if own := told(x.steps); !bytes.Equal(own, x.want) {
			t.Errorf("the tests' own code of %v: %x, wanted %x", x.steps, own, x.want)
		}
		if b := coded(t, x.steps); !bytes.Equal(b, x.want) {
			t.Errorf("the code of %v: %x, wanted %x", x.steps, b, x.want)
		}
	}
}

func TestCodeBehindEachBit(t *testing.T) {
	for i, steps := range rows() {
		x, m := coder.New(), newModel()
		for k, s := range steps {
			if e := x.Put(s.c, s.bit); e != api.OK {
				t.Fatalf("row %d: Put %d of %v: %v", i, k, s, e)
			}
			m.put(s.c, s.bit)
			if b, want := x.Bytes(), m.bytes(); !bytes.Equal(b, want) {
				t.Fatalf("row %d: behind %d bits: %x, wanted %x", i, k+1, b, want)
			}
		}
	}
}

func TestCodeOfVeryMany(t *testing.T) {
	steps := following(7, 200000, 3)
	b := coded(t, steps)
	if n := len(b); n < 15000 || n > 20000 {
		t.Errorf("%d bytes", n)
	}
	y := opened(t, b)
	for i, s := range steps {
		if bit, e := y.Get(s.c); bit != s.bit || e != api.OK {
			t.Fatalf("bit %d: %d, %v", i, bit, e)
		}
	}
	if e := y.End(); e != api.OK {
		t.Errorf("End: %v", e)
	}
}

func TestTheLikelierTheShorter(t *testing.T) {
	for _, x := range []struct {
		c        coder.Chance
		bit      int
		from, to int // bytes behind 1000 bits
	}{{most, 0, 5, 7}, {least, 1, 5, 7}, {coder.Even, 0, 128, 130}, {coder.Even, 1, 128, 130}, {most, 1, 755, 765}, {least, 0, 755, 765}} {
		if n := len(coded(t, same(x.c, x.bit, 1000))); n < x.from || n > x.to {
			t.Errorf("%d with the chance %d: %d bytes", x.bit, x.c, n)
		}
	}
}

func TestCarryGoesUp(t *testing.T) {
	for count := 5; count < 30; count++ {
		steps := straddle(count)
		last := len(steps) - 1
		x := coder.New()
		for _, s := range steps[:last] {
			x.Put(s.c, s.bit)
		}
		ahead := x.Bytes()
		want := append([]byte{0x7F}, bytes.Repeat([]byte{0xFF}, count-5)...)
		if len(ahead) != count || !bytes.HasPrefix(ahead, want) {
			t.Fatalf("the tests' own bits for %d bytes: %x", count, ahead)
		}
		kept := bytes.Clone(ahead)
		x.Put(steps[last].c, steps[last].bit)
		b := x.Bytes()
		over := append([]byte{0x80}, make([]byte, count-5)...)
		if !bytes.HasPrefix(b, over) || !bytes.Equal(b, told(steps)) {
			t.Errorf("%d bytes: %x became %x, wanted %x", count, ahead, b, told(steps))
		}
		if !bytes.Equal(ahead, kept) {
			t.Errorf("a carry went up in a code that was told before: %x", ahead)
		}
		thereAndBack(t, steps)
	}
}

func TestCodeIsNewMemory(t *testing.T) {
	steps := straddle(9)
	x := coder.New()
	for i, s := range steps {
		b := x.Bytes()
		if cap(b) != len(b) {
			t.Fatalf("behind %d bits: %d bytes, and room for %d", i, len(b), cap(b))
		}
		more := append(b, 0xAA, 0xAA, 0xAA)
		for k := range b {
			b[k], more[k] = 0x55, 0xAA
		}
		if again := x.Bytes(); !bytes.Equal(again, told(steps[:i])) {
			t.Fatalf("behind %d bits, and what was told written into: %x", i, again)
		}
		x.Put(s.c, s.bit)
	}
	if b := x.Bytes(); !bytes.Equal(b, told(steps)) {
		t.Errorf("%x, wanted %x", b, told(steps))
	}
}

func TestPutRefuses(t *testing.T) {
	steps := row(21, 60, 8)
	x := coder.New()
	for i, s := range steps {
		for _, c := range []coder.Chance{0, 1, 30, 2018, 2047, 2048, 4096, math.MaxUint16} {
			for _, bit := range []int{0, 1, 2} {
				if e := x.Put(c, bit); e != api.ErrArg {
					t.Fatalf("Put of %d with %d: %v", bit, c, e)
				}
			}
		}
		for _, bit := range []int{-1, 2, 3, 256, 257, 1 << 32, 1<<32 + 1, math.MaxInt, math.MinInt} {
			for _, c := range []coder.Chance{0, least, coder.Even, most, 2018} {
				if e := x.Put(c, bit); e != api.ErrArg {
					t.Fatalf("Put of %d with %d: %v", bit, c, e)
				}
			}
		}
		if b := x.Bytes(); !bytes.Equal(b, told(steps[:i])) {
			t.Fatalf("refused behind %d bits, and the code is %x", i, b)
		}
		x.Put(s.c, s.bit)
	}
	if b := x.Bytes(); !bytes.Equal(b, told(steps)) {
		t.Errorf("the range has changed: %x, wanted %x", b, told(steps))
	}
}

func TestPutTakesEachChance(t *testing.T) {
	for i := range 1 << 16 {
		want := api.OK
		if i < 31 || i > 2017 {
			want = api.ErrArg
		}
		for bit := range 2 {
			x := coder.New()
			if e := x.Put(coder.Chance(i), bit); e != want {
				t.Fatalf("Put of %d with %d: %v", bit, i, e)
			}
			if y := opened(t, x.Bytes()); want == api.OK {
				if got, e := y.Get(coder.Chance(i)); got != bit || e != api.OK || y.End() != api.OK {
					t.Fatalf("Get with %d: %d, %v, End %v", i, got, e, y.End())
				}
			}
		}
	}
}

// P4.1 (C1): Open.

func TestOpenWantsFourBytes(t *testing.T) {
	for n := range 4 {
		for _, b := range [][]byte{make([]byte, n), bytes.Repeat([]byte{0xFF}, n), make([]byte, n, 9)} {
			if y, e := coder.Open(b); y != nil || e != api.ErrCoder {
				t.Errorf("Open of %x: %v, %v", b, y, e)
			}
		}
	}
	if y, e := coder.Open(nil); y != nil || e != api.ErrCoder {
		t.Errorf("Open of nil: %v, %v", y, e)
	}
	for n := 4; n < 12; n++ {
		opened(t, bytes.Repeat([]byte{0xFF}, n))
	}
}

func TestBytesAreNeitherKeptNorWrittenInto(t *testing.T) {
	steps := row(22, 100, 8)
	b := coded(t, steps)
	all := slices.Concat([]byte{1, 2, 3}, b, []byte{4, 5, 6})
	kept := bytes.Clone(all)
	given := all[3 : 3+len(b)]
	y := opened(t, given)
	if !bytes.Equal(all, kept) {
		t.Errorf("written into: %x, wanted %x", all, kept)
	}
	for i := range all {
		all[i] ^= 0xFF
	}
	for i, s := range steps {
		if bit, e := y.Get(s.c); bit != s.bit || e != api.OK {
			t.Fatalf("kept: bit %d is %d, %v", i, bit, e)
		}
	}
	if e := y.End(); e != api.OK {
		t.Errorf("what lies behind counts: End %v", e)
	}
}

// P4.2 (there and back).

func thereAndBack(t *testing.T, steps []step) {
	t.Helper()
	y := opened(t, coded(t, steps))
	for i, s := range steps {
		if bit, e := y.Get(s.c); bit != s.bit || e != api.OK {
			t.Fatalf("bit %d of %d: %d, %v, wanted %d", i, len(steps), bit, e, s.bit)
		}
	}
	for range 2 {
		if e := y.End(); e != api.OK {
			t.Fatalf("End behind %d bits: %v", len(steps), e)
		}
	}
}

func TestWhatWasPutIsGot(t *testing.T) {
	for _, steps := range rows() {
		thereAndBack(t, steps)
	}
}

func TestAllBitsOfFewChances(t *testing.T) {
	chances := []coder.Chance{least, coder.Even, most}
	for n := range 7 {
		ways := 1
		for range n {
			ways *= 2 * len(chances)
		}
		for way := range ways {
			var steps []step
			for k, left := 0, way; k < n; k, left = k+1, left/6 {
				steps = append(steps, step{chances[left%3], left % 6 / 3})
			}
			if b := coded(t, steps); n < 5 && !bytes.Equal(b, told(steps)) {
				t.Fatalf("the code of %v: %x, wanted %x", steps, b, told(steps))
			}
			thereAndBack(t, steps)
		}
	}
}

// Coders do not look at one another.
func TestCodersBesideOneAnother(t *testing.T) {
	a, b := row(23, 200, 8), row(24, 200, 4)
	x, z := coder.New(), coder.New()
	for i := range a {
		x.Put(a[i].c, a[i].bit)
		z.Put(b[i].c, b[i].bit)
	}
	if !bytes.Equal(x.Bytes(), told(a)) || !bytes.Equal(z.Bytes(), told(b)) {
		t.Fatal("two encoders")
	}
	one, two := opened(t, x.Bytes()), opened(t, x.Bytes())
	for i, s := range a {
		if bit, e := one.Get(s.c); bit != s.bit || e != api.OK {
			t.Fatalf("bit %d of the first: %d, %v", i, bit, e)
		}
	}
	for i, s := range a {
		if bit, e := two.Get(s.c); bit != s.bit || e != api.OK {
			t.Fatalf("bit %d of the second: %d, %v", i, bit, e)
		}
	}
}

// P4.1 (C1): Get and End.

func TestGetRefusesWhatIsNoChance(t *testing.T) {
	steps := row(25, 80, 8)
	y := opened(t, coded(t, steps))
	for i, s := range steps {
		for _, c := range []coder.Chance{0, 1, 30, 2018, 2048, math.MaxUint16} {
			if bit, e := y.Get(c); bit != 0 || e != api.ErrArg {
				t.Fatalf("Get with %d: %d, %v", c, bit, e)
			}
		}
		if bit, e := y.Get(s.c); bit != s.bit || e != api.OK {
			t.Fatalf("refused, and bit %d is %d, %v", i, bit, e)
		}
	}
	if e := y.End(); e != api.OK {
		t.Errorf("End: %v", e)
	}
}

func TestBytesThatEndTooEarly(t *testing.T) {
	for _, steps := range [][]step{row(26, 60, 8), same(coder.Even, 0, 60), same(coder.Even, 1, 60), same(least, 0, 9), same(most, 1, 9), straddle(9)} {
		b := told(steps)
		for n := 4; n < len(b); n++ {
			y := opened(t, b[:n])
			// What all the bytes tell is told by the fewer ones, as long as no more are needed: the code's bytes say when.
			i := 0
			for ; len(told(steps[:i+1])) <= n; i++ {
				if bit, e := y.Get(steps[i].c); bit != steps[i].bit || e != api.OK {
					t.Fatalf("bit %d of %x: %d, %v", i, b[:n], bit, e)
				}
			}
			for range 3 {
				if bit, e := y.Get(steps[i].c); bit != 0 || e != api.ErrCoder {
					t.Fatalf("bit %d of %x: %d, %v", i, b[:n], bit, e)
				}
			}
			// It has not changed: with any chance the answer is that of one that was never refused.
			for _, c := range []coder.Chance{least, 500, coder.Even, 1500, most} {
				fresh := opened(t, b[:n])
				for _, s := range steps[:i] {
					fresh.Get(s.c)
				}
				want, wantErr := fresh.Get(c)
				again := opened(t, b[:n])
				for _, s := range steps[:i] {
					again.Get(s.c)
				}
				again.Get(steps[i].c)
				if end, wantEnd := again.End(), y.End(); end != wantEnd {
					t.Fatalf("End of %x behind a refusal: %v, wanted %v", b[:n], end, wantEnd)
				}
				if bit, e := again.Get(c); bit != want || e != wantErr {
					t.Fatalf("Get with %d of %x behind a refusal: %d, %v, wanted %d, %v", c, b[:n], bit, e, want, wantErr)
				}
			}
		}
	}
}

// A byte that one chance needs another may do without.
func TestRefusedWithOneChanceAndNotWithAnother(t *testing.T) {
	y := opened(t, make([]byte, 4))
	for range 7 {
		if bit, e := y.Get(coder.Even); bit != 0 || e != api.OK {
			t.Fatalf("Get: %d, %v", bit, e)
		}
	}
	for _, c := range []coder.Chance{least, 512, coder.Even} {
		if bit, e := y.Get(c); bit != 0 || e != api.ErrCoder || y.End() != api.OK {
			t.Errorf("Get with %d: %d, %v, End %v", c, bit, e, y.End())
		}
	}
	for range 20 {
		if bit, e := y.Get(most); bit != 0 || e != api.OK || y.End() != api.OK {
			t.Errorf("Get: %d, %v, End %v", bit, e, y.End())
		}
	}
}

func TestBytesWithMoreBehind(t *testing.T) {
	for _, steps := range rows() {
		if len(steps) > 100 {
			continue
		}
		b := told(steps)
		for _, more := range [][]byte{{0}, {1}, {0xFF}, {0, 0, 0}, {0, 0, 0, 0, 7}} {
			y := opened(t, append(bytes.Clone(b), more...))
			for i, s := range steps {
				if bit, e := y.Get(s.c); bit != s.bit || e != api.OK {
					t.Fatalf("bit %d: %d, %v", i, bit, e)
				}
			}
			if e := y.End(); e != api.ErrCoder {
				t.Fatalf("End with %x behind %d bits: %v", more, len(steps), e)
			}
			if e := y.End(); e != api.ErrCoder {
				t.Fatalf("End once more: %v", e)
			}
		}
	}
}

// A rest that is not 0 is no end, though all bytes were needed; nor is that a fault of Get.
func TestRestThatIsLeft(t *testing.T) {
	for _, steps := range rows() {
		b := told(steps)
		if len(steps) > 100 || b[len(b)-1] == 0xFF {
			continue
		}
		b[len(b)-1]++ // the range is never less than 2^24: the bits stay
		y := opened(t, b)
		for i, s := range steps {
			if bit, e := y.Get(s.c); bit != s.bit || e != api.OK {
				t.Fatalf("bit %d: %d, %v", i, bit, e)
			}
		}
		if e := y.End(); e != api.ErrCoder {
			t.Fatalf("End with a rest of 1 behind %d bits: %v", len(steps), e)
		}
	}
}

// End is no end of the decoder: it goes on as though it had not been asked.
func TestEndChangesNothing(t *testing.T) {
	steps := append(same(coder.Even, 0, 7), row(27, 90, 8)...)
	y := opened(t, told(steps))
	for i, s := range steps {
		if e := y.End(); e != api.ErrCoder {
			t.Fatalf("End ahead of bit %d: %v", i, e)
		}
		if bit, e := y.Get(s.c); bit != s.bit || e != api.OK {
			t.Fatalf("bit %d: %d, %v", i, bit, e)
		}
	}
	if e := y.End(); e != api.OK {
		t.Errorf("End: %v", e)
	}
}

func TestRestNotLessThanTheRange(t *testing.T) {
	for n := 4; n < 9; n++ {
		b := bytes.Repeat([]byte{0xFF}, n)
		y := opened(t, b)
		for _, c := range []coder.Chance{least, coder.Even, most, least} {
			if bit, e := y.Get(c); bit != 0 || e != api.ErrCoder {
				t.Errorf("Get with %d of %x: %d, %v", c, b, bit, e)
			}
			if e := y.End(); e != api.ErrCoder {
				t.Errorf("End of %x: %v", b, e)
			}
		}
		if bit, e := y.Get(30); bit != 0 || e != api.ErrArg {
			t.Errorf("no chance, of %x: %d, %v", b, bit, e)
		}
		b[3] = 0xFE // the greatest rest that is less
		y = opened(t, b)
		if bit, e := y.Get(coder.Even); bit != 1 || e != api.OK {
			t.Errorf("Get of %x: %d, %v", b, bit, e)
		}
	}
}

// P4.3 (one code).

// ends gets bits of bytes with chances till one is refused, and holds the bytes, wherever End is OK, against the code of the bits that were got. It tells how often End was OK.
func ends(t *testing.T, b []byte, chance func(i int) coder.Chance) int {
	t.Helper()
	y := opened(t, b)
	m, x := newModel(), coder.New()
	count := 0
	for i := range 400 {
		isCode := m.count == len(b) && bytes.Equal(m.bytes(), b)
		switch e := y.End(); {
		case e == api.OK && !isCode:
			t.Fatalf("End of %x is OK behind %d bits, whose code is %x", b, i, m.bytes())
		case e == api.OK && !bytes.Equal(x.Bytes(), b):
			t.Fatalf("End of %x is OK behind %d bits, which are coded as %x", b, i, x.Bytes())
		case e == api.OK:
			count++
		case e != api.ErrCoder || isCode:
			t.Fatalf("%x behind %d bits, whose code is %x: End %v", b, i, m.bytes(), e)
		}
		c := chance(i)
		bit, e := y.Get(c)
		if e != api.OK {
			if bit != 0 || e != api.ErrCoder {
				t.Fatalf("Get with %d of %x: %d, %v", c, b, bit, e)
			}
			break
		}
		m.put(c, bit)
		x.Put(c, bit)
	}
	return count
}

// chancesOf are ways to choose chances for bytes.
func chancesOf(seed uint64) []func(i int) coder.Chance {
	l := []func(i int) coder.Chance{func(i int) coder.Chance { return anyChance(word(seed, i)) }}
	for _, c := range []coder.Chance{least, coder.Even, most} {
		l = append(l, func(int) coder.Chance { return c })
	}
	return l
}

func TestAnyBytesOfWhichEndIsOKAreTheCode(t *testing.T) {
	count := 0
	for n := 4; n < 12; n++ {
		for i := range 60 {
			b := make([]byte, n)
			for k := range b {
				w := word(uint64(100+n), i*16+k)
				b[k] = byte(w >> 8)
				if i%3 == 0 && w&3 > 0 {
					b[k] = []byte{0, 0, 1, 0xFF}[w>>16&3]
				}
			}
			if i == 0 {
				clear(b)
			}
			for _, chance := range chancesOf(uint64(i)) {
				count += ends(t, b, chance)
			}
		}
	}
	if count < 100 {
		t.Errorf("End was OK no more than %d times", count)
	}
}

func TestCodesTurnedAndCutAreOthers(t *testing.T) {
	count := 0
	for i, steps := range [][]step{row(31, 6, 8), row(32, 12, 8), row(33, 30, 4), row(34, 30, 13), same(coder.Even, 1, 20), same(most, 1, 5), straddle(7)} {
		chances := append(chancesOf(uint64(i)), func(k int) coder.Chance { return steps[k%len(steps)].c })
		b := told(steps)
		var others [][]byte
		for k := range 8 * len(b) {
			c := bytes.Clone(b)
			c[k/8] ^= 1 << (k % 8)
			others = append(others, c)
		}
		for n := 4; n <= len(b); n++ {
			others = append(others, b[:n], append(b[:n:n], 0), append(b[:n:n], 0, 0))
		}
		for _, c := range others {
			for _, chance := range chances {
				count += ends(t, c, chance)
			}
		}
	}
	if count < 50 {
		t.Errorf("End was OK no more than %d times", count)
	}
}

// The codes of one bit 1 are all the bytes of which End is OK behind it; those beside them are none.
func TestFourBytesBehindOneBit(t *testing.T) {
	for c := least; c <= most; c++ {
		code := told([]step{{c, 1}})
		v := uint32(code[0])<<24 | uint32(code[1])<<16 | uint32(code[2])<<8 | uint32(code[3])
		for _, d := range []uint32{0, 1, 2, 255, 1<<32 - 1, 1<<32 - 2, 1<<32 - 256} {
			b := []byte{byte((v + d) >> 24), byte((v + d) >> 16), byte((v + d) >> 8), byte(v + d)}
			y := opened(t, b)
			bit, e := y.Get(c)
			below := d > 1<<31
			if e != api.OK || below != (bit == 0) {
				t.Fatalf("Get with %d of %x: %d, %v", c, b, bit, e)
			}
			if end := y.End(); (end == api.OK) != (d == 0) {
				t.Fatalf("End of %x behind %d with %d: %v", b, bit, c, end)
			}
		}
	}
}

// Rule 8: a nil encoder and a nil decoder.
func TestNil(t *testing.T) {
	var x *coder.Encoder
	for _, c := range []coder.Chance{0, coder.Even, 9999} {
		for _, bit := range []int{0, 1, 2} {
			if e := x.Put(c, bit); e != api.ErrArg {
				t.Errorf("Put of %d with %d: %v", bit, c, e)
			}
		}
	}
	if b := x.Bytes(); len(b) != 0 {
		t.Errorf("Bytes: %x", b)
	}
	var y *coder.Decoder
	for _, c := range []coder.Chance{0, coder.Even, 9999} {
		if bit, e := y.Get(c); bit != 0 || e != api.ErrArg {
			t.Errorf("Get with %d: %d, %v", c, bit, e)
		}
	}
	if e := y.End(); e != api.ErrArg {
		t.Errorf("End: %v", e)
	}
}
