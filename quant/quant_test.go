package quant_test

import (
	"bytes"
	"cmp"
	"math"
	"math/big"
	"slices"
	"testing"

	"kinora/api"
	"kinora/book"
	"kinora/coder"
	"kinora/quant"
)

// The tests hold the package against the chapter's words themselves: steps by multiplications and divisions, levels by numbers as wide as they need to be, blocks by a book that is told number by number.

const (
	most     = 1 << 26 // a block's numbers, without their signs
	maxTopic = 14
)

var sizes = []int{16, 64}

func sideOf(size int) int {
	if size == 16 {
		return 4
	}
	return 8
}

// series is a row of numbers that is the same in every run.
type series uint64

func (s *series) next() uint64 {
	*s += 0x9E3779B97F4A7C15
	x := uint64(*s)
	x = (x ^ x>>30) * 0xBF58476D1CE4E5B9
	x = (x ^ x>>27) * 0x94D049BB133111EB
	return x ^ x>>31
}

// below is a number from 0 on, less than n.
func (s *series) below(n int) int { return int(s.next() % uint64(n)) }

// mixed are so many numbers from -far to far.
func mixed(s *series, n, far int) []int {
	b := make([]int, n)
	for i := range b {
		b[i] = s.below(2*far+1) - far
	}
	return b
}

// alone is a block with one number at a place, and 0 else.
func alone(size, place, v int) []int {
	b := make([]int, size)
	b[place] = v
	return b
}

// order are a block's places by the words of chapter 7.
func order(size int) []int {
	n := sideOf(size)
	l := make([]int, size)
	for i := range l {
		l[i] = i
	}
	slices.SortFunc(l, func(a, b int) int {
		return cmp.Or(cmp.Compare(a%n+a/n, b%n+b/n), cmp.Compare(a/n, b/n))
	})
	return l
}

func wantStep(q, x, y int) int {
	s := 4 + q%4
	for range q / 4 {
		s *= 2
	}
	return s / 4 * (4 + x + y) / 4
}

func wantLevel(v, s int) int {
	if s < 1 {
		return 0
	}
	l := new(big.Int).Abs(big.NewInt(int64(v)))
	l.Add(l, big.NewInt(int64(s)/3))
	l.Quo(l, big.NewInt(int64(s)))
	if v < 0 {
		l.Neg(l)
	}
	return int(l.Int64())
}

func wantEach(b []int, q int, change func(v, s int) int) []int {
	n := sideOf(len(b))
	l := []int{}
	for y := range n {
		for x := range n {
			l = append(l, change(b[n*y+x], wantStep(q, x, y)))
		}
	}
	return l
}

func wantValue(l, s int) int { return l * s }

func isWithin(b []int, far int) bool {
	return slices.Min(b) >= -far && slices.Max(b) <= far
}

// Steps.

func TestStepsAtTheUpperLeft(t *testing.T) {
	want := []int{
		1, 1, 1, 1, 2, 2, 3, 3, 4, 5, 6, 7, 8, 10, 12, 14,
		16, 20, 24, 28, 32, 40, 48, 56, 64, 80, 96, 112, 128, 160, 192, 224,
	}
	for q, w := range want {
		if s, e := quant.Step(q, 0, 0); s != w || e != api.OK {
			t.Errorf("Step(%d, 0, 0): %d, %v, wanted %d", q, s, e, w)
		}
	}
}

func TestStepsByHand(t *testing.T) {
	for _, c := range []struct{ q, x, y, want int }{
		{0, 3, 0, 1}, {0, 0, 3, 1}, {0, 4, 0, 2}, {0, 0, 4, 2}, {3, 7, 0, 2}, {3, 7, 1, 3}, {3, 7, 7, 4},
		{4, 1, 0, 2}, {4, 1, 1, 3}, {6, 0, 1, 3}, {6, 1, 1, 4}, {7, 7, 7, 13}, {9, 0, 3, 8}, {9, 3, 4, 13},
		{13, 2, 1, 17}, {31, 1, 0, 280}, {31, 0, 7, 616}, {31, 7, 7, 1008},
	} {
		if s, e := quant.Step(c.q, c.x, c.y); s != c.want || e != api.OK {
			t.Errorf("Step(%d, %d, %d): %d, %v, wanted %d", c.q, c.x, c.y, s, e, c.want)
		}
	}
}

func TestEachStepAtEachPlace(t *testing.T) {
	for q := range api.MaxQ + 1 {
		for y := range 8 {
			for x := range 8 {
				s, e := quant.Step(q, x, y)
				if s != wantStep(q, x, y) || e != api.OK {
					t.Errorf("Step(%d, %d, %d): %d, %v, wanted %d", q, x, y, s, e, wantStep(q, x, y))
				}
				if q < 4 && x+y < 4 && s != 1 {
					t.Errorf("Step(%d, %d, %d): %d", q, x, y, s)
				}
			}
		}
	}
}

func TestNoQuantiserAndNoPlace(t *testing.T) {
	wide := []int{math.MinInt, math.MinInt + 1, -1 << 32, -64, -8, -4, -1, 1 << 31, 1 << 32, 1<<32 + 3, math.MaxInt - 1, math.MaxInt}
	for _, q := range append(wide, 32, 33, 35, 36, 63, 64, 255, 256) {
		for at := range 8 {
			if s, e := quant.Step(q, at, 7-at); s != 0 || e != api.ErrArg {
				t.Errorf("Step(%d, %d, %d): %d, %v", q, at, 7-at, s, e)
			}
		}
	}
	for _, at := range append(wide, 8, 9, 15, 16, 255, 256) {
		for q := range api.MaxQ + 1 {
			if s, e := quant.Step(q, at, 3); s != 0 || e != api.ErrArg {
				t.Errorf("Step(%d, %d, 3): %d, %v", q, at, s, e)
			}
			if s, e := quant.Step(q, 3, at); s != 0 || e != api.ErrArg {
				t.Errorf("Step(%d, 3, %d): %d, %v", q, at, s, e)
			}
		}
		if s, e := quant.Step(at, at, at); s != 0 || e != api.ErrArg {
			t.Errorf("Step(%d, %d, %d): %d, %v", at, at, at, s, e)
		}
	}
}

// Levels and values.

// steps are those of all quantisers at all places, and others.
func steps() []int {
	var l []int
	for s := 1; s <= 1100; s++ {
		l = append(l, s)
	}
	return append(l, 1<<16, 1<<20+1, most, 1<<31-1, 1<<31, 1<<32, 1<<40+7, 1<<61+1, 1<<62, math.MaxInt/2, math.MaxInt-1, math.MaxInt)
}

// numbers are those around 0, around the bounds, and around each place where a step's levels change.
func numbers(s int) []int {
	l := []int{math.MinInt, math.MinInt + 1, math.MinInt + 2, math.MaxInt - 2, math.MaxInt - 1, math.MaxInt, 1 << 62, -1 << 62}
	for _, v := range []int{0, api.MaxLevel, most, 1 << 32, s, s / 2, s - s/3, 2*s - s/3, 7 * s, 7*s - s/3} {
		for d := -3; d <= 3; d++ {
			l = append(l, v+d, -v-d)
		}
	}
	return l
}

func TestLevelsByHand(t *testing.T) {
	for _, c := range [][3]int{
		{0, 1, 0}, {5, 1, 5}, {-5, 1, -5}, {1, 2, 0}, {2, 2, 1}, {3, 2, 1}, {-3, 2, -1}, {1, 3, 0}, {2, 3, 1}, {4, 3, 1}, {5, 3, 2}, {-4, 3, -1}, {-5, 3, -2},
		{10, 16, 0}, {11, 16, 1}, {-10, 16, 0}, {-11, 16, -1}, {26, 16, 1}, {27, 16, 2}, {671, 1008, 0}, {672, 1008, 1}, {-672, 1008, -1}, {1679, 1008, 1}, {1680, 1008, 2},
	} {
		if l := quant.Level(c[0], c[1]); l != c[2] {
			t.Errorf("Level(%d, %d): %d, wanted %d", c[0], c[1], l, c[2])
		}
	}
}

func TestEachLevelByEachStep(t *testing.T) {
	for _, s := range steps() {
		for _, v := range numbers(s) {
			if l := quant.Level(v, s); l != wantLevel(v, s) {
				t.Errorf("Level(%d, %d): %d, wanted %d", v, s, l, wantLevel(v, s))
			}
		}
	}
}

func TestSmallNumbersLevels(t *testing.T) {
	for s := 1; s <= 40; s++ {
		for v := 0; v <= 300; v++ {
			// The level counts the multiples of the step that the number reaches with a third of the step more.
			want := 0
			for (want+1)*s <= v+s/3 {
				want++
			}
			if l := quant.Level(v, s); l != want {
				t.Errorf("Level(%d, %d): %d, wanted %d", v, s, l, want)
			}
			if l := quant.Level(-v, s); l != -want {
				t.Errorf("Level(%d, %d): %d, wanted %d", -v, s, l, -want)
			}
		}
	}
}

// The number without its sign, and what comes to it, are not cut off.
func TestLevelsOfTheGreatest(t *testing.T) {
	for _, c := range [][3]int{
		{math.MaxInt, 1, math.MaxInt}, {math.MinInt, 1, math.MinInt}, {math.MinInt, 2, -1 << 62}, {math.MaxInt, 2, 1<<62 - 1},
		{math.MaxInt, 3, math.MaxInt / 3}, {math.MaxInt, 4, 1 << 61}, {math.MaxInt, math.MaxInt, 1}, {math.MinInt, math.MaxInt, -1}, {1, math.MaxInt, 0},
		{math.MaxInt, 1 << 62, 2}, {math.MinInt, 1 << 62, -2}, {most, 1, most}, {-most, 1, -most}, {most, 1008, 66576}, {-most, 1008, -66576},
	} {
		if l := quant.Level(c[0], c[1]); l != c[2] {
			t.Errorf("Level(%d, %d): %d, wanted %d", c[0], c[1], l, c[2])
		}
	}
}

func TestStepsBelowOne(t *testing.T) {
	for _, s := range []int{0, -1, -2, -3, -4, -17, -1008, -1 << 32, math.MinInt + 1, math.MinInt} {
		for _, v := range numbers(17) {
			if l := quant.Level(v, s); l != 0 {
				t.Errorf("Level(%d, %d): %d", v, s, l)
			}
			if l := quant.Value(v, s); l != 0 {
				t.Errorf("Value(%d, %d): %d", v, s, l)
			}
		}
	}
}

func TestValues(t *testing.T) {
	for _, c := range [][3]int{
		{0, 1, 0}, {1, 1, 1}, {-1, 1, -1}, {3, 17, 51}, {-3, 17, -51}, {66576, 1008, 67108608}, {5, math.MaxInt, math.MaxInt - 4},
		{math.MaxInt, 1, math.MaxInt}, {math.MinInt, 1, math.MinInt}, {math.MaxInt, 2, -2}, {math.MinInt, 2, 0}, {math.MinInt, 3, math.MinInt},
		{1 << 62, 2, math.MinInt}, {1 << 62, 3, -1 << 62}, {1 << 62, 4, 0}, {-1 << 62, 3, 1 << 62}, {math.MaxInt, math.MaxInt, 1},
	} {
		if v := quant.Value(c[0], c[1]); v != c[2] {
			t.Errorf("Value(%d, %d): %d, wanted %d", c[0], c[1], v, c[2])
		}
	}
	for _, s := range steps() {
		for _, l := range numbers(s) {
			if v := quant.Value(l, s); v != l*s {
				t.Errorf("Value(%d, %d): %d, wanted %d", l, s, v, l*s)
			}
		}
	}
}

// P8.2: how coarse.

func TestHowFarAValueIsFromItsNumber(t *testing.T) {
	for _, s := range steps() {
		further, nearer := 0, 0
		for _, v := range numbers(s) {
			if v > math.MaxInt-s/3 || v < s/3-math.MaxInt {
				continue // what its level stands for may wrap round (U1)
			}
			w := quant.Value(quant.Level(v, s), s)
			if v >= 0 && w < 0 || v <= 0 && w > 0 {
				t.Errorf("%d by %d: %d", v, s, w)
			}
			apart := max(w, -w) - max(v, -v)
			if apart > s/3 || -apart > s-1-s/3 {
				t.Errorf("%d by %d: %d, %d further from 0", v, s, w, apart)
			}
			further, nearer = max(further, apart), max(nearer, -apart)
		}
		if s < most && (further != s/3 || nearer != s-1-s/3) {
			t.Errorf("by %d: at most %d further, and %d nearer", s, further, nearer)
		}
	}
}

// Blocks, coarse and fine.

// blocks are some of a size.
func blocks(s *series, size int) [][]int {
	l := [][]int{make([]int, size), slices.Repeat([]int{most}, size), slices.Repeat([]int{-most}, size)}
	for _, far := range []int{1, 5, 300, 5000, api.MaxLevel, most} {
		l = append(l, mixed(s, size, far), mixed(s, size, far))
	}
	return l
}

func TestBlocksByHand(t *testing.T) {
	b := []int{100, -100, 5, 6, -5, -6, 0, 1 << 26, -1 << 26, 13, 14, -11, -14, 17, 18, -100}
	want := []int{12, -10, 0, 0, 0, 0, 0, 1 << 22, -5592405, 1, 1, 0, -1, 1, 1, -5}
	values := []int{96, -100, 0, 0, 0, 0, 0, 1 << 26, 4 - 1<<26, 14, 16, 0, -14, 16, 18, -100}
	if l, e := quant.Coarse(b, 12); e != api.OK || !slices.Equal(l, want) {
		t.Errorf("Coarse: %v, %v, wanted %v", l, e, want)
	}
	if v, e := quant.Fine(want, 12); e != api.OK || !slices.Equal(v, values) {
		t.Errorf("Fine: %v, %v, wanted %v", v, e, values)
	}
}

func TestBlocksByEachQuantiser(t *testing.T) {
	s := series(1)
	for _, size := range sizes {
		for q := range api.MaxQ + 1 {
			for _, b := range blocks(&s, size) {
				l, e := quant.Coarse(b, q)
				if e != api.OK || !slices.Equal(l, wantEach(b, q, wantLevel)) {
					t.Fatalf("Coarse(%v, %d): %v, %v", b, q, l, e)
				}
				want := wantEach(l, q, wantValue)
				v, e := quant.Fine(l, q)
				if isWithin(want, most) && (e != api.OK || !slices.Equal(v, want)) {
					t.Fatalf("Fine(%v, %d): %v, %v", l, q, v, e)
				}
				if !isWithin(want, most) && (e != api.ErrArg || len(v) != 0) {
					t.Fatalf("Fine(%v, %d), some of which stand for too much: %v, %v", l, q, v, e)
				}
			}
		}
	}
}

// A step is that at the place, not at another one with as many columns and rows.
func TestEachPlaceHasItsStep(t *testing.T) {
	for _, size := range sizes {
		n := sideOf(size)
		for q := range api.MaxQ + 1 {
			for place := range size {
				s := wantStep(q, place%n, place/n)
				if v, e := quant.Fine(alone(size, place, 1), q); e != api.OK || !slices.Equal(v, alone(size, place, s)) {
					t.Fatalf("Fine of 1 at %d of %d by %d: %v, %v", place, size, q, v, e)
				}
				if l, e := quant.Coarse(alone(size, place, s-s/3), q); e != api.OK || !slices.Equal(l, alone(size, place, 1)) {
					t.Fatalf("Coarse of %d at %d of %d by %d: %v, %v", s-s/3, place, size, q, l, e)
				}
				if l, e := quant.Coarse(alone(size, place, s-s/3-1), q); e != api.OK || !slices.Equal(l, make([]int, size)) {
					t.Fatalf("Coarse of %d at %d of %d by %d: %v, %v", s-s/3-1, place, size, q, l, e)
				}
			}
		}
	}
}

// tooFar are numbers past a bound.
func tooFar(far int) []int {
	return []int{far + 1, -far - 1, far + 2, 2 * far, -2 * far, 1 << 32, -1 << 32, 1<<32 + 1, 1 << 62, -1 << 62, 1 << 61, 1 << 60, math.MaxInt, math.MinInt, math.MinInt + 1}
}

func TestNumbersAtTheBounds(t *testing.T) {
	for _, size := range sizes {
		for place := range size {
			for _, v := range []int{most, most - 1, -most, 1 - most} {
				for q := range api.MaxQ + 1 {
					if _, e := quant.Coarse(alone(size, place, v), q); e != api.OK {
						t.Errorf("Coarse of %d at %d of %d by %d: %v", v, place, size, q, e)
					}
				}
			}
			for _, v := range tooFar(most) {
				for _, q := range []int{0, 3, 4, 17, 31} {
					if l, e := quant.Coarse(alone(size, place, v), q); e != api.ErrArg || len(l) != 0 {
						t.Errorf("Coarse of %d at %d of %d by %d: %v, %v", v, place, size, q, l, e)
					}
					if l, e := quant.Fine(alone(size, place, v), q); e != api.ErrArg || len(l) != 0 {
						t.Errorf("Fine of %d at %d of %d by %d: %v, %v", v, place, size, q, l, e)
					}
				}
			}
		}
	}
}

func TestLevelsThatStandForTooMuch(t *testing.T) {
	s := series(3)
	for _, size := range sizes {
		n := sideOf(size)
		for q := range api.MaxQ + 1 {
			for place := range size {
				step := wantStep(q, place%n, place/n)
				for _, sign := range []int{1, -1} {
					b := mixed(&s, size, 1000)
					b[place] = sign * (most / step)
					if v, e := quant.Fine(b, q); e != api.OK || v[place] != b[place]*step {
						t.Errorf("Fine of %d at %d of %d by %d: %v, %v", b[place], place, size, q, v, e)
					}
					b[place] += sign
					if v, e := quant.Fine(b, q); e != api.ErrArg || len(v) != 0 {
						t.Errorf("Fine of %d at %d of %d by %d: %v, %v", b[place], place, size, q, v, e)
					}
				}
			}
		}
	}
}

// wrongLengths are those of no block.
func wrongLengths() []int {
	var l []int
	for n := range 150 {
		if n != 16 && n != 64 {
			l = append(l, n)
		}
	}
	return append(l, 256, 1024, 4096)
}

func TestNoBlockAndNoQuantiserAreRefused(t *testing.T) {
	for _, n := range wrongLengths() {
		for _, q := range []int{0, 12, 31, 32, -1} {
			if l, e := quant.Coarse(make([]int, n), q); e != api.ErrArg || len(l) != 0 {
				t.Errorf("Coarse of %d numbers by %d: %v, %v", n, q, l, e)
			}
			if l, e := quant.Fine(make([]int, n), q); e != api.ErrArg || len(l) != 0 {
				t.Errorf("Fine of %d numbers by %d: %v, %v", n, q, l, e)
			}
		}
	}
	if l, e := quant.Coarse(nil, 0); e != api.ErrArg || len(l) != 0 {
		t.Errorf("Coarse of nil: %v, %v", l, e)
	}
	if l, e := quant.Fine(nil, 0); e != api.ErrArg || len(l) != 0 {
		t.Errorf("Fine of nil: %v, %v", l, e)
	}
	for _, size := range sizes {
		for _, q := range []int{-1, -4, 32, 33, 64, 256, 1 << 32, math.MinInt, math.MaxInt} {
			if l, e := quant.Coarse(make([]int, size), q); e != api.ErrArg || len(l) != 0 {
				t.Errorf("Coarse of %d numbers by %d: %v, %v", size, q, l, e)
			}
			if l, e := quant.Fine(make([]int, size), q); e != api.ErrArg || len(l) != 0 {
				t.Errorf("Fine of %d numbers by %d: %v, %v", size, q, l, e)
			}
		}
	}
}

// Blocks as bytes.

// wantPut puts a block by the words, number by number.
func wantPut(o *book.Book, x *coder.Encoder, topic int, b []int) {
	var sorted []int
	for _, place := range order(len(b)) {
		sorted = append(sorted, b[place])
	}
	for len(sorted) > 0 && sorted[len(sorted)-1] == 0 {
		sorted = sorted[:len(sorted)-1]
	}
	o.Put(x, topic, len(sorted))
	for _, l := range sorted {
		o.PutSigned(x, topic+1, l)
	}
}

// wantGet gets a block by the words, number by number.
func wantGet(o *book.Book, y *coder.Decoder, topic, size int) ([]int, api.Errno) {
	count, e := o.Get(y, topic)
	if e == api.OK && count > size {
		e = api.ErrBook
	}
	if e != api.OK {
		return nil, e
	}
	b := make([]int, size)
	last := 1
	for _, place := range order(size)[:count] {
		if last, e = o.GetSigned(y, topic+1); e != api.OK {
			return nil, e
		}
		b[place] = last
	}
	if last == 0 {
		return nil, api.ErrBook
	}
	return b, api.OK
}

// levels are blocks of a size: of few numbers and of many, small ones and great ones.
func levels(s *series, size int) [][]int {
	l := [][]int{make([]int, size), slices.Repeat([]int{api.MaxLevel}, size), slices.Repeat([]int{-api.MaxLevel}, size)}
	for _, far := range []int{1, 3, 40, 5000, api.MaxLevel} {
		for range 6 {
			b := mixed(s, size, far)
			for _, place := range order(size)[s.below(size+1):] {
				b[place] = 0
			}
			l = append(l, b)
		}
	}
	return l
}

// opened is a decoder of bytes.
func opened(t *testing.T, b []byte) *coder.Decoder {
	t.Helper()
	y, e := coder.Open(b)
	if e != api.OK {
		t.Fatalf("Open of %x: %v", b, e)
	}
	return y
}

func TestBytesByHand(t *testing.T) {
	o, x := book.New(), coder.New()
	b := make([]int, 16)
	b[4], b[1], b[8] = -2, 1, 3 // third, second, sixth
	if e := quant.Put(o, x, 2, b); e != api.OK {
		t.Fatal(e)
	}
	p, w := book.New(), coder.New()
	p.Put(w, 2, 6)
	for _, v := range []int{0, 1, -2, 0, 0, 3} {
		p.PutSigned(w, 3, v)
	}
	if !bytes.Equal(x.Bytes(), w.Bytes()) || !o.Same(p) {
		t.Errorf("%x, wanted %x", x.Bytes(), w.Bytes())
	}
	o, x = book.New(), coder.New()
	quant.Put(o, x, 14, make([]int, 64))
	p, w = book.New(), coder.New()
	p.Put(w, 14, 0)
	if !bytes.Equal(x.Bytes(), w.Bytes()) || !o.Same(p) {
		t.Errorf("all 0: %x, wanted %x", x.Bytes(), w.Bytes())
	}
}

// P8.3: what was put is got, and it is what the words say, at every topic.
func TestBlocksPutAndGotAtEachTopic(t *testing.T) {
	s := series(5)
	for topic := range maxTopic + 1 {
		for _, size := range sizes {
			o, x := book.New(), coder.New()
			p, w := book.New(), coder.New()
			l := levels(&s, size)
			for _, b := range l {
				if e := quant.Put(o, x, topic, b); e != api.OK {
					t.Fatalf("Put at %d, %v: %v", topic, b, e)
				}
				wantPut(p, w, topic, b)
				if !o.Same(p) || !bytes.Equal(x.Bytes(), w.Bytes()) {
					t.Fatalf("Put at %d, %v: other bytes, or chances", topic, b)
				}
			}
			c, y := book.New(), opened(t, x.Bytes())
			for _, b := range l {
				if g, e := quant.Get(c, y, topic, size); e != api.OK || !slices.Equal(g, b) {
					t.Fatalf("Get at %d: %v, %v, wanted %v", topic, g, e, b)
				}
			}
			if !c.Same(o) || y.End() != api.OK {
				t.Errorf("at %d, of %d: other chances behind, or more is left", topic, size)
			}
		}
	}
}

// Blocks of both sizes, of all topics, and other numbers, all by one book.
func TestBlocksBehindOneAnother(t *testing.T) {
	s := series(7)
	type block struct {
		topic int
		b     []int
	}
	var l []block
	for range 20 {
		for _, size := range sizes {
			for _, b := range levels(&s, size) {
				l = append(l, block{s.below(maxTopic + 1), b})
			}
		}
	}
	o, x := book.New(), coder.New()
	p, w := book.New(), coder.New()
	for i, k := range l {
		if e := quant.Put(o, x, k.topic, k.b); e != api.OK || o.PutOne(x, k.topic, 4, i%4) != api.OK {
			t.Fatalf("Put at %d, %v: %v", k.topic, k.b, e)
		}
		wantPut(p, w, k.topic, k.b)
		p.PutOne(w, k.topic, 4, i%4)
	}
	if !o.Same(p) || !bytes.Equal(x.Bytes(), w.Bytes()) {
		t.Error("other bytes, or chances")
	}
	c, y := book.New(), opened(t, x.Bytes())
	for i, k := range l {
		if g, e := quant.Get(c, y, k.topic, len(k.b)); e != api.OK || !slices.Equal(g, k.b) {
			t.Fatalf("Get at %d: %v, %v, wanted %v", k.topic, g, e, k.b)
		}
		if v, e := c.GetOne(y, k.topic, 4); e != api.OK || v != i%4 {
			t.Fatalf("behind block %d: %d, %v", i, v, e)
		}
	}
	if !c.Same(o) || y.End() != api.OK {
		t.Error("other chances behind, or more is left")
	}
}

func TestTheLastNumberAtEachPlace(t *testing.T) {
	s := series(9)
	for _, size := range sizes {
		places := order(size)
		for i, place := range places {
			for _, v := range []int{1, -1, 77, -77, api.MaxLevel, -api.MaxLevel} {
				full := mixed(&s, size, 9)
				for _, behind := range places[i:] {
					full[behind] = 0
				}
				full[place] = v
				for _, b := range [][]int{alone(size, place, v), full} {
					o, x := book.New(), coder.New()
					p, w := book.New(), coder.New()
					e := quant.Put(o, x, 4, b)
					wantPut(p, w, 4, b)
					if e != api.OK || !o.Same(p) || !bytes.Equal(x.Bytes(), w.Bytes()) {
						t.Fatalf("Put %v: %v, other bytes, or chances", b, e)
					}
					c, y := book.New(), opened(t, x.Bytes())
					if n, e := c.Get(y, 4); n != i+1 || e != api.OK {
						t.Fatalf("Put %v: it says that there are %d, %v", b, n, e)
					}
					c, y = book.New(), opened(t, x.Bytes())
					if g, e := quant.Get(c, y, 4, size); e != api.OK || !slices.Equal(g, b) || y.End() != api.OK || !c.Same(o) {
						t.Fatalf("Get: %v, %v, wanted %v", g, e, b)
					}
				}
			}
		}
	}
}

// isRefused tells whether a block is, and neither book nor encoder tell of it.
func isRefused(t *testing.T, topic int, b []int) bool {
	t.Helper()
	o, x := book.New(), coder.New()
	o.Put(x, 2, 100)
	o.PutSigned(x, 3, -5)
	p, was := o.Copy(), x.Bytes()
	if quant.Put(o, x, topic, b) != api.ErrArg || !o.Same(p) || !bytes.Equal(x.Bytes(), was) {
		return false
	}
	w := coder.New()
	p = book.New()
	p.Put(w, 2, 100)
	p.PutSigned(w, 3, -5)
	good := alone(16, 3, 9)
	wantPut(p, w, 2, good)
	return quant.Put(o, x, 2, good) == api.OK && o.Same(p) && bytes.Equal(x.Bytes(), w.Bytes())
}

func TestLevelsAtTheBounds(t *testing.T) {
	for _, size := range sizes {
		for place := range size {
			for _, v := range []int{api.MaxLevel, api.MaxLevel - 1, -api.MaxLevel, 1 - api.MaxLevel} {
				if e := quant.Put(book.New(), coder.New(), 2, alone(size, place, v)); e != api.OK {
					t.Errorf("%d at %d of %d: %v", v, place, size, e)
				}
			}
			for _, v := range append(tooFar(api.MaxLevel), most) {
				if !isRefused(t, 2, alone(size, place, v)) {
					t.Errorf("%d at %d of %d: not refused, or not without a trace", v, place, size)
				}
				b := slices.Repeat([]int{1}, size)
				b[place] = v
				if !isRefused(t, 2, b) {
					t.Errorf("%d at %d of %d, and 1 else: not refused, or not without a trace", v, place, size)
				}
			}
		}
	}
}

func TestPutOfNoBlockIsRefused(t *testing.T) {
	for _, n := range wrongLengths() {
		for _, v := range []int{0, 1} {
			if !isRefused(t, 2, slices.Repeat([]int{v}, n)) {
				t.Errorf("%d numbers %d: not refused, or not without a trace", n, v)
			}
		}
	}
	if !isRefused(t, 2, nil) {
		t.Error("nil: not refused, or not without a trace")
	}
}

// noTopics are those that a block may not have: the last one has none behind it.
func noTopics() []int {
	return []int{-1, -2, -15, -16, 15, 16, 17, 18, 255, 256, 1 << 32, 1<<32 + 2, -1 << 32, math.MaxInt, math.MinInt}
}

func TestPutAtNoTopicIsRefused(t *testing.T) {
	for _, topic := range noTopics() {
		for _, size := range sizes {
			for _, b := range [][]int{make([]int, size), alone(size, 0, 1), slices.Repeat([]int{5}, size)} {
				if !isRefused(t, topic, b) {
					t.Errorf("topic %d, %d numbers: not refused, or not without a trace", topic, size)
				}
			}
		}
	}
}

func TestNilBooksEncodersAndDecoders(t *testing.T) {
	for _, size := range sizes {
		for _, b := range [][]int{make([]int, size), alone(size, size-1, 3), alone(size, 0, most), nil} {
			for _, topic := range []int{0, 14, 15, -1} {
				o, x := book.New(), coder.New()
				if quant.Put(nil, x, topic, b) != api.ErrArg || quant.Put(o, nil, topic, b) != api.ErrArg || quant.Put(nil, nil, topic, b) != api.ErrArg {
					t.Errorf("Put of %d numbers at %d: not refused", len(b), topic)
				}
				if !o.Same(book.New()) || !bytes.Equal(x.Bytes(), coder.New().Bytes()) {
					t.Errorf("Put of %d numbers at %d: something has changed", len(b), topic)
				}
			}
		}
		x := coder.New()
		quant.Put(book.New(), x, 14, alone(size, 5, -6))
		o, y := book.New(), opened(t, x.Bytes())
		for _, topic := range []int{0, 14, 15, -1} {
			for _, c := range []struct {
				o *book.Book
				y *coder.Decoder
			}{{nil, y}, {o, nil}, {nil, nil}} {
				if b, e := quant.Get(c.o, c.y, topic, size); e != api.ErrArg || len(b) != 0 {
					t.Errorf("Get of %d numbers at %d: %v, %v", size, topic, b, e)
				}
			}
		}
		if b, e := quant.Get(o, y, 14, size); e != api.OK || !slices.Equal(b, alone(size, 5, -6)) || y.End() != api.OK {
			t.Errorf("Get behind what was refused: %v, %v", b, e)
		}
	}
}

func TestGetOfNoSizeOrTopicIsRefused(t *testing.T) {
	x := coder.New()
	w := book.New()
	quant.Put(w, x, 2, alone(16, 5, -6))
	o, y := book.New(), opened(t, x.Bytes())
	for _, n := range append(wrongLengths(), -1, -16, -64, 4, 8, 1<<32, 1<<32+16, 1<<32+64, math.MaxInt, math.MinInt, math.MinInt+16, math.MinInt+64) {
		if b, e := quant.Get(o, y, 2, n); e != api.ErrArg || len(b) != 0 {
			t.Errorf("Get of %d numbers: %v, %v", n, b, e)
		}
		if b, e := quant.Get(nil, nil, 15, n); e != api.ErrArg || len(b) != 0 {
			t.Errorf("Get of %d numbers, of nothing: %v, %v", n, b, e)
		}
	}
	for _, topic := range noTopics() {
		for _, n := range sizes {
			if b, e := quant.Get(o, y, topic, n); e != api.ErrArg || len(b) != 0 {
				t.Errorf("Get at %d: %v, %v", topic, b, e)
			}
		}
	}
	if b, e := quant.Get(o, y, 2, 16); e != api.OK || !slices.Equal(b, alone(16, 5, -6)) || y.End() != api.OK || !o.Same(w) {
		t.Errorf("Get behind what was refused: %v, %v", b, e)
	}
}

// Bytes of which no block is got.

func TestMoreNumbersThanABlockHas(t *testing.T) {
	for _, size := range sizes {
		for _, count := range []int{size + 1, size + 2, 2 * size, 63, 65, 80, 128, 255, 256, 1000, api.MaxLevel - 1, api.MaxLevel} {
			if count <= size {
				continue
			}
			for _, behind := range []int{0, 1, min(count, 300)} {
				o, x := book.New(), coder.New()
				o.Put(x, 6, count)
				for range behind {
					o.PutSigned(x, 7, 1)
				}
				if b, e := quant.Get(book.New(), opened(t, x.Bytes()), 6, size); e != api.ErrBook || len(b) != 0 {
					t.Errorf("%d for %d, %d of them there: %v, %v", count, size, behind, b, e)
				}
			}
		}
	}
}

func TestTheLastNumberMayNotBe0(t *testing.T) {
	for _, size := range sizes {
		for count := 1; count <= size; count++ {
			for _, ahead := range []int{0, 1, -3} {
				o, x := book.New(), coder.New()
				o.Put(x, 2, count)
				for range count - 1 {
					o.PutSigned(x, 3, ahead)
				}
				o.PutSigned(x, 3, 0)
				if b, e := quant.Get(book.New(), opened(t, x.Bytes()), 2, size); e != api.ErrBook || len(b) != 0 {
					t.Errorf("%d times %d, and 0: %v, %v", count-1, ahead, b, e)
				}
			}
			// Others may be 0.
			o, x := book.New(), coder.New()
			o.Put(x, 2, count)
			for range count - 1 {
				o.PutSigned(x, 3, 0)
			}
			o.PutSigned(x, 3, 8)
			if b, e := quant.Get(book.New(), opened(t, x.Bytes()), 2, size); e != api.OK || !slices.Equal(b, alone(size, order(size)[count-1], 8)) {
				t.Errorf("%d times 0, and 8: %v, %v", count-1, b, e)
			}
		}
	}
}

// putTooGreat puts a number above MaxLevel, with the chances of a topic of which nothing was put: all even.
func putTooGreat(x *coder.Encoder, above int) {
	for range 20 {
		x.Put(coder.Even, 1)
	}
	for i := range 20 {
		x.Put(coder.Even, (1+above)>>(19-i)&1)
	}
}

func TestNumbersAboveTheGreatest(t *testing.T) {
	for _, size := range sizes {
		for _, above := range []int{1, 2, 1000, 1<<20 - 2} {
			x := coder.New()
			putTooGreat(x, above)
			if b, e := quant.Get(book.New(), opened(t, x.Bytes()), 8, size); e != api.ErrBook || len(b) != 0 {
				t.Errorf("too many by %d: %v, %v", above, b, e)
			}
			for _, count := range []int{1, 2, size} {
				x = coder.New()
				book.New().Put(x, 8, count)
				putTooGreat(x, above)
				for range 60 {
					x.Put(coder.Even, 1)
				}
				if b, e := quant.Get(book.New(), opened(t, x.Bytes()), 8, size); e != api.ErrBook || len(b) != 0 {
					t.Errorf("the first of %d too great by %d: %v, %v", count, above, b, e)
				}
			}
		}
	}
}

func TestBytesThatEndWithinABlock(t *testing.T) {
	s := series(11)
	for _, size := range sizes {
		for range 20 {
			b := mixed(&s, size, api.MaxLevel)
			b[size-1] = api.MaxLevel
			x := coder.New()
			quant.Put(book.New(), x, 0, b)
			code := x.Bytes()
			for n := 4; n < len(code); n++ {
				if g, e := quant.Get(book.New(), opened(t, code[:n]), 0, size); e != api.ErrCoder || len(g) != 0 {
					t.Fatalf("%d of %d bytes: %v, %v", n, len(code), g, e)
				}
			}
		}
		if g, e := quant.Get(book.New(), opened(t, []byte{255, 255, 255, 255, 1, 2, 3}), 0, size); e != api.ErrCoder || len(g) != 0 {
			t.Errorf("no code: %v, %v", g, e)
		}
	}
}

// Of any bytes what the words say is got: blocks, one behind the other, till there is an error.
func TestGetOfAnyBytes(t *testing.T) {
	s := series(13)
	told := map[api.Errno]int{}
	for i := range 20000 {
		code := make([]byte, 4+s.below(60))
		for k := range code {
			code[k] = byte(s.next())
		}
		size, topic := sizes[i%2], s.below(maxTopic+1)
		o, y := book.New(), opened(t, code)
		p, z := book.New(), opened(t, code)
		for {
			b, e := quant.Get(o, y, topic, size)
			want, f := wantGet(p, z, topic, size)
			if e != f || !slices.Equal(b, want) {
				t.Fatalf("Get at %d, of %x: %v, %v, wanted %v, %v", topic, code, b, e, want, f)
			}
			told[e]++
			if e != api.OK {
				break
			}
			if !o.Same(p) || y.End() != z.End() {
				t.Fatalf("Get at %d, of %x: other chances behind", topic, code)
			}
		}
	}
	for _, e := range []api.Errno{api.OK, api.ErrCoder, api.ErrBook} {
		if told[e] < 1000 {
			t.Errorf("%v came but %d times", e, told[e])
		}
	}
}

// What is handed in, and what is answered.

func calls() map[string]func(b []int) []int {
	return map[string]func(b []int) []int{
		"Coarse": func(b []int) []int { l, _ := quant.Coarse(b, 13); return l },
		"Fine":   func(b []int) []int { l, _ := quant.Fine(b, 13); return l },
		"Put": func(b []int) []int {
			x := coder.New()
			quant.Put(book.New(), x, 2, b)
			var l []int
			for _, v := range x.Bytes() {
				l = append(l, int(v))
			}
			return l
		},
	}
}

func TestTheBlockHandedInIsAsItWas(t *testing.T) {
	s := series(17)
	for name, call := range calls() {
		for _, n := range []int{16, 64, 0, 15, 17, 63, 65} {
			memory := mixed(&s, n+80, 1000)
			was := slices.Clone(memory)
			call(memory[:n])
			if !slices.Equal(memory, was) {
				t.Errorf("%s of %d numbers: written into", name, n)
			}
		}
		for _, n := range sizes {
			memory := mixed(&s, n+80, 1000)
			memory[n-1] = most + 1
			was := slices.Clone(memory)
			call(memory[:n])
			if !slices.Equal(memory, was) {
				t.Errorf("%s of %d numbers, one too great: written into", name, n)
			}
		}
	}
}

// A block goes by its length, whatever lies behind it.
func TestBlocksGoByLengthAlone(t *testing.T) {
	for _, n := range sizes {
		memory := make([]int, 100)
		for i := range memory {
			memory[i] = math.MaxInt
		}
		clear(memory[:n])
		for name, call := range calls() {
			if l := call(memory[:n]); !slices.Equal(l, call(make([]int, n))) {
				t.Errorf("%s of %d numbers: %v", name, n, l)
			}
		}
		if e := quant.Put(book.New(), coder.New(), 2, memory[:n]); e != api.OK {
			t.Errorf("Put of %d numbers: %v", n, e)
		}
	}
}

func TestAnswersAreNewMemory(t *testing.T) {
	s := series(19)
	for name, call := range calls() {
		for _, n := range sizes {
			memory := mixed(&s, n+80, 1000)
			was := slices.Clone(memory)
			x := call(memory[:n])
			wanted := slices.Clone(x)
			clear(x[:cap(x)])
			if !slices.Equal(memory, was) {
				t.Errorf("%s of %d numbers shares their memory", name, n)
			}
			if y := call(memory[:n]); !slices.Equal(y, wanted) {
				t.Errorf("%s of %d numbers keeps what it answered", name, n)
			}
			clear(memory)
			if y := call(was[:n]); !slices.Equal(y, wanted) {
				t.Errorf("%s of %d numbers keeps what it was handed", name, n)
			}
		}
	}
}

func TestBlocksGotAreNewMemory(t *testing.T) {
	for _, n := range sizes {
		first, second := alone(n, 3, 5), alone(n, 6, -9)
		o, x := book.New(), coder.New()
		quant.Put(o, x, 2, first)
		quant.Put(o, x, 2, second)
		c, y := book.New(), opened(t, x.Bytes())
		a, _ := quant.Get(c, y, 2, n)
		if !slices.Equal(a, first) {
			t.Errorf("first: %v", a)
		}
		for i := range a[:cap(a)] {
			a[:cap(a)][i] = 3
		}
		if b, _ := quant.Get(c, y, 2, n); !slices.Equal(b, second) {
			t.Errorf("second: %v", b)
		}
	}
}

// What a call answers hangs on nothing that was ahead of it.
func TestAnswersHangOnTheBlockAlone(t *testing.T) {
	s := series(23)
	for name, call := range calls() {
		small, great := mixed(&s, 16, 1000), mixed(&s, 64, 1000)
		first, second := call(small), call(great)
		call(slices.Repeat([]int{most}, 64))
		call(make([]int, 15))
		call(slices.Repeat([]int{math.MinInt}, 16))
		if !slices.Equal(call(small), first) || !slices.Equal(call(great), second) {
			t.Errorf("%s answers otherwise later", name)
		}
	}
}
