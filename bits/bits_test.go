package bits_test

import (
	"bytes"
	"math"
	"strconv"
	"strings"
	"testing"

	"kinora/api"
	"kinora/bits"
)

// figures are the lowest n bits of v as text, the highest one first: the tests hold the package against texts, which know nothing of bytes and shifts.
func figures(v uint64, n int) string {
	s := strconv.FormatUint(v, 2)
	return (strings.Repeat("0", 64) + s)[64+len(s)-n:]
}

// filled are the bytes of a text of bits, filled up with 0.
func filled(s string) []byte {
	s += strings.Repeat("0", (8-len(s)%8)%8)
	b := []byte{}
	for ; s != ""; s = s[8:] {
		v, _ := strconv.ParseUint(s[:8], 2, 8)
		b = append(b, byte(v))
	}
	return b
}

// spelt is the text of the bits of bytes.
func spelt(b []byte) string {
	s := strings.Builder{}
	for _, x := range b {
		s.WriteString(figures(uint64(x), 8))
	}
	return s.String()
}

// row is a row of numbers that is the same in every run.
type row uint64

func (r *row) next() uint64 {
	*r += 0x9E3779B97F4A7C15
	x := uint64(*r)
	x = (x ^ x>>30) * 0xBF58476D1CE4E5B9
	x = (x ^ x>>27) * 0x94D049BB133111EB
	return x ^ x>>31
}

func (r *row) below(n int) int { return int(r.next() % uint64(n)) }

// number is one of n bits at most.
func (r *row) number(n int) uint64 {
	if n == 0 {
		return 0
	}
	return r.next() >> (64 - n)
}

func widest(n int) uint64 {
	if n == 0 {
		return 0
	}
	return math.MaxUint64 >> (64 - n)
}

func put(t *testing.T, w *bits.Writer, v uint64, n int) {
	t.Helper()
	if e := w.Put(v, n); e != api.OK {
		t.Fatalf("Put(%d, %d): %v", v, n, e)
	}
}

// has tells whether a writer has just these bits.
func has(t *testing.T, w *bits.Writer, want string) {
	t.Helper()
	if w.Len() != len(want) || !bytes.Equal(w.Bytes(), filled(want)) {
		t.Fatalf("%d bits, %s, wanted %d, %s", w.Len(), spelt(w.Bytes()), len(want), want)
	}
}

// isAt tells whether a reader is at a bit of these bytes, and what it answers there.
func isAt(t *testing.T, r *bits.Reader, b []byte, at int) {
	t.Helper()
	if r.At() != at || r.Left() != 8*len(b)-at {
		t.Fatalf("at %d, left %d, wanted %d, %d", r.At(), r.Left(), at, 8*len(b)-at)
	}
	if rest := r.Rest(); !bytes.Equal(rest, b[(at+7)/8:]) {
		t.Fatalf("at %d: the rest is %x, wanted %x", at, rest, b[(at+7)/8:])
	}
}

func get(t *testing.T, r *bits.Reader, n int, want uint64) {
	t.Helper()
	if v, e := r.Get(n); v != want || e != api.OK {
		t.Fatalf("Get(%d): %d, %v, wanted %d", n, v, e, want)
	}
}

// reader is one of bytes, at a bit.
func reader(t *testing.T, b []byte, at int) *bits.Reader {
	t.Helper()
	r := bits.Open(b)
	for k := at; k > 0; k-- {
		if _, e := r.Get(1); e != api.OK {
			t.Fatalf("Get(1) at %d: %v", r.At(), e)
		}
	}
	return r
}

var wrongWidths = []int{-1, -2, -8, -64, -1 << 32, math.MinInt, 65, 66, 72, 128, 256, 1 << 32, 1<<32 + 1, math.MaxInt - 1, math.MaxInt}

// P1.1, B1.

func TestNewWriterHasNothing(t *testing.T) {
	has(t, bits.New(), "")
	has(t, &bits.Writer{}, "")
}

func TestPutHighestBitFirst(t *testing.T) {
	w := bits.New()
	put(t, w, 6, 4)
	has(t, w, "0110")
	put(t, w, 1, 1)
	has(t, w, "01101")
	put(t, w, 2, 5)
	has(t, w, "0110100010")
	put(t, w, 0x1234, 16)
	has(t, w, "01101000100001001000110100")
}

// Each width at each place of a byte: with the bits 1 alone, the lowest one, the highest one, and 0, and something ahead and behind.
func TestPutEachWidthAtEachPlace(t *testing.T) {
	for ahead := 0; ahead < 8; ahead++ {
		for n := 0; n <= 64; n++ {
			for _, v := range []uint64{widest(n), widest(n) & 1, widest(n) &^ (widest(n) >> 1), 0, widest(n) & 0x123456789ABCDEF5} {
				for _, around := range []uint64{0, 1<<ahead - 1} {
					w := bits.New()
					put(t, w, around, ahead)
					put(t, w, v, n)
					has(t, w, figures(around, ahead)+figures(v, n))
					put(t, w, 5, 3)
					has(t, w, figures(around, ahead)+figures(v, n)+"101")
				}
			}
		}
	}
}

func TestPutNoBits(t *testing.T) {
	w := bits.New()
	put(t, w, 0, 0)
	has(t, w, "")
	put(t, w, 1, 1)
	put(t, w, 0, 0)
	has(t, w, "1")
	if e := w.Put(1, 0); e != api.ErrArg {
		t.Errorf("Put(1, 0): %v", e)
	}
	has(t, w, "1")
	put(t, w, 127, 7)
	put(t, w, 0, 0)
	has(t, w, "11111111")
}

func TestPutWrongWidth(t *testing.T) {
	for _, s := range []string{"", "1", "1011011", "10110111", "101101110"} {
		for _, n := range wrongWidths {
			for _, v := range []uint64{0, 1, math.MaxUint64} {
				w := bits.New()
				for _, b := range s {
					put(t, w, uint64(b-'0'), 1)
				}
				if e := w.Put(v, n); e != api.ErrArg {
					t.Fatalf("Put(%d, %d): %v", v, n, e)
				}
				has(t, w, s)
			}
		}
	}
}

func TestPutNumberTooWide(t *testing.T) {
	for ahead := 0; ahead < 8; ahead++ {
		for n := 0; n < 64; n++ {
			for _, v := range []uint64{widest(n) + 1, widest(n) + 2, math.MaxUint64, 1 << 63} {
				w := bits.New()
				put(t, w, 0, ahead)
				if e := w.Put(v, n); e != api.ErrArg {
					t.Fatalf("Put(%d, %d): %v", v, n, e)
				}
				has(t, w, figures(0, ahead))
				put(t, w, widest(n), n)
				has(t, w, figures(0, ahead)+figures(widest(n), n))
			}
		}
	}
}

func TestAlignWriter(t *testing.T) {
	for n := 0; n <= 64; n++ {
		w := bits.New()
		put(t, w, widest(n), n)
		want := figures(widest(n), n) + strings.Repeat("0", (8-n%8)%8)
		for i := 0; i < 3; i++ {
			if e := w.Align(); e != api.OK {
				t.Fatalf("Align: %v", e)
			}
			has(t, w, want)
		}
		put(t, w, 5, 3)
		has(t, w, want+"101")
		if e := w.Align(); e != api.OK {
			t.Fatalf("Align: %v", e)
		}
		has(t, w, want+"10100000")
	}
}

// What Bytes fills up is no part of what the writer has.
func TestBytesFillsUpAnAnswerAlone(t *testing.T) {
	w := bits.New()
	s := ""
	for n := 1; n <= 20; n++ {
		put(t, w, 1, 1)
		s += "1"
		has(t, w, s)
		has(t, w, s)
	}
}

func TestBytesAreNewMemory(t *testing.T) {
	w := bits.New()
	put(t, w, 0xABCDE, 20)
	first, second := w.Bytes(), w.Bytes()
	for i := range first {
		first[i] = 0x55
	}
	_ = append(first[:1], 0x66, 0x77)
	if !bytes.Equal(second, []byte{0xAB, 0xCD, 0xE0}) {
		t.Errorf("two answers share memory: %x", second)
	}
	has(t, w, figures(0xABCDE, 20))
	third := w.Bytes()
	_ = append(third, 0xFF, 0xFF)
	put(t, w, 0xF0123, 20)
	if !bytes.Equal(third, []byte{0xAB, 0xCD, 0xE0}) {
		t.Errorf("an answer changed: %x", third)
	}
	has(t, w, figures(0xABCDE, 20)+figures(0xF0123, 20))
	fourth := w.Bytes()
	put(t, w, 0x78, 8)
	_ = append(fourth, 0x99)
	has(t, w, figures(0xABCDE, 20)+figures(0xF0123, 20)+"01111000")
}

func TestWritersAreAlone(t *testing.T) {
	a, b := bits.New(), bits.New()
	put(t, a, 5, 3)
	has(t, b, "")
	put(t, b, 2, 4)
	has(t, a, "101")
	has(t, b, "0010")
}

func TestNilWriter(t *testing.T) {
	var w *bits.Writer
	for _, n := range append([]int{0, 1, 64}, wrongWidths...) {
		if e := w.Put(0, n); e != api.ErrArg {
			t.Errorf("Put(0, %d): %v", n, e)
		}
		if e := w.Put(math.MaxUint64, n); e != api.ErrArg {
			t.Errorf("Put(.., %d): %v", n, e)
		}
	}
	if e := w.Align(); e != api.ErrArg {
		t.Errorf("Align: %v", e)
	}
	if w.Len() != 0 || len(w.Bytes()) != 0 {
		t.Errorf("%d bits, %x", w.Len(), w.Bytes())
	}
}

// P1.1, B2.

func TestOpenIsAtTheFirstBit(t *testing.T) {
	for _, b := range [][]byte{nil, {}, {0}, {255}, {1, 2, 3}} {
		isAt(t, bits.Open(b), b, 0)
	}
	isAt(t, &bits.Reader{}, nil, 0)
}

func TestOpenKeepsNothing(t *testing.T) {
	b := []byte{0x12, 0x34, 0x56}
	r := bits.Open(b)
	clear(b)
	isAt(t, r, []byte{0x12, 0x34, 0x56}, 0)
	get(t, r, 12, 0x123)
	isAt(t, r, []byte{0x12, 0x34, 0x56}, 12)
	if !bytes.Equal(b, make([]byte, 3)) {
		t.Errorf("the argument was written into: %x", b)
	}
}

// What lies behind a list's length is not the reader's.
func TestOpenLooksAtNothingBehind(t *testing.T) {
	b := []byte{0x12, 0x34, 0x56, 0x78}
	r := bits.Open(b[:2])
	isAt(t, r, []byte{0x12, 0x34}, 0)
	if v, e := r.Get(17); v != 0 || e != api.ErrBits {
		t.Errorf("Get(17): %d, %v", v, e)
	}
	_ = append(r.Rest(), 0xFF, 0xFF)
	get(t, r, 16, 0x1234)
	if !bytes.Equal(b, []byte{0x12, 0x34, 0x56, 0x78}) {
		t.Errorf("written behind: %x", b)
	}
}

func TestGetEachWidthAtEachPlace(t *testing.T) {
	b := []byte{0x9E, 0x37, 0x79, 0xB9, 0x7F, 0x4A, 0x7C, 0x15, 0xF3, 0x01}
	for at := 0; at <= 80; at++ {
		for n := 0; n <= 64; n++ {
			r := reader(t, b, at)
			if at+n > 80 {
				if v, e := r.Get(n); v != 0 || e != api.ErrBits {
					t.Fatalf("Get(%d) at %d: %d, %v", n, at, v, e)
				}
				isAt(t, r, b, at)
				continue
			}
			want, _ := strconv.ParseUint("0"+spelt(b)[at:at+n], 2, 64)
			get(t, r, n, want)
			isAt(t, r, b, at+n)
		}
	}
}

func TestGetAllOnes(t *testing.T) {
	b := bytes.Repeat([]byte{255}, 9)
	for at := 0; at < 8; at++ {
		for n := 0; n <= 64; n++ {
			get(t, reader(t, b, at), n, widest(n))
		}
	}
}

func TestGetWrongWidth(t *testing.T) {
	for _, b := range [][]byte{nil, {0xA5}, bytes.Repeat([]byte{0xA5}, 40)} {
		for at := 0; at <= 8*len(b) && at <= 9; at++ {
			r := reader(t, b, at)
			for _, n := range wrongWidths {
				if v, e := r.Get(n); v != 0 || e != api.ErrArg {
					t.Fatalf("Get(%d) at %d: %d, %v", n, at, v, e)
				}
				isAt(t, r, b, at)
			}
		}
	}
}

// With fewer bits than asked nothing has changed: what is there is got yet.
func TestGetTooManyChangesNothing(t *testing.T) {
	b := []byte{0xC3, 0x5A}
	for at := 0; at <= 16; at++ {
		r := reader(t, b, at)
		for n := 17 - at; n <= 64; n++ {
			if v, e := r.Get(n); v != 0 || e != api.ErrBits {
				t.Fatalf("Get(%d) at %d: %d, %v", n, at, v, e)
			}
			isAt(t, r, b, at)
		}
		want, _ := strconv.ParseUint("0"+spelt(b)[at:], 2, 64)
		get(t, r, 16-at, want)
		isAt(t, r, b, 16)
	}
}

func TestGetNoBits(t *testing.T) {
	r := bits.Open(nil)
	get(t, r, 0, 0)
	isAt(t, r, nil, 0)
	r = bits.Open([]byte{255})
	get(t, r, 0, 0)
	isAt(t, r, []byte{255}, 0)
	get(t, r, 8, 255)
	get(t, r, 0, 0)
	isAt(t, r, []byte{255}, 8)
}

func TestAlignReader(t *testing.T) {
	for at := 0; at <= 24; at++ {
		whole := (at + 7) / 8 * 8
		// Only the bits that are passed over are 0.
		s := strings.Repeat("1", at) + strings.Repeat("0", whole-at) + strings.Repeat("1", 24-whole)
		b := filled(s)
		r := reader(t, b, at)
		for i := 0; i < 3; i++ {
			if e := r.Align(); e != api.OK {
				t.Fatalf("Align at %d: %v", at, e)
			}
			isAt(t, r, b, whole)
		}
	}
}

func TestAlignReaderOverAOne(t *testing.T) {
	for at := 0; at < 24; at++ {
		for one := at; one < (at+7)/8*8; one++ {
			b := make([]byte, 3)
			b[one/8] = 0x80 >> (one % 8)
			r := reader(t, b, at)
			for i := 0; i < 2; i++ {
				if e := r.Align(); e != api.ErrBits {
					t.Fatalf("Align at %d over a 1 at %d: %v", at, one, e)
				}
				isAt(t, r, b, at)
			}
			get(t, r, one-at+1, 1)
		}
	}
}

func TestAlignReaderWhereItIs(t *testing.T) {
	b := []byte{255, 255}
	for _, at := range []int{0, 8, 16} {
		r := reader(t, b, at)
		if e := r.Align(); e != api.OK {
			t.Errorf("Align at %d: %v", at, e)
		}
		isAt(t, r, b, at)
	}
	r := bits.Open(nil)
	if e := r.Align(); e != api.OK {
		t.Errorf("Align of none: %v", e)
	}
	isAt(t, r, nil, 0)
}

// Rest looks behind the bits to the next whole byte, whatever they are, and goes nowhere.
func TestRest(t *testing.T) {
	b := []byte{255, 1, 2}
	for at := 0; at <= 24; at++ {
		r := reader(t, b, at)
		isAt(t, r, b, at)
		isAt(t, r, b, at)
	}
}

func TestRestIsNewMemory(t *testing.T) {
	b := []byte{0x12, 0x34, 0x56, 0x78}
	r := reader(t, b, 8)
	first, second := r.Rest(), r.Rest()
	clear(first)
	_ = append(first[:0], 0x99)
	if !bytes.Equal(second, []byte{0x34, 0x56, 0x78}) {
		t.Errorf("two answers share memory: %x", second)
	}
	if !bytes.Equal(b, []byte{0x12, 0x34, 0x56, 0x78}) {
		t.Errorf("an answer and the argument share memory: %x", b)
	}
	isAt(t, r, b, 8)
	get(t, r, 24, 0x345678)
	if !bytes.Equal(second, []byte{0x34, 0x56, 0x78}) {
		t.Errorf("an answer changed: %x", second)
	}
}

func TestReadersAreAlone(t *testing.T) {
	b := []byte{0x12, 0x34}
	p, q := bits.Open(b), bits.Open(b)
	get(t, p, 5, 2)
	isAt(t, q, b, 0)
	get(t, q, 9, 0x24)
	isAt(t, p, b, 5)
}

func TestACopyOfAReaderIsAlone(t *testing.T) {
	b := []byte{0x12, 0x34}
	p := reader(t, b, 5)
	q := *p
	get(t, &q, 9, 0x8D)
	isAt(t, p, b, 5)
	get(t, p, 3, 2)
	isAt(t, &q, b, 14)
}

func TestNilReader(t *testing.T) {
	var r *bits.Reader
	for _, n := range append([]int{0, 1, 64}, wrongWidths...) {
		if v, e := r.Get(n); v != 0 || e != api.ErrArg {
			t.Errorf("Get(%d): %d, %v", n, v, e)
		}
	}
	if e := r.Align(); e != api.ErrArg {
		t.Errorf("Align: %v", e)
	}
	if r.At() != 0 || r.Left() != 0 || len(r.Rest()) != 0 {
		t.Errorf("at %d, left %d, rest %x", r.At(), r.Left(), r.Rest())
	}
}

// P1.2.

func TestThereAndBackOneNumber(t *testing.T) {
	for ahead := 0; ahead < 8; ahead++ {
		for n := 0; n <= 64; n++ {
			for _, v := range []uint64{0, widest(n), widest(n) >> 1, widest(n) & 0xFEDCBA9876543211} {
				w := bits.New()
				put(t, w, 0, ahead)
				put(t, w, v, n)
				put(t, w, 1, 1)
				r := bits.Open(w.Bytes())
				get(t, r, ahead, 0)
				get(t, r, n, v)
				get(t, r, 1, 1)
				if e := r.Align(); e != api.OK || r.Left() != 0 {
					t.Fatalf("Align: %v, left %d", e, r.Left())
				}
			}
		}
	}
}

// Long rows of numbers of all widths, some aligned behind, some with wrong calls between: they are got by the same widths.
func TestThereAndBackRows(t *testing.T) {
	for seed := row(1); seed <= 60; seed++ {
		numbers := seed
		w := bits.New()
		s := strings.Builder{}
		type step struct {
			v     uint64
			n     int
			align bool
		}
		var steps []step
		for i := 0; i < 120; i++ {
			x := step{n: numbers.below(65), align: numbers.below(5) == 0}
			x.v = numbers.number(x.n)
			steps = append(steps, x)
			put(t, w, x.v, x.n)
			s.WriteString(figures(x.v, x.n))
			if x.n < 64 && w.Put(widest(x.n)+1, x.n) != api.ErrArg {
				t.Fatalf("a number too wide for %d was put", x.n)
			}
			if x.align {
				w.Align()
				s.WriteString(strings.Repeat("0", (8-s.Len()%8)%8))
			}
		}
		has(t, w, s.String())
		b := w.Bytes()
		r := bits.Open(b)
		at := 0
		for _, x := range steps {
			get(t, r, x.n, x.v)
			at += x.n
			if x.align {
				if e := r.Align(); e != api.OK {
					t.Fatalf("Align at %d: %v", at, e)
				}
				at = (at + 7) / 8 * 8
			}
			isAt(t, r, b, at)
		}
		if e := r.Align(); e != api.OK || r.Left() != 0 || len(r.Rest()) != 0 {
			t.Fatalf("at the end: %v, left %d", e, r.Left())
		}
	}
}

// What is behind other bytes is read by what Rest answers.
func TestThereAndBackBytesBehind(t *testing.T) {
	w := bits.New()
	put(t, w, 0x4B49, 16)
	put(t, w, 3, 5)
	w.Align()
	b := append(w.Bytes(), "behind"...)
	r := bits.Open(b)
	get(t, r, 16, 0x4B49)
	get(t, r, 5, 3)
	if e := r.Align(); e != api.OK || string(r.Rest()) != "behind" {
		t.Errorf("Align: %v, %q", e, r.Rest())
	}
}
