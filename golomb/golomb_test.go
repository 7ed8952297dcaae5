package golomb_test

import (
	"bytes"
	"math"
	"slices"
	"strconv"
	"strings"
	"testing"

	"kinora/api"
	"kinora/bits"
	"kinora/golomb"
)

// code is a number's code as text: the tests hold the package against texts, which know nothing of shifts.
func code(v uint64) string {
	s := strconv.FormatUint(v+1, 2)
	return strings.Repeat("0", len(s)-1) + s
}

// folded is what a number with a sign folds into, as the chapter's words say it.
func folded(x int64) uint64 {
	if x > 0 {
		return uint64(2*x - 1)
	}
	return uint64(-2 * x)
}

// writer has just the bits of a text.
func writer(t *testing.T, s string) *bits.Writer {
	t.Helper()
	w := bits.New()
	for _, b := range s {
		if e := w.Put(uint64(b-'0'), 1); e != api.OK {
			t.Fatalf("bits.Put: %v", e)
		}
	}
	return w
}

// has tells whether a writer has just the bits of a text.
func has(t *testing.T, w *bits.Writer, s string) {
	t.Helper()
	if want := writer(t, s).Bytes(); w.Len() != len(s) || !bytes.Equal(w.Bytes(), want) {
		t.Fatalf("%d bits, %x, wanted %d, %x", w.Len(), w.Bytes(), len(s), want)
	}
}

// A place is where a reader is, in bytes that it has.
type place struct {
	r    *bits.Reader
	at   int
	left string // the bits behind
}

// placed is a reader whose bits behind are just those of a text: bits 1 ahead of it fill the bytes, and whole bytes more if asked.
func placed(t *testing.T, s string, more int) *place {
	t.Helper()
	ahead := (8-len(s)%8)%8 + 8*more
	p := &place{bits.Open(writer(t, strings.Repeat("1", ahead)+s).Bytes()), ahead, s}
	for range ahead {
		if v, e := p.r.Get(1); v != 1 || e != api.OK {
			t.Fatalf("bits.Get: %d, %v", v, e)
		}
	}
	p.stands(t)
	return p
}

// stands tells whether the reader is where it should be.
func (p *place) stands(t *testing.T) {
	t.Helper()
	if p.r.At() != p.at || p.r.Left() != len(p.left) {
		t.Fatalf("at %d, left %d, wanted %d, %d", p.r.At(), p.r.Left(), p.at, len(p.left))
	}
	skip := (8 - p.at%8) % 8
	if want := writer(t, p.left[skip:]).Bytes(); !bytes.Equal(p.r.Rest(), want) {
		t.Fatalf("the rest is %x, wanted %x", p.r.Rest(), want)
	}
}

// goes moves what is expected on.
func (p *place) goes(t *testing.T, n int) {
	t.Helper()
	p.at, p.left = p.at+n, p.left[n:]
	p.stands(t)
}

// gets tells whether the next code is a number's.
func (p *place) gets(t *testing.T, v uint64) {
	t.Helper()
	if x, e := golomb.Get(p.r); x != v || e != api.OK {
		t.Fatalf("Get: %d, %v, wanted %d", x, e, v)
	}
	p.goes(t, len(code(v)))
}

func (p *place) getsSigned(t *testing.T, x int64) {
	t.Helper()
	if y, e := golomb.GetSigned(p.r); y != x || e != api.OK {
		t.Fatalf("GetSigned: %d, %v, wanted %d", y, e, x)
	}
	p.goes(t, len(code(folded(x))))
}

// fails tells whether nothing but the error is answered, and nothing has changed: the bits behind are got yet.
func (p *place) fails(t *testing.T, want api.Errno) {
	t.Helper()
	for range 2 {
		if v, e := golomb.Get(p.r); v != 0 || e != want {
			t.Fatalf("Get of %s: %d, %v, wanted %v", p.left, v, e, want)
		}
		p.stands(t)
		if x, e := golomb.GetSigned(p.r); x != 0 || e != want {
			t.Fatalf("GetSigned of %s: %d, %v, wanted %v", p.left, x, e, want)
		}
		p.stands(t)
	}
	for _, b := range p.left {
		if v, e := p.r.Get(1); v != uint64(b-'0') || e != api.OK {
			t.Fatalf("the bits behind have changed: %d, %v", v, e)
		}
	}
}

// numbers are the small ones, and those around each width's first and last.
func numbers() []uint64 {
	list := []uint64{}
	for v := range uint64(300) {
		list = append(list, v)
	}
	for n := range 33 {
		for v := uint64(1)<<n - 4; v != 1<<n+4; v++ {
			if v <= api.MaxNumber {
				list = append(list, v)
			}
		}
	}
	slices.Sort(list)
	return slices.Compact(list)
}

// signed are the small ones, and those around each width's ends, on both sides of 0.
func signed() []int64 {
	list := []int64{}
	for x := int64(-150); x <= 150; x++ {
		list = append(list, x)
	}
	for n := range 32 {
		for x := int64(1)<<n - 4; x <= 1<<n+4; x++ {
			if x <= 1<<31-1 {
				list = append(list, x, -x)
			}
		}
	}
	slices.Sort(list)
	return slices.Compact(list)
}

// above are numbers without a code; with some of them 1 more, or the double, would wrap round.
func above() []uint64 {
	list := []uint64{math.MaxUint64, math.MaxUint64 - 1, math.MaxUint64 - 2, 3<<62 + 5}
	for n := 32; n < 64; n++ {
		list = append(list, 1<<n-1, 1<<n, 1<<n+1)
	}
	return list
}

// beyond are numbers with a sign that do not fold.
func beyond() []int64 {
	list := []int64{math.MinInt64, math.MinInt64 + 1, math.MaxInt64, math.MaxInt64 - 1}
	for n := 31; n < 63; n++ {
		list = append(list, 1<<n, 1<<n+1, -1<<n, -1<<n-1)
	}
	return list
}

// row is a row of numbers that is the same in every run.
type row uint64

func (r *row) next() uint64 {
	*r += 0x9E3779B97F4A7C15
	x := uint64(*r)
	x = (x ^ x>>30) * 0xBF58476D1CE4E5B9
	x = (x ^ x>>27) * 0x94D049BB133111EB
	return x ^ x>>31
}

// number is one with a code, of any width.
func (r *row) number() uint64 {
	return min(r.next()>>32>>(r.next()%33), api.MaxNumber)
}

// signed is one that folds, of any width.
func (r *row) signed() int64 {
	x := int64(r.next() >> 33 >> (r.next() % 32))
	if r.next()%2 == 0 {
		return -x
	}
	return x
}

// P2.1: lengths and bits.

func TestNamedCodes(t *testing.T) {
	for v, s := range map[uint64]string{
		0:             "1",
		1:             "010",
		2:             "011",
		3:             "00100",
		4:             "00101",
		6:             "00111",
		7:             "0001000",
		1<<31 - 2:     strings.Repeat("0", 30) + strings.Repeat("1", 31),
		1<<31 - 1:     strings.Repeat("0", 31) + "1" + strings.Repeat("0", 31),
		api.MaxNumber: strings.Repeat("0", 31) + strings.Repeat("1", 32),
	} {
		if n := golomb.Len(v); n != len(s) {
			t.Errorf("Len(%d): %d, wanted %d", v, n, len(s))
		}
		w := bits.New()
		if e := golomb.Put(w, v); e != api.OK {
			t.Errorf("Put(%d): %v", v, e)
		}
		has(t, w, s)
		placed(t, s, 0).gets(t, v)
	}
}

func TestLen(t *testing.T) {
	for _, v := range numbers() {
		if n := golomb.Len(v); n != len(code(v)) {
			t.Errorf("Len(%d): %d, wanted %d", v, n, len(code(v)))
		}
	}
}

func TestLenAbove(t *testing.T) {
	for _, v := range above() {
		if n := golomb.Len(v); n != 0 {
			t.Errorf("Len(%d): %d", v, n)
		}
	}
}

func TestPutAtEachPlace(t *testing.T) {
	for n := range 9 {
		for _, bit := range []string{"0", "1"} {
			ahead := strings.Repeat(bit, n)
			for _, v := range numbers() {
				w := writer(t, ahead)
				if e := golomb.Put(w, v); e != api.OK {
					t.Fatalf("Put(%d): %v", v, e)
				}
				has(t, w, ahead+code(v))
			}
		}
	}
}

func TestPutAbove(t *testing.T) {
	for _, s := range []string{"", "0", "1011", "10110111", "000010110111"} {
		for _, v := range above() {
			w := writer(t, s)
			if e := golomb.Put(w, v); e != api.ErrArg {
				t.Fatalf("Put(%d): %v", v, e)
			}
			has(t, w, s)
			if e := golomb.Put(w, 4); e != api.OK {
				t.Fatalf("Put(4) behind it: %v", e)
			}
			has(t, w, s+"00101")
		}
	}
}

// P2.1: numbers with a sign.

func TestFold(t *testing.T) {
	for x, v := range map[int64]uint64{0: 0, 1: 1, -1: 2, 2: 3, -2: 4, 3: 5, -3: 6, 1<<31 - 1: 1<<32 - 3, -(1<<31 - 1): api.MaxNumber} {
		if f, ok := golomb.Fold(x); f != v || !ok {
			t.Errorf("Fold(%d): %d, %v, wanted %d", x, f, ok, v)
		}
	}
	for _, x := range signed() {
		if f, ok := golomb.Fold(x); f != folded(x) || !ok {
			t.Errorf("Fold(%d): %d, %v, wanted %d", x, f, ok, folded(x))
		}
	}
}

func TestFoldBeyond(t *testing.T) {
	for _, x := range beyond() {
		if f, ok := golomb.Fold(x); f != 0 || ok {
			t.Errorf("Fold(%d): %d, %v", x, f, ok)
		}
	}
}

func TestUnfold(t *testing.T) {
	for _, x := range signed() {
		if y := golomb.Unfold(folded(x)); y != x {
			t.Errorf("Unfold(%d): %d, wanted %d", folded(x), y, x)
		}
	}
	for _, v := range numbers() {
		if x := golomb.Unfold(v); folded(x) != v {
			t.Errorf("Unfold(%d): %d, which folds into %d", v, x, folded(x))
		}
	}
}

func TestUnfoldAbove(t *testing.T) {
	for _, v := range above() {
		if x := golomb.Unfold(v); x != 0 {
			t.Errorf("Unfold(%d): %d", v, x)
		}
	}
}

func TestPutSigned(t *testing.T) {
	for _, ahead := range []string{"", "0", "10101"} {
		for _, x := range signed() {
			w := writer(t, ahead)
			if e := golomb.PutSigned(w, x); e != api.OK {
				t.Fatalf("PutSigned(%d): %v", x, e)
			}
			has(t, w, ahead+code(folded(x)))
		}
	}
}

func TestPutSignedBeyond(t *testing.T) {
	for _, s := range []string{"", "0", "1011", "10110111"} {
		for _, x := range beyond() {
			w := writer(t, s)
			if e := golomb.PutSigned(w, x); e != api.ErrArg {
				t.Fatalf("PutSigned(%d): %v", x, e)
			}
			has(t, w, s)
			if e := golomb.PutSigned(w, -2); e != api.OK {
				t.Fatalf("PutSigned(-2) behind it: %v", e)
			}
			has(t, w, s+"00101")
		}
	}
}

// P2.1: what is got.

func TestGetAtEachPlace(t *testing.T) {
	for n := range 9 {
		behind := "1100101001"[:n]
		for _, v := range numbers() {
			placed(t, code(v)+behind, n%3).gets(t, v)
		}
		for _, x := range signed() {
			placed(t, code(folded(x))+behind, n%3).getsSigned(t, x)
		}
	}
}

func TestBitsEndWithinTheCode(t *testing.T) {
	for _, v := range []uint64{0, 1, 2, 3, 4, 5, 6, 7, 14, 200, 1<<16 - 2, 1<<16 - 1, 1<<31 - 2, 1<<31 - 1, 1<<32 - 3, api.MaxNumber} {
		s := code(v)
		for n := range len(s) {
			placed(t, s[:n], 0).fails(t, api.ErrBits)
			placed(t, s[:n], 2).fails(t, api.ErrBits)
		}
	}
}

func TestNothingToGet(t *testing.T) {
	placed(t, "", 0).fails(t, api.ErrBits)
	placed(t, "", 1).fails(t, api.ErrBits)
	(&place{r: &bits.Reader{}}).fails(t, api.ErrBits)
}

func TestNoughtsAhead(t *testing.T) {
	for n := range 32 {
		noughts := strings.Repeat("0", n)
		placed(t, noughts, 0).fails(t, api.ErrBits)
		placed(t, noughts+"1"+noughts, 0).gets(t, 1<<n-1)
		placed(t, noughts+"1"+strings.Repeat("1", n), 1).gets(t, 2<<n-2)
	}
	for n := 32; n <= 140; n++ {
		noughts := strings.Repeat("0", n)
		for _, behind := range []string{"", "1", "0", "10", strings.Repeat("1", 31), strings.Repeat("1", 32), strings.Repeat("1", 200)} {
			placed(t, noughts+behind, 0).fails(t, api.ErrGolomb)
			placed(t, noughts+behind, 1).fails(t, api.ErrGolomb)
		}
	}
}

// With an error nothing has changed: behind a bit that is got by itself the same bits are a code, or none.
func TestGetBehindAnError(t *testing.T) {
	r := bits.Open(append(make([]byte, 4), 0x80, 0, 0, 0))
	if v, e := golomb.Get(r); v != 0 || e != api.ErrGolomb {
		t.Fatalf("Get: %d, %v", v, e)
	}
	if v, e := r.Get(1); v != 0 || e != api.OK {
		t.Fatalf("bits.Get: %d, %v", v, e)
	}
	if v, e := golomb.Get(r); v != 1<<31-1 || e != api.OK || r.At() != 64 {
		t.Fatalf("Get: %d, %v, at %d", v, e, r.At())
	}
	r = bits.Open([]byte{0x02})
	for range 2 {
		if v, e := golomb.Get(r); v != 0 || e != api.ErrBits || r.At() != 0 {
			t.Fatalf("Get: %d, %v, at %d", v, e, r.At())
		}
	}
	if v, e := r.Get(6); v != 0 || e != api.OK {
		t.Fatalf("bits.Get: %d, %v", v, e)
	}
	if v, e := golomb.Get(r); v != 0 || e != api.OK || r.At() != 7 {
		t.Fatalf("Get: %d, %v, at %d", v, e, r.At())
	}
}

// What is got hangs on the bytes alone, and leaves them as they are.
func TestGetLeavesTheBytes(t *testing.T) {
	b := writer(t, code(4)+code(77)).Bytes()
	kept := bytes.Clone(b)
	for range 2 {
		r := bits.Open(b)
		for _, want := range []uint64{4, 77} {
			if v, e := golomb.Get(r); v != want || e != api.OK {
				t.Fatalf("Get: %d, %v, wanted %d", v, e, want)
			}
		}
	}
	if !bytes.Equal(b, kept) {
		t.Errorf("the bytes have changed: %x", b)
	}
}

func TestNilWriter(t *testing.T) {
	for _, v := range append(above(), 0, 1, 4, api.MaxNumber) {
		if e := golomb.Put(nil, v); e != api.ErrArg {
			t.Errorf("Put(nil, %d): %v", v, e)
		}
	}
	for _, x := range append(beyond(), 0, 1, -1, 1<<31-1, -(1<<31 - 1)) {
		if e := golomb.PutSigned(nil, x); e != api.ErrArg {
			t.Errorf("PutSigned(nil, %d): %v", x, e)
		}
	}
}

func TestNilReader(t *testing.T) {
	if v, e := golomb.Get(nil); v != 0 || e != api.ErrArg {
		t.Errorf("Get(nil): %d, %v", v, e)
	}
	if x, e := golomb.GetSigned(nil); x != 0 || e != api.ErrArg {
		t.Errorf("GetSigned(nil): %d, %v", x, e)
	}
}

// P2.2.

func TestThereAndBackSmallNumbers(t *testing.T) {
	w := bits.New()
	total := 0
	for v := range uint64(1 << 15) {
		golomb.Put(w, v)
		total += golomb.Len(v)
	}
	if w.Len() != total {
		t.Fatalf("%d bits, by the lengths %d", w.Len(), total)
	}
	r := bits.Open(w.Bytes())
	for v := range uint64(1 << 15) {
		if x, e := golomb.Get(r); x != v || e != api.OK {
			t.Fatalf("Get: %d, %v, wanted %d", x, e, v)
		}
	}
	if r.At() != total || r.Align() != api.OK || r.Left() != 0 {
		t.Errorf("at %d, left %d", r.At(), r.Left())
	}
}

// Rows of numbers of all widths, with and without signs, with wrong calls and plain bits between.
func TestThereAndBackRows(t *testing.T) {
	for seed := row(1); seed <= 60; seed++ {
		w := bits.New()
		s := strings.Builder{}
		put := seed
		for range 100 {
			v, x, plain := put.number(), put.signed(), put.next()%8
			if golomb.Put(w, v) != api.OK || golomb.PutSigned(w, x) != api.OK || w.Put(plain, 3) != api.OK {
				t.Fatalf("%d, %d, %d were not put", v, x, plain)
			}
			if golomb.Put(w, v+1<<32) != api.ErrArg || golomb.PutSigned(w, x+1<<32) != api.ErrArg {
				t.Fatalf("too great: %d, %d", v+1<<32, x+1<<32)
			}
			s.WriteString(code(v) + code(folded(x)) + strconv.FormatUint(8+plain, 2)[1:])
		}
		has(t, w, s.String())
		r := bits.Open(w.Bytes())
		got := seed
		for range 100 {
			v, x, plain := got.number(), got.signed(), got.next()%8
			if y, e := golomb.Get(r); y != v || e != api.OK {
				t.Fatalf("Get: %d, %v, wanted %d", y, e, v)
			}
			if y, e := golomb.GetSigned(r); y != x || e != api.OK {
				t.Fatalf("GetSigned: %d, %v, wanted %d", y, e, x)
			}
			if y, e := r.Get(3); y != plain || e != api.OK {
				t.Fatalf("bits.Get: %d, %v, wanted %d", y, e, plain)
			}
		}
		if r.At() != s.Len() {
			t.Fatalf("at %d, wanted %d", r.At(), s.Len())
		}
	}
}

func TestRowsWithSignsAreFoldedOnes(t *testing.T) {
	w, plain := bits.New(), bits.New()
	for _, x := range signed() {
		golomb.PutSigned(w, x)
		v, _ := golomb.Fold(x)
		golomb.Put(plain, v)
	}
	if w.Len() != plain.Len() || !bytes.Equal(w.Bytes(), plain.Bytes()) {
		t.Fatal("a number with a sign was not put as the folded one")
	}
	r := bits.Open(w.Bytes())
	for _, x := range signed() {
		if y, e := golomb.GetSigned(r); y != x || e != api.OK {
			t.Fatalf("GetSigned: %d, %v, wanted %d", y, e, x)
		}
	}
}

// P2.3.

// spelt is what a writer has, as text.
func spelt(t *testing.T, w *bits.Writer) string {
	t.Helper()
	r := bits.Open(w.Bytes())
	s := strings.Builder{}
	for range w.Len() {
		v, e := r.Get(1)
		if e != api.OK {
			t.Fatalf("bits.Get: %v", e)
		}
		s.WriteByte('0' + byte(v))
	}
	return s.String()
}

func TestNoCodeBeginsAnother(t *testing.T) {
	all := numbers()
	for v := range uint64(5000) {
		all = append(all, v)
	}
	for seed := row(7); len(all) < 9000; {
		all = append(all, seed.number())
	}
	slices.Sort(all)
	all = slices.Compact(all)
	codes := []string{}
	for _, v := range all {
		w := bits.New()
		golomb.Put(w, v)
		codes = append(codes, spelt(t, w))
	}
	// Were one the beginning of another one, it would be that of the next one in this order.
	slices.Sort(codes)
	for i := 1; i < len(codes); i++ {
		if strings.HasPrefix(codes[i], codes[i-1]) {
			t.Fatalf("%s begins %s", codes[i-1], codes[i])
		}
	}
}
