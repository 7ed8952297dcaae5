package book_test

import (
	"bytes"
	"math"
	"slices"
	"strconv"
	"testing"

	"kinora/api"
	"kinora/book"
	"kinora/coder"
)

// The tests hold the package against the chapter's words themselves: texts of bits, each bit with the chance that the words name.

const topics = 16

// model has the chances by the words.
type model struct {
	lengths [topics][20]coder.Chance
	firsts  [topics][16]coder.Chance
	signs   [topics]coder.Chance
}

func newModel() *model {
	m := &model{}
	for i := range topics {
		for j := range m.lengths[i] {
			m.lengths[i][j] = coder.Even
		}
		for j := range m.firsts[i] {
			m.firsts[i][j] = coder.Even
		}
		m.signs[i] = coder.Even
	}
	return m
}

// step is a bit with its chance.
type step struct {
	c   coder.Chance
	bit int
}

// take is a bit with a chance, which then is the next one.
func take(c *coder.Chance, bit int) step {
	s := step{*c, bit}
	*c = c.Next(bit)
	return s
}

// value is the number of bits told as a text.
func value(text string) int {
	v, _ := strconv.ParseInt("0"+text, 2, 64)
	return int(v)
}

// chance is that for the bit behind those of a text.
func (m *model) chance(topic int, ahead string) *coder.Chance {
	if len(ahead) < 4 {
		return &m.firsts[topic][1<<len(ahead)-1+value(ahead)]
	}
	even := coder.Even
	return &even
}

// text has the steps of bits.
func (m *model) text(topic int, text string) []step {
	var l []step
	for i := range text {
		l = append(l, take(m.chance(topic, text[:i]), int(text[i]-'0')))
	}
	return l
}

// number has the steps of a number, be it above what may be.
func (m *model) number(topic, v int) []step {
	text := strconv.FormatInt(int64(v)+1, 2)
	n := len(text)
	var l []step
	for i := range n - 1 {
		l = append(l, take(&m.lengths[topic][i], 1))
	}
	if n < 21 {
		l = append(l, take(&m.lengths[topic][n-1], 0))
	}
	return append(l, m.text(topic, text[1:])...)
}

func (m *model) signed(topic, v int) []step {
	l := m.number(topic, max(v, -v))
	if v > 0 {
		l = append(l, take(&m.signs[topic], 0))
	}
	if v < 0 {
		l = append(l, take(&m.signs[topic], 1))
	}
	return l
}

// width is how many bits a number has.
func width(v int) int {
	n := 0
	for ; v > 0; v /= 2 {
		n++
	}
	return n
}

func (m *model) one(topic, n, v int) []step {
	count := width(n - 1)
	if count == 0 {
		return nil
	}
	text := strconv.FormatInt(int64(v), 2)
	for len(text) < count {
		text = "0" + text
	}
	return m.text(topic, text)
}

// getBit is the next bit by a chance, which then is the next one.
func getBit(y *coder.Decoder, c *coder.Chance) (int, api.Errno) {
	bit, e := y.Get(*c)
	*c = c.Next(bit)
	return bit, e
}

// getText is the next bits as a text.
func (m *model) getText(y *coder.Decoder, topic, n int) (string, api.Errno) {
	text := ""
	for len(text) < n {
		bit, e := getBit(y, m.chance(topic, text))
		if e != api.OK {
			return "", e
		}
		text += strconv.Itoa(bit)
	}
	return text, api.OK
}

func (m *model) getNumber(y *coder.Decoder, topic int) (int, api.Errno) {
	n := 0
	for n < 20 {
		bit, e := getBit(y, &m.lengths[topic][n])
		if e != api.OK {
			return 0, e
		}
		if bit == 0 {
			break
		}
		n++
	}
	text, e := m.getText(y, topic, n)
	if e != api.OK {
		return 0, e
	}
	v := value("1"+text) - 1
	if v > 1048576 {
		return 0, api.ErrBook
	}
	return v, api.OK
}

func (m *model) getSigned(y *coder.Decoder, topic int) (int, api.Errno) {
	v, e := m.getNumber(y, topic)
	if e != api.OK || v == 0 {
		return 0, e
	}
	bit, e := getBit(y, &m.signs[topic])
	if e != api.OK {
		return 0, e
	}
	return v * (1 - 2*bit), api.OK
}

func (m *model) getOne(y *coder.Decoder, topic, n int) (int, api.Errno) {
	text, e := m.getText(y, topic, width(n-1))
	if e != api.OK {
		return 0, e
	}
	if v := value(text); v < n {
		return v, api.OK
	}
	return 0, api.ErrBook
}

// The kinds of what is put.
const (
	number = iota
	signed
	one
)

// thing is something to be put.
type thing struct{ kind, topic, n, v int }

func (h thing) put(b *book.Book, x *coder.Encoder) api.Errno {
	switch h.kind {
	case number:
		return b.Put(x, h.topic, h.v)
	case signed:
		return b.PutSigned(x, h.topic, h.v)
	}
	return b.PutOne(x, h.topic, h.n, h.v)
}

// get is the next of such things, whatever its number.
func (h thing) get(b *book.Book, y *coder.Decoder) (int, api.Errno) {
	switch h.kind {
	case number:
		return b.Get(y, h.topic)
	case signed:
		return b.GetSigned(y, h.topic)
	}
	return b.GetOne(y, h.topic, h.n)
}

func (h thing) steps(m *model) []step {
	switch h.kind {
	case number:
		return m.number(h.topic, h.v)
	case signed:
		return m.signed(h.topic, h.v)
	}
	return m.one(h.topic, h.n, h.v)
}

func (h thing) wanted(m *model, y *coder.Decoder) (int, api.Errno) {
	switch h.kind {
	case number:
		return m.getNumber(y, h.topic)
	case signed:
		return m.getSigned(y, h.topic)
	}
	return m.getOne(y, h.topic, h.n)
}

func putSteps(x *coder.Encoder, l []step) {
	for _, s := range l {
		x.Put(s.c, s.bit)
	}
}

// seal puts bits behind by which the code tells how wide its range was.
func seal(x *coder.Encoder) []byte {
	for range 24 {
		x.Put(coder.Even, 1)
	}
	return x.Bytes()
}

// told is the code of things by the words, sealed.
func told(l []thing) []byte {
	x, m := coder.New(), newModel()
	for _, h := range l {
		putSteps(x, h.steps(m))
	}
	return seal(x)
}

// coded is a book behind things, and their code, not sealed.
func coded(t *testing.T, l []thing) (*book.Book, *coder.Encoder) {
	t.Helper()
	b, x := book.New(), coder.New()
	for i, h := range l {
		if e := h.put(b, x); e != api.OK {
			t.Fatalf("put %d, %v: %v", i, h, e)
		}
	}
	return b, x
}

// opened is a decoder of bytes.
func opened(t *testing.T, b []byte) *coder.Decoder {
	t.Helper()
	y, e := coder.Open(b)
	if e != api.OK {
		t.Fatalf("Open of %x: %v", b, e)
	}
	return y
}

// word is the i-th of a row of numbers that look like chance and are the same each time.
func word(seed uint64, i int) uint64 {
	z := seed*0xD1342543DE82EF95 + uint64(i+1)*0x9E3779B97F4A7C15
	z = (z ^ z>>30) * 0xBF58476D1CE4E5B9
	z = (z ^ z>>27) * 0x94D049BB133111EB
	return z ^ z>>31
}

// edges are the numbers around each power of two, and the small ones.
func edges() []int {
	var l []int
	for v := range 70 {
		l = append(l, v)
	}
	for k := 6; k <= 20; k++ {
		for d := -3; d <= 2; d++ {
			if v := 1<<k + d; v <= api.MaxLevel {
				l = append(l, v)
			}
		}
	}
	return l
}

// anyThing is some thing with numbers of up to so many bits.
func anyThing(w uint64, size int) thing {
	h := thing{kind: int(w % 3), topic: int(w >> 8 % topics)}
	v := int(w >> 16 & 0xFFFFF >> (20 - w>>40%uint64(size+1)))
	if w>>50%64 == 0 {
		v = api.MaxLevel
	}
	switch h.kind {
	case number:
		h.v = v
	case signed:
		h.v = v * (1 - 2*int(w>>60&1))
	case one:
		h.n = 1 + int(w>>45%16)
		h.v = v % h.n
	}
	return h
}

// row has so many things.
func row(seed uint64, n, size int) []thing {
	l := make([]thing, n)
	for i := range l {
		l[i] = anyThing(word(seed, i), size)
	}
	return l
}

// choices has each choice of each number of ways.
func choices(topic int) []thing {
	var l []thing
	for n := 1; n <= 16; n++ {
		for v := range n {
			l = append(l, thing{one, topic, n, v})
		}
	}
	return l
}

// rows are those that the tests go through.
func rows() [][]thing {
	l := [][]thing{nil, choices(0), choices(7), choices(15)}
	for _, v := range edges() {
		l = append(l, slices.Repeat([]thing{{number, v % topics, 0, v}}, 3))
		l = append(l, []thing{{signed, 3, 0, v}, {signed, 3, 0, -v}, {signed, 3, 0, -v}})
	}
	for _, h := range []thing{{number, 4, 0, 0}, {number, 4, 0, api.MaxLevel}, {signed, 4, 0, -1}, {signed, 4, 0, 77}, {one, 4, 16, 15}, {one, 4, 11, 2}} {
		l = append(l, slices.Repeat([]thing{h}, 200)) // till the chances go no further
	}
	for i := range 60 {
		l = append(l, row(uint64(i), 5*i, i%21))
	}
	return l
}

// P5.1 (K1): the code.

func TestCodeOfFewBits(t *testing.T) {
	e := coder.Even
	up, down := e.Next(0), e.Next(1)
	for _, x := range []struct {
		things []thing
		want   []step
	}{
		{[]thing{{number, 0, 0, 0}}, []step{{e, 0}}},
		{[]thing{{number, 0, 0, 1}}, []step{{e, 1}, {e, 0}, {e, 0}}},
		{[]thing{{number, 0, 0, 2}}, []step{{e, 1}, {e, 0}, {e, 1}}},
		{[]thing{{number, 0, 0, 0}, {number, 0, 0, 0}}, []step{{e, 0}, {up, 0}}},
		{[]thing{{number, 9, 0, 1}, {number, 9, 0, 6}}, []step{{e, 1}, {e, 0}, {e, 0}, {down, 1}, {up, 1}, {e, 0}, {up, 1}, {e, 1}}},
		{[]thing{{signed, 9, 0, 0}, {signed, 9, 0, -1}, {signed, 9, 0, 1}}, []step{{e, 0}, {up, 1}, {e, 0}, {e, 0}, {e, 1}, {up.Next(1), 1}, {up, 0}, {up, 0}, {down, 0}}},
		{[]thing{{one, 1, 1, 0}}, nil},
		{[]thing{{one, 1, 2, 1}, {one, 1, 2, 1}}, []step{{e, 1}, {down, 1}}},
		{[]thing{{one, 1, 5, 2}, {one, 1, 5, 3}}, []step{{e, 0}, {e, 1}, {e, 0}, {up, 0}, {down, 1}, {up, 1}}},
		{[]thing{{one, 1, 2, 0}, {number, 1, 0, 1}}, []step{{e, 0}, {e, 1}, {e, 0}, {up, 0}}},                                                                                  // a choice and a number have the same first bits
		{[]thing{{number, 1, 0, 32}, {number, 1, 0, 0}}, []step{{e, 1}, {e, 1}, {e, 1}, {e, 1}, {e, 1}, {e, 0}, {e, 0}, {e, 0}, {e, 0}, {e, 0}, {e, 1}, {down, 0}}},            // 33 is 100001
		{[]thing{{number, 1, 0, api.MaxLevel}}, slices.Concat(slices.Repeat([]step{{e, 1}}, 20), slices.Repeat([]step{{e, 0}}, 19), []step{{e, 1}})},                           // no 0 behind 20 bits 1
		{[]thing{{number, 1, 0, api.MaxLevel - 2}}, slices.Concat(slices.Repeat([]step{{e, 1}}, 19), []step{{e, 0}}, slices.Repeat([]step{{e, 1}}, 19))},                       // 2^20 - 1, of 20 bits
		{[]thing{{number, 1, 0, api.MaxLevel - 1}}, slices.Concat(slices.Repeat([]step{{e, 1}}, 20), slices.Repeat([]step{{e, 0}}, 20))},                                       // 2^20, of 21
		{[]thing{{one, 1, 16, 15}, {one, 1, 16, 14}}, []step{{e, 1}, {e, 1}, {e, 1}, {e, 1}, {down, 1}, {down, 1}, {down, 1}, {down, 0}}},                                      // four bits, each with its chance
		{[]thing{{one, 2, 9, 8}, {one, 3, 9, 8}, {number, 4, 0, 0}}, []step{{e, 1}, {e, 0}, {e, 0}, {e, 0}, {e, 1}, {e, 0}, {e, 0}, {e, 0}, {e, 0}}},                           // topics are apart
		{[]thing{{signed, 2, 0, 2}, {number, 2, 0, 2}}, []step{{e, 1}, {e, 0}, {e, 1}, {e, 0}, {down, 1}, {up, 0}, {down, 1}}},                                                 // a number with a sign is one
		{[]thing{{number, 2, 0, 1}, {one, 2, 4, 0}, {number, 2, 0, 3}}, []step{{e, 1}, {e, 0}, {e, 0}, {up, 0}, {e, 0}, {down, 1}, {up, 1}, {e, 0}, {up.Next(0), 0}, {up, 0}}}, // 4 is 100
	} {
		own, m := []step(nil), newModel()
		for _, h := range x.things {
			own = append(own, h.steps(m)...)
		}
		if !slices.Equal(own, x.want) {
			t.Errorf("the tests' own bits of %v: %v, wanted %v", x.things, own, x.want)
		}
		w := coder.New()
		putSteps(w, x.want)
		_, c := coded(t, x.things)
		if b, want := seal(c), seal(w); !bytes.Equal(b, want) {
			t.Errorf("the code of %v: %x, wanted %x", x.things, b, want)
		}
	}
}

func TestCodeOfEachNumberInEachTopic(t *testing.T) {
	for topic := range topics {
		for _, v := range edges() {
			for _, h := range []thing{{number, topic, 0, v}, {signed, topic, 0, v}, {signed, topic, 0, -v}} {
				_, x := coded(t, []thing{h})
				if b, want := seal(x), told([]thing{h}); !bytes.Equal(b, want) {
					t.Fatalf("the code of %v: %x, wanted %x", h, b, want)
				}
			}
		}
		for _, h := range choices(topic) {
			_, x := coded(t, []thing{h})
			if b, want := seal(x), told([]thing{h}); !bytes.Equal(b, want) {
				t.Fatalf("the code of %v: %x, wanted %x", h, b, want)
			}
		}
	}
}

func TestCodeBehindEachThing(t *testing.T) {
	for i, l := range rows() {
		b, x := book.New(), coder.New()
		m, w := newModel(), coder.New()
		for k, h := range l {
			if e := h.put(b, x); e != api.OK {
				t.Fatalf("row %d: put %d, %v: %v", i, k, h, e)
			}
			putSteps(w, h.steps(m))
			if c, want := x.Bytes(), w.Bytes(); !bytes.Equal(c, want) {
				t.Fatalf("row %d: behind %v, the %d-th: %x, wanted %x", i, h, k, c, want)
			}
		}
		if c, want := seal(x), seal(w); !bytes.Equal(c, want) {
			t.Errorf("row %d: %x, wanted %x", i, c, want)
		}
	}
}

func TestFollowedChancesMakeItShorter(t *testing.T) {
	_, often := coded(t, slices.Repeat([]thing{{signed, 8, 0, -11}}, 2000))
	if n := len(often.Bytes()); n > 80 { // 8 bits each, which at the end are about a fifth of one
		t.Errorf("%d bytes", n)
	}
}

func TestTopicsAreApart(t *testing.T) {
	for topic := range topics {
		b := book.New()
		for other := range topics {
			if other == topic {
				continue
			}
			for _, h := range row(uint64(other), 40, 20) {
				h.topic = other
				h.put(b, coder.New())
			}
		}
		x, w, fresh := coder.New(), coder.New(), book.New()
		for _, h := range row(99, 60, 12) {
			h.topic = topic
			h.put(b, x)
			h.put(fresh, w)
		}
		if c, want := seal(x), seal(w); !bytes.Equal(c, want) {
			t.Errorf("topic %d behind the others: %x, wanted %x", topic, c, want)
		}
	}
}

// P5.1 (K1): what is put and refused.

// ends are numbers that are far off.
var ends = []int{math.MaxInt, math.MinInt, math.MaxInt - 1, math.MinInt + 1, math.MaxInt32, math.MinInt32, 1 << 32, -1 << 32, 1<<32 + 1, 1 << 33}

func TestPutRefuses(t *testing.T) {
	var wrong []thing
	for _, topic := range append([]int{-1, -2, 16, 17, 255, 256, 272}, ends...) {
		wrong = append(wrong, thing{number, topic, 0, 3}, thing{signed, topic, 0, -3}, thing{signed, topic, 0, 0}, thing{one, topic, 5, 3}, thing{one, topic, 1, 0})
	}
	for _, v := range append([]int{api.MaxLevel + 1, api.MaxLevel + 2, 1 << 21, 1<<21 - 2, 1<<21 - 1}, ends...) {
		wrong = append(wrong, thing{number, 2, 0, v}, thing{number, 2, 0, -v}, thing{signed, 2, 0, v}, thing{signed, 2, 0, -v})
	}
	for _, v := range []int{-1, -2, -3, -16, -api.MaxLevel, -api.MaxLevel - 1} {
		wrong = append(wrong, thing{number, 2, 0, v})
	}
	for _, n := range append([]int{0, -1, -2, -16, 17, 18, 31, 32, 33, 256, 257}, ends...) {
		for _, v := range []int{0, 1, -1, 15, 16, n, n - 1} {
			wrong = append(wrong, thing{one, 2, n, v})
		}
	}
	for n := 1; n <= 16; n++ {
		for _, v := range append([]int{n, n + 1, 2*n + 1, 15 + n, 16 + n, 32, -1, -2, -n, -16}, ends...) {
			wrong = append(wrong, thing{one, 2, n, v})
		}
	}
	for i, l := range [][]thing{nil, row(5, 3, 4), row(6, 30, 20)} {
		b, x := coded(t, l)
		kept := b.Copy()
		for _, h := range wrong {
			if e := h.put(b, x); e != api.ErrArg {
				t.Fatalf("row %d: put %v: %v", i, h, e)
			}
			if !b.Same(kept) {
				t.Fatalf("row %d: %v was refused, and the book has changed", i, h)
			}
		}
		if c, want := seal(x), told(l); !bytes.Equal(c, want) {
			t.Errorf("row %d: refused, and the code is %x, wanted %x", i, c, want)
		}
	}
}

func TestGetRefuses(t *testing.T) {
	l := row(11, 50, 10)
	_, x := coded(t, l)
	y, b := opened(t, x.Bytes()), book.New()
	var wrong []thing
	for _, topic := range append([]int{-1, -2, 16, 17, 255, 256, 272}, ends...) {
		wrong = append(wrong, thing{number, topic, 0, 0}, thing{signed, topic, 0, 0}, thing{one, topic, 5, 0}, thing{one, topic, 1, 0})
	}
	for _, n := range append([]int{0, -1, -2, -16, 17, 18, 31, 32, 33, 256, 257}, ends...) {
		wrong = append(wrong, thing{one, 2, n, 0})
	}
	for i, h := range l {
		kept := b.Copy()
		for _, h := range wrong {
			if v, e := h.get(b, y); v != 0 || e != api.ErrArg {
				t.Fatalf("get of %v: %d, %v", h, v, e)
			}
		}
		if !b.Same(kept) {
			t.Fatalf("refused, and the book has changed")
		}
		if v, e := h.get(b, y); v != h.v || e != api.OK {
			t.Fatalf("refused, and thing %d, %v, is %d, %v", i, h, v, e)
		}
	}
	if e := y.End(); e != api.OK {
		t.Errorf("End: %v", e)
	}
}

func TestNils(t *testing.T) {
	var none *book.Book
	for _, topic := range []int{-1, 0, 5, 15, 16, math.MaxInt} {
		for _, h := range []thing{{number, topic, 0, 0}, {number, topic, 0, 7}, {number, topic, 0, -1}, {signed, topic, 0, -7}, {signed, topic, 0, 0}, {signed, topic, 0, math.MinInt}, {one, topic, 5, 3}, {one, topic, 1, 0}, {one, topic, 0, 0}} {
			l := row(3, 20, 9)
			b, x := coded(t, l)
			y := opened(t, x.Bytes())
			kept := b.Copy()
			if e := h.put(none, x); e != api.ErrArg {
				t.Errorf("put %v by a nil book: %v", h, e)
			}
			if e := h.put(b, nil); e != api.ErrArg || !b.Same(kept) {
				t.Errorf("put %v to a nil encoder: %v, the same: %t", h, e, b.Same(kept))
			}
			if e := h.put(none, nil); e != api.ErrArg {
				t.Errorf("put %v, all nil: %v", h, e)
			}
			if v, e := h.get(none, y); v != 0 || e != api.ErrArg {
				t.Errorf("get of %v by a nil book: %d, %v", h, v, e)
			}
			if v, e := h.get(b, nil); v != 0 || e != api.ErrArg || !b.Same(kept) {
				t.Errorf("get of %v from a nil decoder: %d, %v, the same: %t", h, v, e, b.Same(kept))
			}
			if v, e := h.get(none, nil); v != 0 || e != api.ErrArg {
				t.Errorf("get of %v, all nil: %d, %v", h, v, e)
			}
			back(t, l, y)
			if c, want := seal(x), told(l); !bytes.Equal(c, want) {
				t.Errorf("refused, and the code is %x, wanted %x", c, want)
			}
		}
	}
}

// back gets things and the end.
func back(t *testing.T, l []thing, y *coder.Decoder) *book.Book {
	t.Helper()
	b := book.New()
	for i, h := range l {
		if v, e := h.get(b, y); v != h.v || e != api.OK {
			t.Fatalf("thing %d, %v: %d, %v", i, h, v, e)
		}
	}
	if e := y.End(); e != api.OK {
		t.Errorf("End behind %d things: %v", len(l), e)
	}
	return b
}

// P5.2 (there and back).

func TestThereAndBack(t *testing.T) {
	for i, l := range rows() {
		b, x := coded(t, l)
		if c := back(t, l, opened(t, x.Bytes())); !b.Same(c) || !c.Same(b) {
			t.Errorf("row %d: not the same book", i)
		}
	}
}

func TestTheSameBehindEachThing(t *testing.T) {
	for i, l := range rows() {
		if len(l) > 120 {
			continue
		}
		_, x := coded(t, l)
		y := opened(t, x.Bytes())
		b, c := book.New(), book.New()
		for k, h := range l {
			if v, e := h.get(c, y); v != h.v || e != api.OK {
				t.Fatalf("row %d: thing %d, %v: %d, %v", i, k, h, v, e)
			}
			if b.Same(c) != (len(h.steps(newModel())) == 0) {
				t.Fatalf("row %d: ahead of %v, the %d-th, is the book that of behind it? %t", i, h, k, b.Same(c))
			}
			h.put(b, coder.New())
			if !b.Same(c) {
				t.Fatalf("row %d: not the same behind %v, the %d-th", i, h, k)
			}
		}
	}
}

func TestBooksThatBeganLikewise(t *testing.T) {
	for seed := range uint64(20) {
		b, _ := coded(t, row(seed, 30, 12))
		c := b.Copy()
		x := coder.New()
		l := row(seed+100, 40, 15)
		for _, h := range l {
			h.put(b, x)
		}
		y := opened(t, x.Bytes())
		for k, h := range l {
			if v, e := h.get(c, y); v != h.v || e != api.OK {
				t.Fatalf("thing %d, %v: %d, %v", k, h, v, e)
			}
		}
		if !b.Same(c) || y.End() != api.OK {
			t.Errorf("seed %d: the same: %t, End: %v", seed, b.Same(c), y.End())
		}
	}
}

// P5.1 (K1): what is got and may not be.

func TestBytesThatEndTooEarly(t *testing.T) {
	for i, l := range rows() {
		if len(l) > 100 {
			continue
		}
		_, x := coded(t, l)
		full := x.Bytes()
		for n := 4; n < len(full); n++ {
			if !asWanted(t, l, full[:n]) {
				t.Fatalf("row %d: %d bytes of %d", i, n, len(full))
			}
		}
	}
}

// asWanted tells whether things are got from bytes as the words say: up to the first error, and with the same left behind where there is none.
func asWanted(t *testing.T, l []thing, code []byte) bool {
	t.Helper()
	given := bytes.Clone(code)
	b, m := book.New(), newModel()
	y, w := opened(t, code), opened(t, code)
	for k, h := range l {
		v, e := h.get(b, y)
		want, we := h.wanted(m, w)
		if v != want || e != we {
			t.Errorf("%x: thing %d, %v: %d, %v, wanted %d, %v", code, k, h, v, e, want, we)
			return false
		}
		if e != api.OK {
			return true
		}
	}
	for e := api.OK; e == api.OK; {
		var bit, want int
		var we api.Errno
		bit, e = y.Get(coder.Even)
		want, we = w.Get(coder.Even)
		if bit != want || e != we {
			t.Errorf("%x: behind all: %d, %v, wanted %d, %v", code, bit, e, want, we)
			return false
		}
	}
	return bytes.Equal(given, code)
}

func TestSomeThingsEndTooEarly(t *testing.T) {
	long := slices.Repeat([]thing{{number, 6, 0, api.MaxLevel}}, 4)
	_, x := coded(t, long)
	code := x.Bytes()
	for n := 4; n < len(code); n++ {
		y, b := opened(t, code[:n]), book.New()
		e := api.OK
		for k := 0; k < len(long) && e == api.OK; k++ {
			var v int
			v, e = b.Get(y, 6)
			if e == api.OK && v != api.MaxLevel || e != api.OK && v != 0 {
				t.Errorf("%d bytes: %d, %v", n, v, e)
			}
		}
		if e != api.ErrCoder {
			t.Errorf("%d bytes of %d: %v", n, len(code), e)
		}
	}
}

func TestWhateverBytes(t *testing.T) {
	errs := map[api.Errno]int{}
	for seed := range uint64(3000) {
		n := 4 + int(word(seed, 0)%40)
		code := make([]byte, n)
		for i := range code {
			code[i] = byte(word(seed, i+1))
			switch seed % 5 {
			case 1:
				code[i] |= byte(word(seed, i+100))
			case 2:
				code[i] &= byte(word(seed, i+100))
			case 3:
				code[i] = 0xFF
			}
		}
		if seed%5 == 3 {
			code[0] = byte(0xE0 + seed%32)
		}
		l := row(seed+7000, 60, 20)
		if !asWanted(t, l, code) {
			t.Fatalf("seed %d", seed)
		}
		b, y := book.New(), opened(t, code)
		for _, h := range l {
			if _, e := h.get(b, y); e != api.OK {
				errs[e]++
				break
			}
		}
	}
	if errs[api.ErrCoder] < 100 || errs[api.ErrBook] < 100 {
		t.Errorf("the tests' own bytes have too few errors: %v", errs)
	}
}

func TestNumbersAboveWhatMayBe(t *testing.T) {
	for topic := range topics {
		for _, v := range []int{api.MaxLevel - 1, api.MaxLevel, api.MaxLevel + 1, api.MaxLevel + 2, 1<<20 + 1<<19, 1<<21 - 3, 1<<21 - 2} {
			x := coder.New()
			m := newModel()
			putSteps(x, m.number(topic, 5))
			putSteps(x, m.number(topic, v))
			for _, kind := range []int{number, signed} {
				y, b := opened(t, seal(x)), book.New()
				if got, e := b.Get(y, topic); got != 5 || e != api.OK {
					t.Fatalf("Get: %d, %v", got, e)
				}
				got, e := thing{kind, topic, 0, 0}.get(b, y)
				if v <= api.MaxLevel && (max(got, -got) != v || e != api.OK) {
					t.Errorf("kind %d: %d: %d, %v", kind, v, got, e)
				}
				if v > api.MaxLevel && (got != 0 || e != api.ErrBook) {
					t.Errorf("kind %d: %d: %d, %v", kind, v, got, e)
				}
			}
		}
	}
}

func TestChoicesThatAreNone(t *testing.T) {
	for n := 1; n <= 16; n++ {
		for v := range 1 << width(n-1) {
			x := coder.New()
			m := newModel()
			putSteps(x, m.number(9, 3))
			putSteps(x, m.one(9, n, v))
			y, b := opened(t, x.Bytes()), book.New()
			b.Get(y, 9)
			got, e := b.GetOne(y, 9, n)
			if v < n && (got != v || e != api.OK || y.End() != api.OK) {
				t.Errorf("%d of %d: %d, %v, End %v", v, n, got, e, y.End())
			}
			if v >= n && (got != 0 || e != api.ErrBook) {
				t.Errorf("%d of %d: %d, %v", v, n, got, e)
			}
		}
	}
}

func TestOneOfOneNeedsNoBits(t *testing.T) {
	b, x := book.New(), coder.New()
	for range 50 {
		if e := b.PutOne(x, 3, 1, 0); e != api.OK {
			t.Fatalf("PutOne: %v", e)
		}
	}
	if !b.Same(book.New()) || !bytes.Equal(seal(x), told(nil)) {
		t.Errorf("one of one was put as something")
	}
	y := opened(t, bytes.Repeat([]byte{0xFF}, 4)) // no code at all
	if v, e := b.GetOne(y, 3, 2); v != 0 || e != api.ErrCoder {
		t.Fatalf("one of two: %d, %v", v, e)
	}
	c := book.New()
	if v, e := c.GetOne(y, 3, 1); v != 0 || e != api.OK || !c.Same(book.New()) {
		t.Errorf("one of one: %d, %v", v, e)
	}
}

// P5.1 (K1): Same and Copy.

func TestNewBooksAreTheSame(t *testing.T) {
	b, c := book.New(), book.New()
	if b == nil || c == nil || b == c || !b.Same(c) || !c.Same(b) || !b.Same(b) {
		t.Fatalf("new books")
	}
	b.Put(coder.New(), 0, 0)
	if b.Same(c) || c.Same(b) || !c.Same(book.New()) {
		t.Errorf("a new book follows another one")
	}
}

func TestSameOfNils(t *testing.T) {
	var none *book.Book
	b := book.New()
	if !none.Same(nil) || none.Same(b) || b.Same(nil) || b.Same(none) {
		t.Errorf("%t, %t, %t, %t", none.Same(nil), none.Same(b), b.Same(nil), b.Same(none))
	}
	if none.Copy() != nil {
		t.Errorf("a copy of a nil book")
	}
}

func TestSameHangsOnEachChance(t *testing.T) {
	var changes [][]thing
	for topic := range topics {
		for n := range 21 { // these have the chances for lengths up to n, and no other 1 than the first
			changes = append(changes, []thing{{number, topic, 0, 1<<n - 1}})
		}
		for v := range 16 {
			changes = append(changes, []thing{{one, topic, 16, v}})
		}
		for v := range 8 {
			changes = append(changes, []thing{{one, topic, 8, v}})
		}
		for v := range 4 {
			changes = append(changes, []thing{{one, topic, 4, v}})
		}
		changes = append(changes, []thing{{one, topic, 2, 0}}, []thing{{one, topic, 2, 1}}, []thing{{signed, topic, 0, 1}}, []thing{{signed, topic, 0, -1}})
	}
	changes = append(changes, nil)
	books := make([]*book.Book, len(changes))
	for i, l := range changes {
		books[i], _ = coded(t, l)
	}
	for i, b := range books {
		for j, c := range books {
			if b.Same(c) != (i == j) {
				t.Errorf("behind %v and %v: the same: %t", changes[i], changes[j], b.Same(c))
			}
		}
	}
}

func TestSameHangsOnNothingElse(t *testing.T) {
	for _, x := range [][2][]thing{
		{{{number, 3, 0, 31}}, {{number, 3, 0, 32}}}, // they differ in the fifth bit alone
		{{{number, 3, 0, api.MaxLevel}}, {{number, 3, 0, api.MaxLevel - 1}}},
		{{{number, 3, 0, 0}}, {{signed, 3, 0, 0}}},
		{{{number, 3, 0, 4}, {number, 7, 0, 2}}, {{number, 7, 0, 2}, {number, 3, 0, 4}}},
		{{{one, 3, 4, 2}}, {{one, 3, 3, 2}}},
		{{{one, 3, 2, 1}, {one, 3, 1, 0}}, {{one, 3, 2, 1}}},
		{slices.Repeat([]thing{{one, 3, 2, 1}}, 500), slices.Repeat([]thing{{one, 3, 2, 1}}, 501)}, // the chance goes no further
	} {
		b, _ := coded(t, x[0])
		c, _ := coded(t, x[1])
		if !b.Same(c) || !c.Same(b) {
			t.Errorf("behind %v and %v", x[0], x[1])
		}
	}
}

func TestCopyGoesItsOwnWay(t *testing.T) {
	for seed := range uint64(30) {
		l := row(seed, int(seed), 10)
		b, _ := coded(t, l)
		kept, _ := coded(t, l)
		c := b.Copy()
		if c == b || !c.Same(b) || !b.Same(c) {
			t.Fatalf("a copy of %v", l)
		}
		d := c.Copy()
		for topic := range topics {
			h := thing{signed, topic, 0, -9}
			h.put(c, coder.New())
			if !b.Same(kept) || c.Same(b) || !d.Same(kept) {
				t.Fatalf("the copy has gone on, and the book or the copy's copy too")
			}
		}
		moved := c.Copy()
		b.PutOne(coder.New(), 11, 16, 9)
		if b.Same(kept) || !c.Same(moved) || !d.Same(kept) {
			t.Fatalf("the book has gone on, and its copies too")
		}
		x, w := coder.New(), coder.New()
		for _, h := range row(seed+50, 40, 14) {
			h.put(d, x)
			h.put(kept, w)
		}
		if !d.Same(kept) || !bytes.Equal(seal(x), seal(w)) {
			t.Fatalf("a copy goes on otherwise than the book")
		}
	}
}

func TestWhatIsGotFromACopy(t *testing.T) {
	l := row(77, 60, 10)
	_, x := coded(t, l)
	y := opened(t, x.Bytes())
	b := book.New()
	for k, h := range l {
		c := b.Copy()
		if v, e := h.get(c, y); v != h.v || e != api.OK {
			t.Fatalf("thing %d, %v: %d, %v", k, h, v, e)
		}
		b = c
	}
	if e := y.End(); e != api.OK {
		t.Errorf("End: %v", e)
	}
}
