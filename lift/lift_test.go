package lift_test

import (
	"math"
	"slices"
	"testing"

	"kinora/api"
	"kinora/lift"
)

// The tests hold the package against the chapter's words themselves: a row's transform is the step, and that of what is then its first half; halves are rounded down by a division that knows of odd numbers.

const (
	most        = 1 << 20 // a block's numbers, without their signs
	mostChanged = 1 << 26 // those of one that is taken back
)

var sides = []int{4, 8}

// series is a row of numbers that is the same in every run.
type series uint64

func (s *series) next() uint64 {
	*s += 0x9E3779B97F4A7C15
	x := uint64(*s)
	x = (x ^ x>>30) * 0xBF58476D1CE4E5B9
	x = (x ^ x>>27) * 0x94D049BB133111EB
	return x ^ x>>31
}

// mixed are so many numbers from -far to far.
func mixed(s *series, n, far int) []int {
	b := make([]int, n)
	for i := range b {
		b[i] = int(s.next()%uint64(2*far+1)) - far
	}
	return b
}

// ends are so many numbers, each at one of the two ends, or 1 or 2 short of it.
func ends(s *series, n, far int) []int {
	b := make([]int, n)
	for i := range b {
		x := s.next()
		b[i] = far - int(x>>1%3)
		if x&1 == 1 {
			b[i] = -b[i]
		}
	}
	return b
}

// halfDown is half a number, rounded down.
func halfDown(v int) int {
	if v%2 != 0 {
		v--
	}
	return v / 2
}

// wantStep is the step of a row by the words.
func wantStep(row []int) []int {
	lows, highs := []int{}, []int{}
	for len(row) > 0 {
		a, b := row[0], row[1]
		row = row[2:]
		lows = append(lows, halfDown(a+b))
		highs = append(highs, a-b)
	}
	return append(lows, highs...)
}

// wantRow is a row's transform by the words.
func wantRow(row []int) []int {
	r := wantStep(row)
	if m := len(r) / 2; m > 1 {
		return append(wantRow(r[:m]), r[m:]...)
	}
	return r
}

// wantStepBack is the row whose step is r: a pair's sum is twice the low half, or one more, and even or odd as its difference is.
func wantStepBack(r []int) []int {
	m := len(r) / 2
	row := []int{}
	for i := range m {
		sum, difference := 2*r[i], r[m+i]
		if difference%2 != 0 {
			sum++
		}
		row = append(row, (sum+difference)/2, (sum-difference)/2)
	}
	return row
}

// wantRowBack is the row whose transform is r.
func wantRowBack(r []int) []int {
	if m := len(r) / 2; m > 1 {
		r = append(wantRowBack(r[:m]), r[m:]...)
	}
	return wantStepBack(r)
}

func sideOf(b []int) int {
	if len(b) == 16 {
		return 4
	}
	return 8
}

func eachRow(b []int, change func([]int) []int) []int {
	n := sideOf(b)
	t := []int{}
	for y := range n {
		t = append(t, change(slices.Clone(b[n*y:n*y+n]))...)
	}
	return t
}

// turned has the columns as rows.
func turned(b []int) []int {
	n := sideOf(b)
	t := []int{}
	for x := range n {
		for y := range n {
			t = append(t, b[n*y+x])
		}
	}
	return t
}

func eachColumn(b []int, change func([]int) []int) []int {
	return turned(eachRow(turned(b), change))
}

func wantForward(b []int) []int { return eachColumn(eachRow(b, wantRow), wantRow) }

func wantBack(b []int) []int { return eachRow(eachColumn(b, wantRowBack), wantRowBack) }

func isWithin(b []int, far int) bool { return slices.Min(b) >= -far && slices.Max(b) <= far }

// samples are blocks of n times n numbers from -far to far: near 0, far from it, at the ends, and some by rule.
func samples(n, far int) [][]int {
	s := series(n * far)
	l := [][]int{make([]int, n*n)}
	for range 300 {
		l = append(l, mixed(&s, n*n, 1), mixed(&s, n*n, 3), mixed(&s, n*n, 255), mixed(&s, n*n, far), ends(&s, n*n, far))
	}
	checks, stripes, columns, slope := make([]int, n*n), make([]int, n*n), make([]int, n*n), make([]int, n*n)
	for i := range n * n {
		x, y := i%n, i/n
		checks[i] = far - (x+y)%2*2*far
		stripes[i] = far - y%2*2*far
		columns[i] = far - x%2*2*far
		slope[i] = x - 3*y
	}
	return append(l, checks, stripes, columns, slope)
}

// alone are blocks of which one number is not 0.
func alone(n int, values ...int) [][]int {
	l := [][]int{}
	for place := range n * n {
		for _, v := range values {
			b := make([]int, n*n)
			b[place] = v
			l = append(l, b)
		}
	}
	return l
}

// rowsOf is a block all of whose rows are the same one.
func rowsOf(row ...int) []int { return slices.Repeat(row, len(row)) }

// above is a block with a row, and 0 below it.
func above(row ...int) []int { return append(slices.Clone(row), make([]int, len(row)*(len(row)-1))...) }

// wrongLengths are those of which no row is a block.
func wrongLengths() []int {
	l := []int{255, 256, 257, 1000, 1024, 4096, 1<<16 + 16, 1<<16 + 64}
	for n := range 200 {
		if n != 16 && n != 64 {
			l = append(l, n)
		}
	}
	return l
}

// tooFar are numbers beyond far, just so and by any width's ends.
func tooFar(far int) []int {
	l := []int{math.MinInt, math.MinInt + 1, math.MaxInt - 1, math.MaxInt}
	for _, v := range []int{far + 1, far + 2, 2 * far, 1 << 31, 1<<31 + 1, 1 << 32, 1<<32 + 1, 1 << 62, 1<<62 + 1} {
		l = append(l, v, -v)
	}
	return l
}

// P7.1, F1: Forward.

func TestForwardOfARow(t *testing.T) {
	for _, x := range []struct{ row, want []int }{
		{[]int{1, 2, 3, 4}, []int{2, -2, -1, -1}},
		{[]int{7, -2, -3, 0}, []int{0, 4, 9, -3}},
		{[]int{-1, 0, 0, 0}, []int{-1, -1, -1, 0}},
		{[]int{0, -1, 0, 0}, []int{-1, -1, 1, 0}},
		{[]int{0, 0, 0, -1}, []int{-1, 1, 0, 1}},
		{[]int{5, 0, 0, 0}, []int{1, 2, 5, 0}},
		{[]int{-5, 0, 0, 0}, []int{-2, -3, -5, 0}},
		{[]int{most, -most, most, -most}, []int{0, 0, 2 * most, 2 * most}},
		{[]int{most, most, -most, -most}, []int{0, 2 * most, 0, 0}},
		{[]int{-most, -most, -most, 1 - most}, []int{-most, 0, 0, -1}},
		{[]int{1, 2, 3, 4, 5, 6, 7, 8}, []int{4, -4, -2, -2, -1, -1, -1, -1}},
		{[]int{0, 0, 0, 0, 0, 0, 0, -1}, []int{-1, 1, 0, 1, 0, 0, 0, 1}},
		{[]int{0, -1, 0, 0, 0, 0, 0, 0}, []int{-1, -1, -1, 0, 1, 0, 0, 0}},
		{[]int{9, 0, 0, 0, -9, 0, 0, 0}, []int{-1, 5, 4, -5, 9, 0, -9, 0}},
	} {
		// Of rows that are alike each column is flat, and so is a row where columns are alike.
		want := above(x.want...)
		if b, e := lift.Forward(rowsOf(x.row...)); e != api.OK || !slices.Equal(b, want) {
			t.Errorf("rows %v: %v, %v, wanted %v", x.row, b, e, want)
		}
		if b, e := lift.Forward(turned(rowsOf(x.row...))); e != api.OK || !slices.Equal(b, turned(want)) {
			t.Errorf("columns %v: %v, %v, wanted %v", x.row, b, e, turned(want))
		}
	}
}

func TestForwardByHand(t *testing.T) {
	for _, x := range []struct{ b, want []int }{
		{above(5, 0, 0, 0), []int{0, 0, 1, 0, 0, 1, 2, 0, 1, 2, 5, 0, 0, 0, 0, 0}},
		{above(-5, 0, 0, 0), []int{-1, -1, -2, 0, -1, -2, -3, 0, -2, -3, -5, 0, 0, 0, 0, 0}},
		{above(0, 1, 0, 0), []int{0, 0, -1, 0, 0, 0, -1, 0, 0, 0, -1, 0, 0, 0, 0, 0}},
		{turned(above(0, 1, 0, 0)), []int{0, 0, 0, 0, 0, 0, 0, 0, 0, 0, -1, 0, 0, 0, 0, 0}},
	} {
		if b, e := lift.Forward(x.b); e != api.OK || !slices.Equal(b, x.want) {
			t.Errorf("Forward(%v): %v, %v, wanted %v", x.b, b, e, x.want)
		}
	}
}

func TestForwardByTheWords(t *testing.T) {
	for _, n := range sides {
		blocks := append(samples(n, most), alone(n, 1, -1, 2, -2, 3, -3, 5, -5, 127, -128, most, -most, most-1, 1-most)...)
		for _, b := range blocks {
			if x, e := lift.Forward(b); e != api.OK || !slices.Equal(x, wantForward(b)) {
				t.Fatalf("Forward(%v): %v, %v, wanted %v", b, x, e, wantForward(b))
			}
		}
	}
}

// Where halves are rounded, it is to be seen which comes first.
func TestRowsComeAheadOfColumns(t *testing.T) {
	for _, n := range sides {
		told := 0
		for _, b := range samples(n, most) {
			other := eachRow(eachColumn(b, wantRow), wantRow)
			x, _ := lift.Forward(b)
			y, _ := lift.Back(x)
			if slices.Equal(x, other) {
				continue
			}
			told++
			if z := eachColumn(eachRow(x, wantRowBack), wantRowBack); !slices.Equal(y, b) || slices.Equal(y, z) {
				t.Fatalf("taken back the same way round: %v", b)
			}
		}
		if told == 0 {
			t.Errorf("%d by %d: columns come ahead of rows", n, n)
		}
	}
}

// All blocks whose four numbers in a square are -2 to 2, and the others 0.
func TestEachOfFourNumbers(t *testing.T) {
	for _, n := range sides {
		for _, at := range []int{0, 1, 2, n - 2, n, n + 1, n*(n-2) + 1, n*(n-1) - 2} {
			for k := range 5 * 5 * 5 * 5 {
				b := make([]int, n*n)
				b[at], b[at+1], b[at+n], b[at+n+1] = k%5-2, k/5%5-2, k/25%5-2, k/125-2
				x, e := lift.Forward(b)
				if e != api.OK || !slices.Equal(x, wantForward(b)) {
					t.Fatalf("Forward(%v): %v, %v", b, x, e)
				}
				if y, e := lift.Back(x); e != api.OK || !slices.Equal(y, b) {
					t.Fatalf("Back(%v): %v, %v", x, y, e)
				}
				if y, e := lift.Back(b); e != api.OK || !slices.Equal(y, wantBack(b)) {
					t.Fatalf("Back(%v): %v, %v", b, y, e)
				}
			}
		}
	}
}

// Back.

func TestBackOfARow(t *testing.T) {
	for _, x := range []struct{ r, want []int }{
		{[]int{2, -2, -1, -1}, []int{1, 2, 3, 4}},
		{[]int{0, 4, 9, -3}, []int{7, -2, -3, 0}},
		{[]int{-2, -3, -5, 0}, []int{-5, 0, 0, 0}},
		{[]int{1, 0, 0, 0}, []int{1, 1, 1, 1}},
		{[]int{0, 1, 0, 0}, []int{1, 1, 0, 0}},
		{[]int{0, -1, 0, 0}, []int{0, 0, 1, 1}},
		{[]int{0, 0, 1, 0}, []int{1, 0, 0, 0}},
		{[]int{0, 0, -1, 0}, []int{0, 1, 0, 0}},
		{[]int{0, 0, 0, 3}, []int{0, 0, 2, -1}},
		{[]int{0, 0, 0, -3}, []int{0, 0, -1, 2}},
		{[]int{-mostChanged, -mostChanged, -mostChanged, 0}, []int{-2 * mostChanged, -mostChanged, -mostChanged / 2, -mostChanged / 2}},
		{[]int{mostChanged, mostChanged, mostChanged, -mostChanged}, []int{2 * mostChanged, mostChanged, 0, mostChanged}},
		{[]int{4, -4, -2, -2, -1, -1, -1, -1}, []int{1, 2, 3, 4, 5, 6, 7, 8}},
		{[]int{0, 0, 0, 1, 0, 0, 0, 0}, []int{0, 0, 0, 0, 1, 1, 0, 0}},
		{[]int{0, 0, 0, 0, 0, 5, 0, -5}, []int{0, 0, 3, -2, 0, 0, -2, 3}},
	} {
		if b, e := lift.Back(above(x.r...)); e != api.OK || !slices.Equal(b, rowsOf(x.want...)) {
			t.Errorf("row %v: %v, %v, wanted rows %v", x.r, b, e, x.want)
		}
		if b, e := lift.Back(turned(above(x.r...))); e != api.OK || !slices.Equal(b, turned(rowsOf(x.want...))) {
			t.Errorf("column %v: %v, %v, wanted columns %v", x.r, b, e, x.want)
		}
	}
}

func TestBackByTheWords(t *testing.T) {
	for _, n := range sides {
		blocks := append(samples(n, mostChanged), samples(n, most)...)
		blocks = append(blocks, alone(n, 1, -1, 2, -2, 3, -3, 5, -5, most+1, -most-1, mostChanged, -mostChanged, mostChanged-1, 1-mostChanged)...)
		for _, b := range blocks {
			if x, e := lift.Back(b); e != api.OK || !slices.Equal(x, wantBack(b)) {
				t.Fatalf("Back(%v): %v, %v, wanted %v", b, x, e, wantBack(b))
			}
		}
	}
}

// What may be.

func TestRowsThatAreNoBlocksAreRefused(t *testing.T) {
	for _, n := range wrongLengths() {
		b := make([]int, n)
		if x, e := lift.Forward(b); e != api.ErrArg || len(x) != 0 {
			t.Errorf("Forward of %d numbers: %v, %v", n, x, e)
		}
		if x, e := lift.Back(b); e != api.ErrArg || len(x) != 0 {
			t.Errorf("Back of %d numbers: %v, %v", n, x, e)
		}
		if x := lift.Sort(b); len(x) != 0 {
			t.Errorf("Sort of %d numbers: %v", n, x)
		}
		if x := lift.Unsort(b); len(x) != 0 {
			t.Errorf("Unsort of %d numbers: %v", n, x)
		}
	}
	if x, e := lift.Forward(nil); e != api.ErrArg || len(x) != 0 {
		t.Errorf("Forward(nil): %v, %v", x, e)
	}
	if x, e := lift.Back(nil); e != api.ErrArg || len(x) != 0 {
		t.Errorf("Back(nil): %v, %v", x, e)
	}
	if len(lift.Sort(nil)) != 0 || len(lift.Unsort(nil)) != 0 {
		t.Error("nil is sorted")
	}
	if _, e := lift.Forward([]int{math.MaxInt}); e != api.ErrArg {
		t.Errorf("neither a block nor a number of one: %v", e)
	}
}

// A row goes by its length, whatever lies behind it.
func TestBlocksGoByLengthAlone(t *testing.T) {
	memory := make([]int, 100)
	memory[64], memory[16] = math.MaxInt, math.MinInt
	for _, n := range []int{15, 17, 63, 65} {
		if _, e := lift.Forward(memory[:n]); e != api.ErrArg {
			t.Errorf("Forward of %d numbers: %v", n, e)
		}
	}
	if x, e := lift.Forward(memory[:16]); e != api.OK || len(x) != 16 {
		t.Errorf("16 numbers with memory behind: %v, %v", x, e)
	}
	memory[16] = 0
	if x, e := lift.Back(memory[:64]); e != api.OK || len(x) != 64 {
		t.Errorf("64 numbers with memory behind: %v, %v", x, e)
	}
}

func TestForwardOfNumbersAtTheEnds(t *testing.T) {
	for _, n := range sides {
		for place := range n * n {
			for _, v := range []int{most, most - 1, -most, 1 - most} {
				b := make([]int, n*n)
				b[place] = v
				if _, e := lift.Forward(b); e != api.OK {
					t.Errorf("%d at %d of %d: %v", v, place, n*n, e)
				}
			}
			for _, v := range tooFar(most) {
				b := make([]int, n*n)
				b[place] = v
				if x, e := lift.Forward(b); e != api.ErrArg || len(x) != 0 {
					t.Errorf("%d at %d of %d: %v, %v", v, place, n*n, x, e)
				}
			}
		}
	}
}

func TestBackOfNumbersAtTheEnds(t *testing.T) {
	for _, n := range sides {
		for place := range n * n {
			for _, v := range []int{most, most + 1, -most, -most - 1, mostChanged, mostChanged - 1, -mostChanged, 1 - mostChanged} {
				b := make([]int, n*n)
				b[place] = v
				if _, e := lift.Back(b); e != api.OK {
					t.Errorf("%d at %d of %d: %v", v, place, n*n, e)
				}
			}
			for _, v := range tooFar(mostChanged) {
				b := make([]int, n*n)
				b[place] = v
				if x, e := lift.Back(b); e != api.ErrArg || len(x) != 0 {
					t.Errorf("%d at %d of %d: %v, %v", v, place, n*n, x, e)
				}
			}
		}
	}
}

// A number that may not be counts, however many others are as wrong.
func TestBlocksOfNumbersThatMayNotBe(t *testing.T) {
	for _, n := range sides {
		for _, v := range tooFar(most) {
			if x, e := lift.Forward(slices.Repeat([]int{v}, n*n)); e != api.ErrArg || len(x) != 0 {
				t.Errorf("Forward of %d times %d: %v, %v", n*n, v, x, e)
			}
		}
		for _, v := range tooFar(mostChanged) {
			if x, e := lift.Back(slices.Repeat([]int{v}, n*n)); e != api.ErrArg || len(x) != 0 {
				t.Errorf("Back of %d times %d: %v, %v", n*n, v, x, e)
			}
		}
	}
}

// Order.

func TestOrderOfFour(t *testing.T) {
	want := []int{0, 1, 4, 2, 5, 8, 3, 6, 9, 12, 7, 10, 13, 11, 14, 15}
	if l := lift.Order(4); !slices.Equal(l, want) {
		t.Errorf("%v", l)
	}
}

func TestOrderOfEight(t *testing.T) {
	want := []int{
		0,
		1, 8,
		2, 9, 16,
		3, 10, 17, 24,
		4, 11, 18, 25, 32,
		5, 12, 19, 26, 33, 40,
		6, 13, 20, 27, 34, 41, 48,
		7, 14, 21, 28, 35, 42, 49, 56,
		15, 22, 29, 36, 43, 50, 57,
		23, 30, 37, 44, 51, 58,
		31, 38, 45, 52, 59,
		39, 46, 53, 60,
		47, 54, 61,
		55, 62,
		63,
	}
	if l := lift.Order(8); !slices.Equal(l, want) {
		t.Errorf("%v", l)
	}
}

func TestOrderIsThatOfTheWords(t *testing.T) {
	for _, n := range sides {
		l := lift.Order(n)
		for i := 1; i < len(l); i++ {
			x, y, nextX, nextY := l[i-1]%n, l[i-1]/n, l[i]%n, l[i]/n
			if x+y > nextX+nextY || x+y == nextX+nextY && y >= nextY {
				t.Errorf("%d by %d: %d comes ahead of %d", n, n, l[i-1], l[i])
			}
		}
		slices.Sort(l)
		for i, place := range l {
			if i != place {
				t.Fatalf("%d by %d: not each place once", n, n)
			}
		}
		if len(l) != n*n {
			t.Errorf("%d by %d: %d places", n, n, len(l))
		}
	}
}

func TestOrderOfOtherSizesIsNothing(t *testing.T) {
	l := []int{math.MinInt, math.MinInt + 4, math.MinInt + 8, -1 << 32, -16, -8, -4, -2, -1, 1 << 32, 1<<32 + 4, 1<<32 + 8, 1 << 62, 1<<62 + 4, math.MaxInt - 1, math.MaxInt}
	for n := range 300 {
		if n != 4 && n != 8 {
			l = append(l, n)
		}
	}
	for _, n := range l {
		if x := lift.Order(n); len(x) != 0 {
			t.Errorf("Order(%d): %d places", n, len(x))
		}
	}
}

// Sort and Unsort.

func TestSortAndUnsortByTheOrder(t *testing.T) {
	for _, n := range sides {
		places := make([]int, n*n)
		for i := range places {
			places[i] = i
		}
		if l := lift.Sort(places); !slices.Equal(l, lift.Order(n)) {
			t.Errorf("Sort of the places: %v", l)
		}
		if b := lift.Unsort(lift.Order(n)); !slices.Equal(b, places) {
			t.Errorf("Unsort of the order: %v", b)
		}
	}
	b := []int{10, 11, 12, 13, 20, 21, 22, 23, 30, 31, 32, 33, 40, 41, 42, 43}
	if l := lift.Sort(b); !slices.Equal(l, []int{10, 11, 20, 12, 21, 30, 13, 22, 31, 40, 23, 32, 41, 33, 42, 43}) {
		t.Errorf("Sort: %v", l)
	}
	if l := lift.Unsort(b); !slices.Equal(l, []int{10, 11, 13, 22, 12, 20, 23, 32, 21, 30, 33, 41, 31, 40, 42, 43}) {
		t.Errorf("Unsort: %v", l)
	}
}

// The two ask nothing of the numbers but how many there are.
func TestSortAndUnsortAgainstEachOther(t *testing.T) {
	s := series(7)
	for _, n := range sides {
		order := lift.Order(n)
		for range 200 {
			b := make([]int, n*n)
			for i := range b {
				b[i] = int(s.next())
			}
			b[s.next()%uint64(n*n)], b[s.next()%uint64(n*n)] = math.MinInt, math.MaxInt
			l, u := lift.Sort(b), lift.Unsort(b)
			if len(l) != n*n || len(u) != n*n {
				t.Fatalf("%d numbers: Sort has %d, Unsort %d", n*n, len(l), len(u))
			}
			for i, place := range order {
				if l[i] != b[place] || u[place] != b[i] {
					t.Fatalf("%v: Sort %v, Unsort %v", b, l, u)
				}
			}
			if !slices.Equal(lift.Unsort(l), b) || !slices.Equal(lift.Sort(u), b) {
				t.Fatalf("not taken back: %v", b)
			}
		}
	}
}

// P7.2: to the last bit.

func TestBackOfForwardIsTheBlock(t *testing.T) {
	for _, n := range sides {
		for _, b := range append(samples(n, most), alone(n, 1, -1, 77, -77, most, -most)...) {
			x, e := lift.Forward(b)
			if e != api.OK {
				t.Fatalf("Forward(%v): %v", b, e)
			}
			if y, e := lift.Back(x); e != api.OK || !slices.Equal(y, b) {
				t.Fatalf("Back(%v): %v, %v, wanted %v", x, y, e, b)
			}
		}
	}
}

// Where what is taken back has a number that a block may not have, it is no block, and there is no transform of it.
func TestForwardOfBackIsWhatWasThere(t *testing.T) {
	for _, n := range sides {
		whole, refused := 0, 0
		for _, far := range []int{1 << 8, 1 << 16, most, mostChanged} {
			for _, x := range append(samples(n, far), alone(n, 1, -1, 77, -77, far, -far)...) {
				b, e := lift.Back(x)
				if e != api.OK {
					t.Fatalf("Back(%v): %v", x, e)
				}
				y, e := lift.Forward(b)
				if !isWithin(b, most) {
					refused++
					if e != api.ErrArg || len(y) != 0 {
						t.Fatalf("Forward(%v): %v, %v", b, y, e)
					}
					continue
				}
				whole++
				if e != api.OK || !slices.Equal(y, x) {
					t.Fatalf("Forward(%v): %v, %v, wanted %v", b, y, e, x)
				}
			}
		}
		if whole < 1000 || refused < 100 {
			t.Errorf("%d by %d: only %d went there and back, and %d were refused", n, n, whole, refused)
		}
	}
}

// P7.3: a flat one.

func TestABlockOfOneNumber(t *testing.T) {
	values := []int{most, most - 1, -most, 1 - most, 1 << 16, -1 << 16, 12345, -12345}
	for v := -300; v <= 300; v++ {
		values = append(values, v)
	}
	for _, n := range sides {
		for _, v := range values {
			flat := slices.Repeat([]int{v}, n*n)
			first := make([]int, n*n)
			first[0] = v
			if x, e := lift.Forward(flat); e != api.OK || !slices.Equal(x, first) {
				t.Errorf("Forward of %d times %d: %v, %v", n*n, v, x, e)
			}
			if b, e := lift.Back(first); e != api.OK || !slices.Equal(b, flat) {
				t.Errorf("Back of %d, and %d times 0: %v, %v", v, n*n-1, b, e)
			}
		}
	}
}

// What is handed in, and what is answered.

func calls() map[string]func(b []int) []int {
	return map[string]func(b []int) []int{
		"Forward": func(b []int) []int { x, _ := lift.Forward(b); return x },
		"Back":    func(b []int) []int { x, _ := lift.Back(b); return x },
		"Sort":    lift.Sort,
		"Unsort":  lift.Unsort,
	}
}

func TestTheRowHandedInIsAsItWas(t *testing.T) {
	s := series(11)
	for name, call := range calls() {
		for _, n := range []int{16, 64, 0, 15, 17, 63, 65} {
			memory := mixed(&s, n+80, most)
			was := slices.Clone(memory)
			call(memory[:n])
			if !slices.Equal(memory, was) {
				t.Errorf("%s of %d numbers: written into", name, n)
			}
		}
		for _, n := range []int{16, 64} {
			memory := mixed(&s, n+80, most)
			memory[n-1] = math.MaxInt
			was := slices.Clone(memory)
			call(memory[:n])
			if !slices.Equal(memory, was) {
				t.Errorf("%s of %d numbers, one too great: written into", name, n)
			}
		}
	}
}

func TestAnswersAreNewMemory(t *testing.T) {
	s := series(13)
	for name, call := range calls() {
		for _, n := range []int{16, 64} {
			memory := mixed(&s, n+80, most)
			was := slices.Clone(memory)
			x := call(memory[:n])
			wanted := slices.Clone(x)
			full := x[:cap(x)]
			for i := range full {
				full[i]++
			}
			if !slices.Equal(memory, was) {
				t.Errorf("%s of %d numbers shares their memory", name, n)
			}
			if y := call(memory[:n]); !slices.Equal(y, wanted) {
				t.Errorf("%s of %d numbers keeps what it answered", name, n)
			}
			for i := range memory {
				memory[i] = 3
			}
			if y := call(was[:n]); !slices.Equal(y, wanted) {
				t.Errorf("%s of %d numbers keeps what it was handed", name, n)
			}
		}
	}
	for _, n := range sides {
		l := lift.Order(n)
		was := slices.Clone(l)
		clear(l[:cap(l)])
		if !slices.Equal(lift.Order(n), was) {
			t.Errorf("Order(%d) is handed out itself", n)
		}
	}
}

// What a call answers hangs on nothing that was ahead of it.
func TestAnswersHangOnTheRowAlone(t *testing.T) {
	s := series(17)
	for name, call := range calls() {
		small, great := mixed(&s, 16, most), mixed(&s, 64, most)
		first, second := call(small), call(great)
		call(slices.Repeat([]int{most}, 64))
		call(make([]int, 15))
		call(slices.Repeat([]int{math.MinInt}, 16))
		if !slices.Equal(call(small), first) || !slices.Equal(call(great), second) {
			t.Errorf("%s answers otherwise later", name)
		}
	}
}
