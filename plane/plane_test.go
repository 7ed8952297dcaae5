package plane_test

import (
	"bytes"
	"math"
	"math/big"
	"slices"
	"testing"

	"kinora/api"
	"kinora/plane"
)

// The tests hold the package against the chapter's words themselves: places are numbers of any size (math/big), so that they don't wrap round, and each sample is asked for by its place alone.

// series is a row of numbers that is the same in every run.
type series uint64

func (s *series) next() uint64 {
	*s += 0x9E3779B97F4A7C15
	x := uint64(*s)
	x = (x ^ x>>30) * 0xBF58476D1CE4E5B9
	x = (x ^ x>>27) * 0x94D049BB133111EB
	return x ^ x>>31
}

// mixed are so many samples, each with whatever value.
func mixed(n int) []byte {
	s := series(n)
	b := make([]byte, n)
	for i := range b {
		b[i] = byte(s.next())
	}
	return b
}

func mixedPlane(w, h int) api.Plane { return api.Plane{W: w, H: h, Pix: mixed(w * h)} }

// mixedFrame is a right frame whose planes have nothing in common, if its sides are right.
func mixedFrame(w, h int) api.Frame {
	pix := mixed(w*h + 2*(w/2)*(h/2))
	u, v := w*h, w*h+(w/2)*(h/2)
	return api.Frame{
		Y: api.Plane{W: w, H: h, Pix: slices.Clone(pix[:u])},
		U: api.Plane{W: w / 2, H: h / 2, Pix: slices.Clone(pix[u:v])},
		V: api.Plane{W: w / 2, H: h / 2, Pix: slices.Clone(pix[v:])},
	}
}

// even is a plane of one sample, by hand.
func even(w, h int, v byte) api.Plane {
	return api.Plane{W: w, H: h, Pix: bytes.Repeat([]byte{v}, w*h)}
}

func samePlane(a, b api.Plane) bool {
	return a.W == b.W && a.H == b.H && bytes.Equal(a.Pix, b.Pix)
}

func sameFrame(a, b api.Frame) bool {
	return samePlane(a.Y, b.Y) && samePlane(a.U, b.U) && samePlane(a.V, b.V)
}

func isNoPlane(p api.Plane) bool { return p.W == 0 && p.H == 0 && len(p.Pix) == 0 }

func isNoFrame(f api.Frame) bool { return isNoPlane(f.Y) && isNoPlane(f.U) && isNoPlane(f.V) }

// place is x + i, which does not wrap round: the nearest column (or row) of so many, and whether it is one of them itself.
func place(x, i, side int) (int, bool) {
	v := big.NewInt(int64(x))
	v.Add(v, big.NewInt(int64(i)))
	if v.Sign() < 0 {
		return 0, false
	}
	if v.Cmp(big.NewInt(int64(side))) >= 0 {
		return side - 1, false
	}
	return int(v.Int64()), true
}

// wantBlock are the samples of a square by the words.
func wantBlock(p api.Plane, x, y, n int) []byte {
	columns := make([]int, n)
	for i := range columns {
		columns[i], _ = place(x, i, p.W)
	}
	b := []byte{}
	for i := range n {
		r, _ := place(y, i, p.H)
		for _, c := range columns {
			b = append(b, p.Pix[r*p.W+c])
		}
	}
	return b
}

// wantLay is a plane with a square's samples by the words.
func wantLay(p api.Plane, x, y, n int, b []byte) api.Plane {
	q := api.Plane{W: p.W, H: p.H, Pix: slices.Clone(p.Pix)}
	for i := range n {
		r, ok := place(y, i, p.H)
		if !ok {
			continue
		}
		for j := range n {
			if c, ok := place(x, j, p.W); ok {
				q.Pix[r*p.W+c] = b[i*n+j]
			}
		}
	}
	return q
}

// planes are right ones, from one sample on, some narrower and some wider than any block.
func planes() []api.Plane {
	return []api.Plane{mixedPlane(1, 1), mixedPlane(1, 7), mixedPlane(7, 1), mixedPlane(5, 3), mixedPlane(16, 16), mixedPlane(70, 66)}
}

// wrongPlanes are not right.
func wrongPlanes() map[string]api.Plane {
	return map[string]api.Plane{
		"nothing":                 {},
		"no samples":              {W: 4, H: 4},
		"no width":                {W: 0, H: 4},
		"no height":               {W: 4, H: 0},
		"no sides, a sample":      {Pix: []byte{1}},
		"one sample too few":      {W: 4, H: 4, Pix: mixed(15)},
		"one sample too many":     {W: 4, H: 4, Pix: mixed(17)},
		"too few behind a length": {W: 4, H: 4, Pix: mixed(16)[:15]},
		"below 0":                 {W: -1, H: -1, Pix: mixed(1)},
		"both below 0":            {W: -4, H: -4, Pix: mixed(16)},
		"width below 0":           {W: -4, H: 4, Pix: mixed(16)},
		"height below 0":          {W: 4, H: -4, Pix: mixed(16)},
		"too wide":                {W: 4097, H: 1, Pix: mixed(4097)},
		"too high":                {W: 1, H: 4097, Pix: mixed(4097)},
		"too wide, even":          {W: 4098, H: 2, Pix: mixed(8196)},
		"too high, even":          {W: 2, H: 4112, Pix: mixed(8224)},
		"a product of 0":          {W: 1 << 32, H: 1 << 32},
		"a product of 16":         {W: 1<<60 + 1, H: 16, Pix: mixed(16)},
		"the least":               {W: math.MinInt, H: math.MinInt},
		"the least and 2":         {W: math.MinInt, H: 2},
		"the greatest":            {W: math.MaxInt, H: math.MaxInt, Pix: mixed(1)},
	}
}

var wrongBlocks = []int{0, -1, -2, -8, -64, math.MinInt, math.MinInt + 1, 65, 66, 100, 128, 256, 1 << 16, 1 << 32, 1<<32 + 1, math.MaxInt - 1, math.MaxInt}

// starts are places from which a block of n is inside, across an edge, or outside of a side, near and far.
func starts(side, n int) []int {
	l := []int{
		math.MinInt, math.MinInt + 1, math.MinInt + n, -1 << 62, -1 << 32, -1<<32 + 1, -5000, -4097, -4096, -65, -64, -63, -n - 1, -n, -n + 1, -2, -1,
		0, 1, 2, side/2 - n/2, side - n - 1, side - n, side - n + 1, side - 2, side - 1, side, side + 1, side + n,
		63, 64, 65, 4095, 4096, 4097, 5000, 1<<32 - 1, 1 << 32, 1 << 62, math.MaxInt - 64, math.MaxInt - 63, math.MaxInt - n, math.MaxInt - n + 1, math.MaxInt - 1, math.MaxInt,
	}
	slices.Sort(l)
	return slices.Compact(l)
}

// P6.1, N1: New and Right.

func TestNewIsAPlaneOfOneSample(t *testing.T) {
	for _, s := range [][2]int{{1, 1}, {1, 2}, {2, 1}, {3, 5}, {17, 4}, {64, 65}, {1, 4095}, {1, 4096}, {4096, 1}, {4095, 3}, {4096, 4096}} {
		for _, v := range []byte{0, 1, 127, 128, 255} {
			p, e := plane.New(s[0], s[1], v)
			if e != api.OK || !samePlane(p, even(s[0], s[1], v)) {
				t.Errorf("New(%d, %d, %d): %d by %d, %d samples, %v", s[0], s[1], v, p.W, p.H, len(p.Pix), e)
			}
			if !plane.Right(p) {
				t.Errorf("New(%d, %d, %d) is not right", s[0], s[1], v)
			}
		}
	}
}

func TestNewRefusesSidesThatMayNotBe(t *testing.T) {
	wrong := []int{0, -1, -2, -16, -4096, math.MinInt, math.MinInt + 1, 4097, 4098, 4112, 8192, 1 << 16, 1 << 32, 1<<32 + 1, 1 << 62, math.MaxInt}
	for _, side := range wrong {
		for _, other := range append([]int{1, 2, 16, 4096}, wrong...) {
			for _, s := range [][2]int{{side, other}, {other, side}} {
				if p, e := plane.New(s[0], s[1], 7); e != api.ErrPlane || !isNoPlane(p) {
					t.Errorf("New(%d, %d): %d by %d, %v", s[0], s[1], p.W, p.H, e)
				}
			}
		}
	}
}

func TestNewIsAnotherOneEachTime(t *testing.T) {
	a, _ := plane.New(3, 2, 9)
	b, _ := plane.New(3, 2, 9)
	a.Pix[0] = 1
	if b.Pix[0] != 9 {
		t.Error("two planes share their samples")
	}
}

func TestRightIsWithJustItsSamples(t *testing.T) {
	for _, p := range planes() {
		if !plane.Right(p) {
			t.Errorf("%d by %d, %d samples", p.W, p.H, len(p.Pix))
		}
	}
	for _, s := range [][2]int{{1, 4096}, {4096, 1}, {4096, 4096}, {4095, 2}} {
		for more := -1; more <= 1; more++ {
			p := api.Plane{W: s[0], H: s[1], Pix: make([]byte, s[0]*s[1]+more)}
			if plane.Right(p) != (more == 0) {
				t.Errorf("%d by %d, %d samples: %v", p.W, p.H, len(p.Pix), plane.Right(p))
			}
		}
	}
	for name, p := range wrongPlanes() {
		if plane.Right(p) {
			t.Errorf("right: %s", name)
		}
	}
}

// What lies behind a list's length counts neither for a plane nor against it.
func TestRightGoesByLengthAlone(t *testing.T) {
	pix := mixed(20)
	if !plane.Right(api.Plane{W: 4, H: 4, Pix: pix[:16]}) {
		t.Error("16 samples with memory behind")
	}
	if plane.Right(api.Plane{W: 5, H: 4, Pix: pix[:16]}) {
		t.Error("16 samples of 20")
	}
}

// At.

func TestAtIsTheNearestSample(t *testing.T) {
	for _, p := range append(planes(), mixedPlane(4096, 2), mixedPlane(3, 4096)) {
		for _, x := range starts(p.W, 1) {
			for _, y := range starts(p.H, 1) {
				c, _ := place(x, 0, p.W)
				r, _ := place(y, 0, p.H)
				if v := plane.At(p, x, y); v != p.Pix[r*p.W+c] {
					t.Fatalf("%d by %d, At(%d, %d): %d, wanted %d", p.W, p.H, x, y, v, p.Pix[r*p.W+c])
				}
			}
		}
	}
}

func TestAtInsideAtEdgesAndCornersAndFarOutside(t *testing.T) {
	p := api.Plane{W: 3, H: 2, Pix: []byte{10, 20, 30, 40, 50, 60}}
	for _, x := range []struct {
		x, y int
		want byte
	}{
		{0, 0, 10}, {1, 0, 20}, {2, 0, 30}, {0, 1, 40}, {1, 1, 50}, {2, 1, 60},
		{-1, 0, 10}, {-1, 1, 40}, {3, 0, 30}, {3, 1, 60}, {1, -1, 20}, {1, 2, 50},
		{-1, -1, 10}, {3, -1, 30}, {-1, 2, 40}, {3, 2, 60},
		{math.MinInt, math.MinInt, 10}, {math.MaxInt, math.MinInt, 30}, {math.MinInt, math.MaxInt, 40}, {math.MaxInt, math.MaxInt, 60},
		{1, math.MinInt, 20}, {1, math.MaxInt, 50}, {math.MinInt, 1, 40}, {math.MaxInt, 0, 30},
	} {
		if v := plane.At(p, x.x, x.y); v != x.want {
			t.Errorf("At(%d, %d): %d, wanted %d", x.x, x.y, v, x.want)
		}
	}
}

func TestAtOfWhatIsNotRightIsNothing(t *testing.T) {
	for name, p := range wrongPlanes() {
		for _, x := range []int{0, 1, -1, math.MinInt, math.MaxInt} {
			if v := plane.At(p, x, 0); v != 0 {
				t.Errorf("%s: At(%d, 0): %d", name, x, v)
			}
			if v := plane.At(p, 0, x); v != 0 {
				t.Errorf("%s: At(0, %d): %d", name, x, v)
			}
		}
	}
}

// Block.

func TestBlockHasItsSamplesRowByRow(t *testing.T) {
	p := api.Plane{W: 4, H: 3, Pix: []byte{1, 2, 3, 4, 5, 6, 7, 8, 9, 10, 11, 12}}
	for _, x := range []struct {
		x, y, n int
		want    []byte
	}{
		{2, 1, 1, []byte{7}},
		{1, 1, 2, []byte{6, 7, 10, 11}},
		{-1, 1, 2, []byte{5, 5, 9, 9}},
		{3, 0, 2, []byte{4, 4, 8, 8}},
		{1, -1, 2, []byte{2, 3, 2, 3}},
		{1, 2, 2, []byte{10, 11, 10, 11}},
		{-1, -1, 3, []byte{1, 1, 2, 1, 1, 2, 5, 5, 6}},
		{2, 1, 3, []byte{7, 8, 8, 11, 12, 12, 11, 12, 12}},
		{9, 1, 2, []byte{8, 8, 12, 12}},
		{-9, 1, 2, []byte{5, 5, 9, 9}},
		{1, 9, 2, []byte{10, 11, 10, 11}},
		{1, -9, 2, []byte{2, 3, 2, 3}},
		{math.MaxInt, math.MinInt, 2, []byte{4, 4, 4, 4}},
		{math.MaxInt, 1, 2, []byte{8, 8, 12, 12}},
		{1, math.MaxInt, 2, []byte{10, 11, 10, 11}},
	} {
		if b := plane.Block(p, x.x, x.y, x.n); !bytes.Equal(b, x.want) {
			t.Errorf("Block(%d, %d, %d): %v, wanted %v", x.x, x.y, x.n, b, x.want)
		}
	}
}

// eachSquare goes through blocks of 1 to 64, each from everywhere.
func eachSquare(p api.Plane, do func(x, y, n int)) {
	for n := 1; n <= 64; n++ {
		columns, rows := starts(p.W, n), starts(p.H, n)
		if n > 3 && n < 63 && n%16 != 0 {
			// Of these sizes each start in x meets three in y, and the other way round.
			for i, x := range columns {
				for k := range 3 {
					do(x, rows[(i*3+k*7+n)%len(rows)], n)
				}
			}
			for i, y := range rows {
				for k := range 3 {
					do(columns[(i*5+k*11+n)%len(columns)], y, n)
				}
			}
			continue
		}
		for _, x := range columns {
			for _, y := range rows {
				do(x, y, n)
			}
		}
	}
}

func TestBlockEverywhere(t *testing.T) {
	for _, p := range planes() {
		was := slices.Clone(p.Pix)
		eachSquare(p, func(x, y, n int) {
			if b := plane.Block(p, x, y, n); !bytes.Equal(b, wantBlock(p, x, y, n)) {
				t.Fatalf("%d by %d, Block(%d, %d, %d): %v", p.W, p.H, x, y, n, b)
			}
		})
		if !bytes.Equal(p.Pix, was) {
			t.Errorf("%d by %d was written into", p.W, p.H)
		}
	}
}

func TestBlockOfTheGreatestSides(t *testing.T) {
	for _, p := range []api.Plane{mixedPlane(4096, 3), mixedPlane(3, 4096)} {
		for _, n := range []int{1, 2, 63, 64} {
			for _, x := range starts(p.W, n) {
				for _, y := range starts(p.H, n) {
					if b := plane.Block(p, x, y, n); !bytes.Equal(b, wantBlock(p, x, y, n)) {
						t.Fatalf("%d by %d, Block(%d, %d, %d): %v", p.W, p.H, x, y, n, b)
					}
				}
			}
		}
	}
}

func TestBlockIsNothingOfWrongSizesAndPlanes(t *testing.T) {
	for _, n := range wrongBlocks {
		for _, x := range []int{0, -1, 70, math.MinInt, math.MaxInt} {
			if b := plane.Block(mixedPlane(70, 66), x, x, n); len(b) != 0 {
				t.Errorf("Block(%d, %d, %d): %d samples", x, x, n, len(b))
			}
		}
	}
	for name, p := range wrongPlanes() {
		for _, n := range []int{1, 2, 4, 64} {
			for _, x := range []int{0, -1, math.MinInt, math.MaxInt} {
				if b := plane.Block(p, x, 0, n); len(b) != 0 {
					t.Errorf("%s: Block(%d, 0, %d): %d samples", name, x, n, len(b))
				}
			}
		}
	}
}

func TestBlockIsNewMemory(t *testing.T) {
	p := mixedPlane(16, 16)
	was := slices.Clone(p.Pix)
	for _, s := range [][3]int{{0, 0, 16}, {0, 4, 1}, {3, 3, 4}, {-1, 0, 4}} {
		b := plane.Block(p, s[0], s[1], s[2])
		full := b[:cap(b)]
		for i := range full {
			full[i]++
		}
		if !bytes.Equal(p.Pix, was) {
			t.Fatalf("Block%v shares the plane's samples", s)
		}
	}
}

// Lay.

func TestLayLeavesOutWhatWouldBeOutside(t *testing.T) {
	p := api.Plane{W: 4, H: 3, Pix: []byte{1, 2, 3, 4, 5, 6, 7, 8, 9, 10, 11, 12}}
	b := []byte{90, 91, 92, 93}
	for _, x := range []struct {
		x, y int
		want []byte
	}{
		{1, 1, []byte{1, 2, 3, 4, 5, 90, 91, 8, 9, 92, 93, 12}},
		{-1, 1, []byte{1, 2, 3, 4, 91, 6, 7, 8, 93, 10, 11, 12}},
		{3, 0, []byte{1, 2, 3, 90, 5, 6, 7, 92, 9, 10, 11, 12}},
		{1, -1, []byte{1, 92, 93, 4, 5, 6, 7, 8, 9, 10, 11, 12}},
		{1, 2, []byte{1, 2, 3, 4, 5, 6, 7, 8, 9, 90, 91, 12}},
		{-1, -1, []byte{93, 2, 3, 4, 5, 6, 7, 8, 9, 10, 11, 12}},
		{3, 2, []byte{1, 2, 3, 4, 5, 6, 7, 8, 9, 10, 11, 90}},
		{-2, 0, p.Pix}, {4, 0, p.Pix}, {0, -2, p.Pix}, {0, 3, p.Pix},
		{math.MaxInt, 0, p.Pix}, {0, math.MaxInt, p.Pix}, {math.MinInt, 0, p.Pix}, {0, math.MinInt, p.Pix},
	} {
		q, e := plane.Lay(p, x.x, x.y, 2, b)
		if e != api.OK || !samePlane(q, api.Plane{W: 4, H: 3, Pix: x.want}) {
			t.Errorf("Lay(%d, %d): %v, %v, wanted %v", x.x, x.y, q, e, x.want)
		}
	}
}

func TestLayEverywhere(t *testing.T) {
	for _, p := range planes() {
		was := slices.Clone(p.Pix)
		blocks := map[int][]byte{}
		for n := 1; n <= 64; n++ {
			blocks[n] = mixed(n*n + n)[n:]
		}
		eachSquare(p, func(x, y, n int) {
			b := slices.Clone(blocks[n])
			q, e := plane.Lay(p, x, y, n, b)
			if e != api.OK || !samePlane(q, wantLay(p, x, y, n, b)) {
				t.Fatalf("%d by %d, Lay(%d, %d, %d): %v, %v", p.W, p.H, x, y, n, q, e)
			}
			if !bytes.Equal(b, blocks[n]) || !bytes.Equal(p.Pix, was) {
				t.Fatalf("%d by %d, Lay(%d, %d, %d) wrote into what was handed in", p.W, p.H, x, y, n)
			}
		})
	}
}

func TestLayOnTheGreatestSides(t *testing.T) {
	for _, p := range []api.Plane{mixedPlane(4096, 2), mixedPlane(2, 4096)} {
		for _, n := range []int{1, 64} {
			b := mixed(n * n)
			for _, x := range starts(p.W, n) {
				for _, y := range []int{-n, 1 - n, -1, 0, 1, p.H - n, p.H - 1, p.H, math.MinInt, math.MaxInt} {
					if q, e := plane.Lay(p, x, y, n, b); e != api.OK || !samePlane(q, wantLay(p, x, y, n, b)) {
						t.Fatalf("%d by %d, Lay(%d, %d, %d): %v", p.W, p.H, x, y, n, e)
					}
				}
			}
		}
	}
}

func TestLayRefusesWrongSizes(t *testing.T) {
	p := mixedPlane(70, 66)
	was := slices.Clone(p.Pix)
	for _, n := range wrongBlocks {
		for _, count := range []int{0, 1, 4, 65 * 65} {
			if q, e := plane.Lay(p, 0, 0, n, mixed(count)); e != api.ErrArg || !isNoPlane(q) {
				t.Errorf("n %d, %d samples: %v", n, count, e)
			}
		}
	}
	// -2 and -64 have as many samples as 2 and 64, and 2^32 wraps round to none.
	for _, x := range [][2]int{{-2, 4}, {-64, 4096}, {-1, 1}, {1 << 32, 0}, {1<<32 + 1, 1<<17 + 1}} {
		if q, e := plane.Lay(p, 0, 0, x[0], make([]byte, x[1])); e != api.ErrArg || !isNoPlane(q) {
			t.Errorf("n %d, %d samples: %v", x[0], x[1], e)
		}
	}
	for n := 1; n <= 64; n++ {
		for _, count := range []int{0, n*n - 1, n*n + 1, 2 * n * n} {
			if count == n*n {
				continue
			}
			if q, e := plane.Lay(p, 0, 0, n, mixed(count)); e != api.ErrArg || !isNoPlane(q) {
				t.Errorf("n %d, %d samples: %v", n, count, e)
			}
		}
		if q, e := plane.Lay(p, 0, 0, n, nil); e != api.ErrArg || !isNoPlane(q) {
			t.Errorf("n %d, nil: %v", n, e)
		}
		if q, e := plane.Lay(p, 0, 0, n, mixed(n * n)[:n*n-1]); e != api.ErrArg || !isNoPlane(q) {
			t.Errorf("n %d, one sample too few ahead of memory: %v", n, e)
		}
	}
	if !bytes.Equal(p.Pix, was) {
		t.Error("the plane was written into")
	}
}

func TestLayRefusesWrongPlanes(t *testing.T) {
	for name, p := range wrongPlanes() {
		for _, n := range []int{1, 2, 64} {
			if q, e := plane.Lay(p, 0, 0, n, mixed(n*n)); e != api.ErrPlane || !isNoPlane(q) {
				t.Errorf("%s, n %d: %v", name, n, e)
			}
		}
		// The size is named ahead of the plane.
		if q, e := plane.Lay(p, 0, 0, 2, mixed(3)); e != api.ErrArg || !isNoPlane(q) {
			t.Errorf("%s, with too few samples: %v", name, e)
		}
		if q, e := plane.Lay(p, 0, 0, 65, mixed(65*65)); e != api.ErrArg || !isNoPlane(q) {
			t.Errorf("%s, with 65: %v", name, e)
		}
	}
}

func TestLayIsNewMemory(t *testing.T) {
	p, b := mixedPlane(8, 8), mixed(64)
	was, block := slices.Clone(p.Pix), slices.Clone(b)
	for _, x := range []int{0, 3, -9, 8, math.MaxInt} {
		q, e := plane.Lay(p, x, 0, 8, b)
		if e != api.OK {
			t.Fatalf("Lay: %v", e)
		}
		full := q.Pix[:cap(q.Pix)]
		for i := range full {
			full[i]++
		}
		if !bytes.Equal(p.Pix, was) || !bytes.Equal(b, block) {
			t.Fatalf("Lay(%d, 0) shares memory with what was handed in", x)
		}
	}
}

// P6.2: what is laid is there, and all else stays.
func TestWhatIsLaidIsThere(t *testing.T) {
	for _, p := range []api.Plane{mixedPlane(1, 1), mixedPlane(9, 5), mixedPlane(16, 16), mixedPlane(70, 66)} {
		for n := 1; n <= min(p.W, p.H, 64); n++ {
			b := mixed(n*n + 1)[1:]
			for _, x := range []int{0, 1, (p.W - n) / 2, p.W - n - 1, p.W - n} {
				for _, y := range []int{0, 1, (p.H - n) / 2, p.H - n - 1, p.H - n} {
					if x < 0 || y < 0 || x > p.W-n || y > p.H-n {
						continue
					}
					laidIsThere(t, p, x, y, n, b)
				}
			}
		}
	}
}

func laidIsThere(t *testing.T, p api.Plane, x, y, n int, b []byte) {
	t.Helper()
	q, e := plane.Lay(p, x, y, n, b)
	if e != api.OK || q.W != p.W || q.H != p.H {
		t.Fatalf("%d by %d, Lay(%d, %d, %d): %v", p.W, p.H, x, y, n, e)
	}
	if got := plane.Block(q, x, y, n); !bytes.Equal(got, b) {
		t.Fatalf("%d by %d, Block(%d, %d, %d): %v, laid %v", p.W, p.H, x, y, n, got, b)
	}
	for r := range p.H {
		for c := range p.W {
			within := c >= x && c < x+n && r >= y && r < y+n
			if !within && plane.At(q, c, r) != plane.At(p, c, r) {
				t.Fatalf("%d by %d, Lay(%d, %d, %d): (%d, %d) has not stayed", p.W, p.H, x, y, n, c, r)
			}
		}
	}
}

// N2: Half.

func TestHalfRoundsTheSumOfFour(t *testing.T) {
	for _, x := range []struct {
		four []byte
		want byte
	}{
		{[]byte{0, 0, 0, 0}, 0}, {[]byte{1, 0, 0, 0}, 0}, {[]byte{0, 1, 0, 1}, 1}, {[]byte{1, 1, 1, 0}, 1}, {[]byte{1, 1, 1, 1}, 1},
		{[]byte{0, 0, 5, 0}, 1}, {[]byte{0, 0, 0, 6}, 2}, {[]byte{3, 4, 0, 0}, 2}, {[]byte{10, 11, 12, 13}, 12}, {[]byte{10, 11, 12, 12}, 11},
		{[]byte{255, 255, 255, 255}, 255}, {[]byte{255, 255, 255, 254}, 255}, {[]byte{255, 255, 254, 254}, 255}, {[]byte{254, 255, 254, 254}, 254},
		{[]byte{255, 0, 0, 255}, 128}, {[]byte{255, 0, 0, 254}, 127}, {[]byte{0, 255, 0, 0}, 64}, {[]byte{128, 128, 128, 128}, 128},
	} {
		p, e := plane.Half(api.Plane{W: 2, H: 2, Pix: x.four})
		if e != api.OK || !samePlane(p, api.Plane{W: 1, H: 1, Pix: []byte{x.want}}) {
			t.Errorf("%v: %v, %v, wanted %d", x.four, p, e, x.want)
		}
	}
}

func TestHalfHasEachSampleFromItsFour(t *testing.T) {
	p, e := plane.Half(api.Plane{W: 6, H: 4, Pix: []byte{
		0, 4, 10, 10, 255, 255,
		8, 4, 10, 10, 255, 255,
		1, 2, 0, 0, 7, 7,
		3, 4, 0, 1, 7, 9,
	}})
	if e != api.OK || !samePlane(p, api.Plane{W: 3, H: 2, Pix: []byte{4, 10, 255, 3, 0, 8}}) {
		t.Errorf("%v, %v", p, e)
	}
	for _, s := range [][2]int{{2, 2}, {2, 8}, {8, 2}, {6, 10}, {16, 16}, {70, 66}, {4096, 2}, {2, 4096}} {
		p := mixedPlane(s[0], s[1])
		was := slices.Clone(p.Pix)
		h, e := plane.Half(p)
		if e != api.OK || h.W != s[0]/2 || h.H != s[1]/2 || !plane.Right(h) {
			t.Fatalf("%v: %d by %d, %v", s, h.W, h.H, e)
		}
		for y := range h.H {
			for x := range h.W {
				sum := 0
				for _, v := range wantBlock(p, 2*x, 2*y, 2) {
					sum += int(v)
				}
				if want := byte(math.Floor(float64(sum+2) / 4)); h.Pix[y*h.W+x] != want {
					t.Fatalf("%v: (%d, %d) is %d, wanted %d", s, x, y, h.Pix[y*h.W+x], want)
				}
			}
		}
		if !bytes.Equal(p.Pix, was) {
			t.Errorf("%v was written into", s)
		}
	}
}

func TestHalfRefusesOddSidesAndWrongPlanes(t *testing.T) {
	for _, s := range [][2]int{{1, 1}, {1, 2}, {2, 1}, {3, 4}, {4, 3}, {3, 3}, {4095, 2}, {2, 4095}} {
		if h, e := plane.Half(mixedPlane(s[0], s[1])); e != api.ErrPlane || !isNoPlane(h) {
			t.Errorf("%v: %d by %d, %v", s, h.W, h.H, e)
		}
	}
	for name, p := range wrongPlanes() {
		if h, e := plane.Half(p); e != api.ErrPlane || !isNoPlane(h) {
			t.Errorf("%s: %d by %d, %v", name, h.W, h.H, e)
		}
	}
}

// Far.

func TestFarIsTheSumOverAllSamples(t *testing.T) {
	one := func(b ...byte) api.Plane { return api.Plane{W: len(b), H: 1, Pix: b} }
	for _, x := range []struct {
		a, b api.Plane
		want int
	}{
		{one(0), one(0), 0}, {one(7), one(7), 0}, {one(0), one(255), 255}, {one(255), one(0), 255}, {one(1, 2, 3), one(3, 2, 1), 4},
		{one(0, 255, 128, 127), one(255, 0, 127, 128), 512}, {one(200, 10), one(10, 200), 380},
		{even(4096, 4096, 0), even(4096, 4096, 255), 4096 * 4096 * 255},
	} {
		if n, e := plane.Far(x.a, x.b); n != x.want || e != api.OK {
			t.Errorf("%d by %d: %d, %v, wanted %d", x.a.W, x.a.H, n, e, x.want)
		}
	}
	for a := range 256 {
		for b := range 256 {
			want := int(math.Abs(float64(a) - float64(b)))
			if n, e := plane.Far(one(byte(a)), one(byte(b))); n != want || e != api.OK {
				t.Fatalf("%d and %d: %d, %v", a, b, n, e)
			}
		}
	}
}

// Each sample counts, the last ones of a plane too.
func TestFarCountsEachSample(t *testing.T) {
	for _, p := range planes() {
		q := api.Plane{W: p.W, H: p.H, Pix: slices.Clone(p.Pix)}
		for i := range p.Pix {
			q.Pix[i] ^= 128
			if n, e := plane.Far(p, q); n != 128 || e != api.OK {
				t.Fatalf("%d by %d, sample %d: %d, %v", p.W, p.H, i, n, e)
			}
			q.Pix[i] ^= 128
		}
		if n, e := plane.Far(p, p); n != 0 || e != api.OK {
			t.Errorf("%d by %d from itself: %d, %v", p.W, p.H, n, e)
		}
	}
}

func TestFarRefusesOtherSidesAndWrongPlanes(t *testing.T) {
	for _, s := range [][4]int{{4, 3, 3, 4}, {2, 8, 4, 4}, {16, 1, 1, 16}, {4, 4, 4, 5}, {4, 4, 5, 4}, {1, 1, 1, 2}} {
		if n, e := plane.Far(mixedPlane(s[0], s[1]), mixedPlane(s[2], s[3])); n != 0 || e != api.ErrPlane {
			t.Errorf("%v: %d, %v", s, n, e)
		}
	}
	for name, p := range wrongPlanes() {
		for _, q := range []api.Plane{p, mixedPlane(4, 4), mixedPlane(1, 1)} {
			if n, e := plane.Far(p, q); n != 0 || e != api.ErrPlane {
				t.Errorf("%s, from %d by %d: %d, %v", name, q.W, q.H, n, e)
			}
			if n, e := plane.Far(q, p); n != 0 || e != api.ErrPlane {
				t.Errorf("%d by %d, from %s: %d, %v", q.W, q.H, name, n, e)
			}
		}
	}
}

// Blank and Whole.

func TestBlankIsAFrameOfOneSample(t *testing.T) {
	for _, s := range [][2]int{{16, 16}, {16, 32}, {32, 16}, {48, 80}, {16, 4096}, {4096, 16}, {4080, 32}, {4096, 4096}} {
		for _, v := range []byte{0, 9, 255} {
			f, e := plane.Blank(s[0], s[1], v)
			want := api.Frame{Y: even(s[0], s[1], v), U: even(s[0]/2, s[1]/2, v), V: even(s[0]/2, s[1]/2, v)}
			if e != api.OK || !sameFrame(f, want) {
				t.Errorf("Blank(%d, %d, %d): %v", s[0], s[1], v, e)
			}
			if !plane.Whole(f) {
				t.Errorf("Blank(%d, %d, %d) is not right", s[0], s[1], v)
			}
		}
	}
}

func TestBlankRefusesSidesOfNoFrame(t *testing.T) {
	wrong := []int{0, -1, -16, -32, -4096, math.MinInt, math.MinInt + 16, 1, 2, 8, 15, 17, 24, 31, 33, 40, 4088, 4095, 4097, 4104, 4112, 8192, 1 << 16, 1 << 32, 1<<32 + 16, math.MaxInt - 15, math.MaxInt}
	for _, side := range wrong {
		for _, other := range append([]int{16, 64, 4096}, wrong...) {
			for _, s := range [][2]int{{side, other}, {other, side}} {
				if f, e := plane.Blank(s[0], s[1], 7); e != api.ErrPlane || !isNoFrame(f) {
					t.Errorf("Blank(%d, %d): %d by %d, %v", s[0], s[1], f.Y.W, f.Y.H, e)
				}
			}
		}
	}
}

func TestBlankHasThreePlanesOfTheirOwn(t *testing.T) {
	f, _ := plane.Blank(16, 16, 9)
	g, _ := plane.Blank(16, 16, 9)
	for i, p := range []*api.Plane{&f.Y, &f.U, &f.V} {
		full := p.Pix[:cap(p.Pix)]
		for k := range full {
			full[k] = byte(i)
		}
	}
	want := api.Frame{Y: even(16, 16, 0), U: even(8, 8, 1), V: even(8, 8, 2)}
	if !sameFrame(f, want) {
		t.Error("planes of one frame share their samples")
	}
	if !sameFrame(g, api.Frame{Y: even(16, 16, 9), U: even(8, 8, 9), V: even(8, 8, 9)}) {
		t.Error("two frames share their samples")
	}
}

// wrongFrames are not right.
func wrongFrames() map[string]api.Frame {
	frame := func(y, u, v api.Plane) api.Frame { return api.Frame{Y: y, U: u, V: v} }
	m := map[string]api.Frame{
		"nothing":            {},
		"luma alone":         {Y: mixedPlane(16, 16)},
		"without V":          frame(mixedPlane(16, 16), mixedPlane(8, 8), api.Plane{}),
		"without U":          frame(mixedPlane(16, 16), api.Plane{}, mixedPlane(8, 8)),
		"without Y":          frame(api.Plane{}, mixedPlane(8, 8), mixedPlane(8, 8)),
		"U turned":           frame(mixedPlane(32, 16), mixedPlane(8, 16), mixedPlane(16, 8)),
		"V turned":           frame(mixedPlane(32, 16), mixedPlane(16, 8), mixedPlane(8, 16)),
		"U as great as Y":    frame(mixedPlane(16, 16), mixedPlane(16, 16), mixedPlane(8, 8)),
		"V as great as Y":    frame(mixedPlane(16, 16), mixedPlane(8, 8), mixedPlane(16, 16)),
		"U wider":            frame(mixedPlane(16, 16), mixedPlane(9, 8), mixedPlane(8, 8)),
		"U higher":           frame(mixedPlane(16, 16), mixedPlane(8, 9), mixedPlane(8, 8)),
		"V narrower":         frame(mixedPlane(16, 16), mixedPlane(8, 8), mixedPlane(7, 8)),
		"V lower":            frame(mixedPlane(16, 16), mixedPlane(8, 8), mixedPlane(8, 7)),
		"Y of 24 by 16":      mixedFrame(24, 16),
		"Y of 16 by 24":      mixedFrame(16, 24),
		"Y of 8 by 8":        mixedFrame(8, 8),
		"Y of 17 by 17":      mixedFrame(17, 17),
		"Y of 4112 by 16":    mixedFrame(4112, 16),
		"Y of 16 by 4112":    mixedFrame(16, 4112),
		"Y of 1 by 1":        frame(mixedPlane(1, 1), api.Plane{}, api.Plane{}),
		"Y of no sides":      frame(api.Plane{}, api.Plane{}, api.Plane{}),
		"Y below 0":          frame(api.Plane{W: -16, H: -16, Pix: mixed(256)}, api.Plane{W: -8, H: -8, Pix: mixed(64)}, api.Plane{W: -8, H: -8, Pix: mixed(64)}),
		"sides of 0 samples": frame(api.Plane{W: 1 << 32, H: 1 << 32}, api.Plane{W: 1 << 31, H: 1 << 33}, api.Plane{W: 1 << 31, H: 1 << 33}),
	}
	for i, name := range []string{"Y", "U", "V"} {
		for _, more := range []int{-1, 1} {
			f := mixedFrame(32, 16)
			p := []*api.Plane{&f.Y, &f.U, &f.V}[i]
			p.Pix = mixed(len(p.Pix) + more)
			m[name+map[int]string{-1: " with a sample too few", 1: " with a sample too many"}[more]] = f
		}
	}
	return m
}

func TestWholeIsWithThreePlanesThatFit(t *testing.T) {
	for _, s := range [][2]int{{16, 16}, {32, 16}, {16, 32}, {176, 144}, {4096, 16}, {16, 4096}} {
		if !plane.Whole(mixedFrame(s[0], s[1])) {
			t.Errorf("%d by %d", s[0], s[1])
		}
	}
	for name, f := range wrongFrames() {
		if plane.Whole(f) {
			t.Errorf("right: %s", name)
		}
	}
}

// Down.

func TestDownIsHalfOfTheThreePlanes(t *testing.T) {
	for _, s := range [][2]int{{32, 32}, {32, 64}, {64, 32}, {96, 160}, {4096, 32}, {32, 4096}} {
		f := mixedFrame(s[0], s[1])
		was := mixedFrame(s[0], s[1])
		d, e := plane.Down(f)
		if e != api.OK || !plane.Whole(d) || d.Y.W != s[0]/2 || d.Y.H != s[1]/2 {
			t.Fatalf("%v: %d by %d, %v", s, d.Y.W, d.Y.H, e)
		}
		y, _ := plane.Half(f.Y)
		u, _ := plane.Half(f.U)
		v, _ := plane.Half(f.V)
		if !sameFrame(d, api.Frame{Y: y, U: u, V: v}) {
			t.Errorf("%v: other samples than those of the halves", s)
		}
		if !sameFrame(f, was) {
			t.Errorf("%v was written into", s)
		}
	}
}

func TestDownRefusesWhatHasNoHalfThatIsRight(t *testing.T) {
	for _, s := range [][2]int{{16, 16}, {16, 32}, {32, 16}, {48, 32}, {32, 48}, {4080, 32}, {32, 4080}} {
		if d, e := plane.Down(mixedFrame(s[0], s[1])); e != api.ErrPlane || !isNoFrame(d) {
			t.Errorf("%v: %d by %d, %v", s, d.Y.W, d.Y.H, e)
		}
	}
	for name, f := range wrongFrames() {
		if d, e := plane.Down(f); e != api.ErrPlane || !isNoFrame(d) {
			t.Errorf("%s: %d by %d, %v", name, d.Y.W, d.Y.H, e)
		}
	}
	// Each plane by itself has a half, but they are no frame.
	f := api.Frame{Y: mixedPlane(32, 32), U: mixedPlane(16, 16), V: mixedPlane(32, 32)}
	if d, e := plane.Down(f); e != api.ErrPlane || !isNoFrame(d) {
		t.Errorf("planes that don't fit: %v", e)
	}
}

func TestDownAgainAndAgain(t *testing.T) {
	f, e := plane.Blank(128, 64, 200)
	for _, s := range [][2]int{{64, 32}, {32, 16}} {
		f, e = plane.Down(f)
		if e != api.OK || !sameFrame(f, api.Frame{Y: even(s[0], s[1], 200), U: even(s[0]/2, s[1]/2, 200), V: even(s[0]/2, s[1]/2, 200)}) {
			t.Fatalf("%v: %d by %d, %v", s, f.Y.W, f.Y.H, e)
		}
	}
	if f, e = plane.Down(f); e != api.ErrPlane || !isNoFrame(f) {
		t.Errorf("16 by 8: %v", e)
	}
}

// Same and Copy.

func TestSameAsksSidesAndSamplesOfAllPlanes(t *testing.T) {
	f := mixedFrame(32, 16)
	if !plane.Same(f, f) || !plane.Same(f, mixedFrame(32, 16)) {
		t.Error("a frame is not the same as itself")
	}
	for i := range 3 {
		for _, at := range []int{0, 1, 77, 127} {
			g := mixedFrame(32, 16)
			[]api.Plane{g.Y, g.U, g.V}[i].Pix[at]++
			if plane.Same(f, g) || plane.Same(g, f) {
				t.Errorf("plane %d has another sample at %d", i, at)
			}
		}
		g := mixedFrame(32, 16)
		p := []*api.Plane{&g.Y, &g.U, &g.V}[i]
		p.W, p.H = p.H, p.W
		if plane.Same(f, g) || plane.Same(g, f) {
			t.Errorf("plane %d has other sides", i)
		}
		p.W, p.H = p.H, p.W
		p.Pix = p.Pix[:len(p.Pix)-1]
		if plane.Same(f, g) || plane.Same(g, f) {
			t.Errorf("plane %d has a sample less", i)
		}
	}
}

// Same asks no frame to be right.
func TestSameOfWhatIsNotRight(t *testing.T) {
	right := mixedFrame(16, 16)
	for name, f := range wrongFrames() {
		if !plane.Same(f, f) || !plane.Same(f, plane.Copy(f)) {
			t.Errorf("%s is not the same as itself", name)
		}
		if plane.Same(f, right) || plane.Same(right, f) {
			t.Errorf("%s is the same as a right one", name)
		}
	}
	empty := api.Frame{Y: api.Plane{Pix: []byte{}}, U: api.Plane{Pix: []byte{}}, V: api.Plane{Pix: []byte{}}}
	if !plane.Same(api.Frame{}, empty) || !plane.Same(empty, api.Frame{}) {
		t.Error("lists without elements are told apart")
	}
	for _, g := range []api.Frame{{Y: api.Plane{W: 1}}, {Y: api.Plane{H: 1}}, {U: api.Plane{W: 1}}, {U: api.Plane{H: 1}}, {V: api.Plane{W: 1}}, {V: api.Plane{H: 1}}} {
		if plane.Same(api.Frame{}, g) || plane.Same(g, api.Frame{}) {
			t.Errorf("other sides, no samples: %v", g)
		}
	}
}

func TestCopyHasTheSame(t *testing.T) {
	for _, s := range [][2]int{{16, 16}, {32, 16}, {16, 48}, {4096, 16}} {
		f := mixedFrame(s[0], s[1])
		if c := plane.Copy(f); !sameFrame(c, f) || !plane.Same(c, f) || !plane.Whole(c) {
			t.Errorf("%v", s)
		}
	}
	for name, f := range wrongFrames() {
		if c := plane.Copy(f); !sameFrame(c, f) {
			t.Errorf("%s", name)
		}
	}
}

func TestCopyGoesItsOwnWay(t *testing.T) {
	for i := range 3 {
		f, was := mixedFrame(16, 32), mixedFrame(16, 32)
		c := plane.Copy(f)
		p := []api.Plane{c.Y, c.U, c.V}[i]
		full := p.Pix[:cap(p.Pix)]
		for k := range full {
			full[k] ^= 255
		}
		if !sameFrame(f, was) || plane.Same(c, f) {
			t.Errorf("plane %d of the copy is that of the frame", i)
		}
		g := plane.Copy(f)
		[]api.Plane{f.Y, f.U, f.V}[i].Pix[5]++
		if !sameFrame(g, was) {
			t.Errorf("plane %d of the frame is that of the copy", i)
		}
	}
}

// Where planes of a frame share their samples, those of a copy, or of a half, don't.
func TestPlanesOfAnAnswerShareNothing(t *testing.T) {
	chroma := mixedPlane(16, 16)
	f := api.Frame{Y: mixedPlane(32, 32), U: chroma, V: chroma}
	d, e := plane.Down(f)
	if e != api.OK {
		t.Fatalf("Down: %v", e)
	}
	for name, g := range map[string]api.Frame{"Copy": plane.Copy(f), "Down": d} {
		was := slices.Clone(g.V.Pix)
		full := g.U.Pix[:cap(g.U.Pix)]
		for k := range full {
			full[k] ^= 255
		}
		if !bytes.Equal(g.V.Pix, was) {
			t.Errorf("%s: U and V share their samples", name)
		}
	}
}

// What lies behind a list's length is neither read nor written.
func TestWhatLiesBehindStays(t *testing.T) {
	memory := mixed(4096)
	was := slices.Clone(memory)
	p := api.Plane{W: 16, H: 16, Pix: memory[:256]}
	f := api.Frame{Y: p, U: api.Plane{W: 8, H: 8, Pix: memory[1000:1064]}, V: api.Plane{W: 8, H: 8, Pix: memory[2000:2064]}}
	b := memory[3000:3064]
	q, _ := plane.Lay(p, 12, 12, 8, b)
	if !samePlane(q, wantLay(p, 12, 12, 8, b)) {
		t.Error("Lay")
	}
	if !bytes.Equal(plane.Block(p, 12, 12, 8), wantBlock(p, 12, 12, 8)) {
		t.Error("Block")
	}
	c := plane.Copy(f)
	c.Y.Pix = append(c.Y.Pix, 1)
	q.Pix = append(q.Pix, 1)
	h, _ := plane.Half(p)
	h.Pix = append(h.Pix, 1)
	plane.At(p, 16, 16)
	plane.Far(p, p)
	plane.Whole(f)
	plane.Same(f, c)
	if !bytes.Equal(memory, was) {
		t.Error("written into")
	}
}
