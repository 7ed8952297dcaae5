package intra_test

import (
	"bytes"
	"math"
	"slices"
	"testing"

	"kinora/api"
	"kinora/intra"
)

// The tests hold the package against the chapter's words themselves: each sample of a guess by looking up the ones that it is said to come from.

const modes = 4

var sides = []int{4, 8}

// series is a row of numbers that is the same in every run.
type series uint64

func (s *series) next() uint64 {
	*s += 0x9E3779B97F4A7C15
	x := uint64(*s)
	x = (x ^ x>>30) * 0xBF58476D1CE4E5B9
	x = (x ^ x>>27) * 0x94D049BB133111EB
	return x ^ x>>31
}

// below is a number from 0 on, less than n.
func (s *series) below(n int) int { return int(s.next() % uint64(n)) }

// any are so many samples.
func (s *series) any(n int) []byte {
	b := make([]byte, n)
	for i := range b {
		b[i] = byte(s.next())
	}
	return b
}

// steep are so many samples that are the least or the greatest, or near to it.
func (s *series) steep(n int) []byte {
	b := make([]byte, n)
	for i := range b {
		b[i] = []byte{0, 1, 254, 255}[s.below(4)]
	}
	return b
}

// planes are of all kinds of sides and samples.
func planes(s *series) []api.Plane {
	var l []api.Plane
	for _, sides := range [][2]int{{4, 4}, {8, 8}, {5, 9}, {9, 5}, {4, 20}, {20, 4}, {16, 16}, {13, 17}, {3, 30}, {30, 3}, {8, 1}, {1, 1}} {
		w, h := sides[0], sides[1]
		l = append(l, api.Plane{W: w, H: h, Pix: s.any(w * h)}, api.Plane{W: w, H: h, Pix: s.steep(w * h)})
	}
	for _, v := range []byte{0, 127, 128, 129, 255} {
		l = append(l, api.Plane{W: 12, H: 12, Pix: bytes.Repeat([]byte{v}, 144)})
	}
	return l
}

// at is a sample by the words: that of the plane, or 128.
func at(p api.Plane, x, y int) int {
	if x < 0 || y < 0 {
		return 128
	}
	return int(p.Pix[y*p.W+x])
}

func wantFlat(p api.Plane, x, y, n int) byte {
	sum := n
	for i := range n {
		sum += at(p, x+i, y-1)
		sum += at(p, x-1, y+i)
	}
	return byte(sum / (2 * n))
}

func wantSlope(p api.Plane, x, y, i, j int) byte {
	v := at(p, x+i, y-1) + at(p, x-1, y+j) - at(p, x-1, y-1)
	if v < 0 {
		return 0
	}
	if v > 255 {
		return 255
	}
	return byte(v)
}

func wantGuess(p api.Plane, x, y, n, mode int) []byte {
	var b []byte
	for j := range n {
		for i := range n {
			switch mode {
			case 0:
				b = append(b, wantFlat(p, x, y, n))
			case 1:
				b = append(b, byte(at(p, x+i, y-1)))
			case 2:
				b = append(b, byte(at(p, x-1, y+j)))
			case 3:
				b = append(b, wantSlope(p, x, y, i, j))
			}
		}
	}
	return b
}

func far(b, c []byte) int {
	sum := 0
	for i := range b {
		if b[i] > c[i] {
			sum += int(b[i] - c[i])
		} else {
			sum += int(c[i] - b[i])
		}
	}
	return sum
}

// wantChoose is the first mode of those that are the nearest.
func wantChoose(p api.Plane, x, y, n int, b []byte) (int, []byte) {
	least := math.MaxInt
	for mode := range modes {
		least = min(least, far(b, wantGuess(p, x, y, n, mode)))
	}
	for mode := range modes {
		if g := wantGuess(p, x, y, n, mode); far(b, g) == least {
			return mode, g
		}
	}
	return 0, nil
}

// eachBlock goes through all blocks of a plane.
func eachBlock(p api.Plane, f func(x, y, n int)) {
	for _, n := range sides {
		for y := 0; y+n <= p.H; y++ {
			for x := 0; x+n <= p.W; x++ {
				f(x, y, n)
			}
		}
	}
}

// samples are those of a block.
func samples(p api.Plane, x, y, n int) []byte {
	var b []byte
	for j := range n {
		b = append(b, p.Pix[(y+j)*p.W+x:(y+j)*p.W+x+n]...)
	}
	return b
}

// rows is a plane of rows that are told one by one.
func rows(l ...[]byte) api.Plane {
	return api.Plane{W: len(l[0]), H: len(l), Pix: slices.Concat(l...)}
}

// Guesses.

// around is a plane of five by five, with a corner, four samples above and four left, and 77 in the block.
func around(corner byte, above, left [4]byte) api.Plane {
	p := rows([]byte{corner, above[0], above[1], above[2], above[3]})
	for _, v := range left {
		p.Pix = append(p.Pix, v, 77, 77, 77, 77)
	}
	p.H = 5
	return p
}

func TestGuessesByHand(t *testing.T) {
	p := around(10, [4]byte{20, 30, 40, 50}, [4]byte{1, 2, 3, 9})
	for mode, want := range [][]byte{
		bytes.Repeat([]byte{19}, 16), // (140 + 15 + 4) / 8 is 19.875
		{20, 30, 40, 50, 20, 30, 40, 50, 20, 30, 40, 50, 20, 30, 40, 50},
		{1, 1, 1, 1, 2, 2, 2, 2, 3, 3, 3, 3, 9, 9, 9, 9},
		{11, 21, 31, 41, 12, 22, 32, 42, 13, 23, 33, 43, 19, 29, 39, 49},
	} {
		if g, e := intra.Guess(p, 1, 1, 4, mode); e != api.OK || !slices.Equal(g, want) {
			t.Errorf("mode %d: %v, %v, wanted %v", mode, g, e, want)
		}
	}
}

func TestFlatIsRoundedDown(t *testing.T) {
	for last, want := range map[byte]byte{0: 0, 3: 0, 4: 1, 11: 1, 12: 2, 250: 31, 251: 31, 252: 32, 255: 32} {
		for _, p := range []api.Plane{
			around(200, [4]byte{0, 0, 0, last}, [4]byte{}), around(200, [4]byte{}, [4]byte{0, 0, 0, last}),
			around(200, [4]byte{last}, [4]byte{}), around(200, [4]byte{}, [4]byte{last}),
		} {
			if g, e := intra.Guess(p, 1, 1, 4, 0); e != api.OK || !slices.Equal(g, bytes.Repeat([]byte{want}, 16)) {
				t.Errorf("flat by %v: %v, %v, wanted %d", p.Pix, g, e, want)
			}
		}
	}
	high := [4]byte{255, 255, 255, 255}
	for corner := range 256 {
		if g, e := intra.Guess(around(byte(corner), high, high), 1, 1, 4, 0); e != api.OK || g[0] != 255 || g[15] != 255 {
			t.Errorf("flat by 255 with a corner of %d: %v, %v", corner, g, e)
		}
	}
}

// Greater blocks have as many samples more, above and left, and a fall of their own.
func TestFlatOfGreaterBlocks(t *testing.T) {
	for last, want := range map[byte]byte{0: 0, 7: 0, 8: 1, 23: 1, 24: 2, 247: 15, 248: 16, 255: 16} {
		p := api.Plane{W: 9, H: 9, Pix: bytes.Repeat([]byte{0}, 81)}
		q := api.Plane{W: 9, H: 9, Pix: bytes.Repeat([]byte{0}, 81)}
		p.Pix[8], q.Pix[72] = last, last
		for _, p := range []api.Plane{p, q} {
			if g, e := intra.Guess(p, 1, 1, 8, 0); e != api.OK || !slices.Equal(g, bytes.Repeat([]byte{want}, 64)) {
				t.Errorf("flat of 64 by %v: %v, %v, wanted %d", p.Pix, g, e, want)
			}
		}
	}
}

func TestSlopesBelowAndAbove(t *testing.T) {
	for _, c := range []struct{ corner, above, left, want byte }{
		{0, 0, 0, 0}, {255, 0, 0, 0}, {255, 255, 0, 0}, {255, 0, 255, 0}, {255, 254, 0, 0}, {255, 254, 1, 0}, {255, 254, 2, 1}, {255, 255, 1, 1},
		{1, 0, 0, 0}, {1, 1, 0, 0}, {1, 0, 2, 1}, {100, 50, 49, 0}, {100, 50, 50, 0}, {100, 50, 51, 1}, {128, 0, 127, 0}, {128, 0, 129, 1},
		{0, 255, 255, 255}, {0, 255, 1, 255}, {0, 255, 0, 255}, {0, 254, 1, 255}, {0, 254, 0, 254}, {0, 128, 128, 255}, {0, 128, 127, 255}, {0, 127, 127, 254},
		{1, 255, 255, 255}, {255, 255, 255, 255}, {254, 255, 255, 255}, {200, 255, 200, 255}, {200, 254, 200, 254}, {128, 200, 183, 255}, {128, 200, 184, 255},
	} {
		p := around(c.corner, [4]byte{7, 7, c.above, 7}, [4]byte{9, c.left, 9, 9})
		g, e := intra.Guess(p, 1, 1, 4, 3)
		if e != api.OK || len(g) != 16 || g[1*4+2] != c.want {
			t.Errorf("slope by %d, %d, %d: %v, %v, wanted %d", c.corner, c.above, c.left, g, e, c.want)
		}
	}
}

func TestEverySlope(t *testing.T) {
	for corner := range 256 {
		for above := range 64 {
			a := [4]byte{byte(above), byte(above + 64), byte(above + 128), byte(above + 192)}
			l := [4]byte{byte(corner), byte(255 - above), byte(above), byte(3 * above)}
			p := around(byte(corner), a, l)
			if g, e := intra.Guess(p, 1, 1, 4, 3); e != api.OK || !slices.Equal(g, wantGuess(p, 1, 1, 4, 3)) {
				t.Fatalf("slope by %v: %v, %v", p.Pix, g, e)
			}
		}
	}
}

func TestGuessesOutsideByHand(t *testing.T) {
	p := api.Plane{W: 12, H: 12}
	for i := range 144 {
		p.Pix = append(p.Pix, byte(10*(i/12)+i%12))
	}
	for _, c := range []struct {
		x, y, n, mode int
		first, last   byte
	}{
		{0, 0, 4, 0, 128, 128}, {0, 0, 4, 1, 128, 128}, {0, 0, 4, 2, 128, 128}, {0, 0, 4, 3, 128, 128},
		{0, 0, 8, 0, 128, 128}, {0, 0, 8, 1, 128, 128}, {0, 0, 8, 2, 128, 128}, {0, 0, 8, 3, 128, 128},
		{5, 0, 4, 0, 74, 74}, {5, 0, 4, 1, 128, 128}, {5, 0, 4, 2, 4, 34}, {5, 0, 4, 3, 4, 34}, // (512 + 76 + 4) / 8 is 74
		{0, 3, 4, 0, 75, 75}, {0, 3, 4, 1, 20, 23}, {0, 3, 4, 2, 128, 128}, {0, 3, 4, 3, 20, 23}, // (86 + 512 + 4) / 8 is 75.25
		{4, 0, 8, 0, 83, 83}, {4, 0, 8, 1, 128, 128}, {4, 0, 8, 2, 3, 73}, {4, 0, 8, 3, 3, 73}, // (1024 + 304 + 8) / 16 is 83.5
		{0, 4, 8, 0, 81, 81}, {0, 4, 8, 1, 30, 37}, {0, 4, 8, 2, 128, 128}, {0, 4, 8, 3, 30, 37}, // (268 + 1024 + 8) / 16 is 81.25
	} {
		g, e := intra.Guess(p, c.x, c.y, c.n, c.mode)
		if e != api.OK || len(g) != c.n*c.n || g[0] != c.first || g[len(g)-1] != c.last {
			t.Errorf("%v: %v, %v", c, g, e)
		}
	}
}

func TestEachBlockByEachMode(t *testing.T) {
	s := series(1)
	for _, p := range planes(&s) {
		eachBlock(p, func(x, y, n int) {
			for mode := range modes {
				want := wantGuess(p, x, y, n, mode)
				if g, e := intra.Guess(p, x, y, n, mode); e != api.OK || !slices.Equal(g, want) {
					t.Fatalf("mode %d of %d at (%d, %d) of %v: %v, %v, wanted %v", mode, n, x, y, p, g, e, want)
				}
			}
		})
	}
}

func TestGuessesOfTheGreatestPlane(t *testing.T) {
	s := series(2)
	p := api.Plane{W: api.MaxSide, H: api.MaxSide, Pix: s.any(api.MaxSide * api.MaxSide)}
	for _, n := range sides {
		last := api.MaxSide - n
		for _, c := range [][2]int{{0, 0}, {last, 0}, {0, last}, {last, last}, {last - 1, last}, {1, last}, {2047, 2049}} {
			for mode := range modes {
				want := wantGuess(p, c[0], c[1], n, mode)
				if g, e := intra.Guess(p, c[0], c[1], n, mode); e != api.OK || !slices.Equal(g, want) {
					t.Errorf("mode %d of %d at %v: %v, %v, wanted %v", mode, n, c, g, e, want)
				}
			}
		}
		for _, c := range [][2]int{{last + 1, 0}, {0, last + 1}, {api.MaxSide, 0}, {0, api.MaxSide}} {
			if g, e := intra.Guess(p, c[0], c[1], n, 1); e != api.ErrArg || len(g) != 0 {
				t.Errorf("%d at %v: %v, %v", n, c, g, e)
			}
		}
	}
}

// What is refused.

// wide are numbers that are no place, no side and no mode.
func wide() []int {
	return []int{math.MinInt, math.MinInt + 1, math.MinInt + 8, -1 << 32, -4096, -8, -4, -1, 1 << 31, 1 << 32, 1<<32 + 4, 1<<32 + 8, math.MaxInt - 8, math.MaxInt - 7, math.MaxInt - 3, math.MaxInt - 1, math.MaxInt}
}

// refused holds that both calls answer an error, and nothing else.
func refused(t *testing.T, p api.Plane, x, y, n int, b []byte, want api.Errno) {
	t.Helper()
	for mode := range modes {
		if g, e := intra.Guess(p, x, y, n, mode); e != want || len(g) != 0 {
			t.Errorf("Guess of %d at (%d, %d) of %d by %d, mode %d: %v, %v, wanted %v", n, x, y, p.W, p.H, mode, g, e, want)
		}
	}
	if mode, g, e := intra.Choose(p, x, y, n, b); e != want || mode != 0 || len(g) != 0 {
		t.Errorf("Choose of %d at (%d, %d) of %d by %d, with %d samples: %d, %v, %v, wanted %v", n, x, y, p.W, p.H, len(b), mode, g, e, want)
	}
}

func TestBlocksThatAreNotInside(t *testing.T) {
	s := series(3)
	for _, sides := range [][2]int{{12, 12}, {9, 16}, {16, 9}, {4, 8}, {8, 4}, {3, 9}, {9, 3}, {1, 1}} {
		w, h := sides[0], sides[1]
		p := api.Plane{W: w, H: h, Pix: s.any(w * h)}
		for _, n := range []int{4, 8} {
			b := s.any(n * n)
			for x := -10; x <= w+10; x++ {
				for y := -10; y <= h+10; y++ {
					if x < 0 || y < 0 || x+n > w || y+n > h {
						refused(t, p, x, y, n, b, api.ErrArg)
					}
				}
			}
			for _, v := range wide() {
				refused(t, p, v, 0, n, b, api.ErrArg)
				refused(t, p, 0, v, n, b, api.ErrArg)
				refused(t, p, v, v, n, b, api.ErrArg)
			}
		}
	}
}

func TestSidesThatAreNone(t *testing.T) {
	s := series(4)
	p := api.Plane{W: 40, H: 40, Pix: s.any(1600)}
	for _, n := range append(wide(), 0, 1, 2, 3, 5, 6, 7, 9, 10, 12, 15, 16, 17, 32, 40, 64) {
		for _, at := range [][2]int{{0, 0}, {5, 7}} {
			refused(t, p, at[0], at[1], n, nil, api.ErrArg)
			refused(t, p, at[0], at[1], n, s.any(16), api.ErrArg)
			refused(t, p, at[0], at[1], n, s.any(64), api.ErrArg)
			if n >= 0 && n <= 64 {
				refused(t, p, at[0], at[1], n, s.any(n*n), api.ErrArg)
			}
		}
	}
}

func TestModesThatAreNone(t *testing.T) {
	s := series(5)
	p := api.Plane{W: 16, H: 16, Pix: s.any(256)}
	for _, mode := range append(wide(), 4, 5, 7, 8, 15, 16, 255, 256, 257) {
		for _, n := range sides {
			if g, e := intra.Guess(p, 3, 2, n, mode); e != api.ErrArg || len(g) != 0 {
				t.Errorf("mode %d of %d: %v, %v", mode, n, g, e)
			}
		}
	}
}

// wrong are planes that are not right.
func wrong(s *series) []api.Plane {
	return []api.Plane{
		{}, {W: 16, H: 16}, {W: 16, H: 16, Pix: s.any(255)}, {W: 16, H: 16, Pix: s.any(257)}, {W: 16, H: 15, Pix: s.any(256)},
		{W: 0, H: 16, Pix: s.any(256)}, {W: 16, H: 0, Pix: s.any(256)}, {W: 0, H: 0, Pix: s.any(256)}, {W: 0, H: 16}, {W: 16, H: 0},
		{W: -16, H: -16, Pix: s.any(256)}, {W: -16, H: 16, Pix: s.any(256)}, {W: 16, H: -16, Pix: s.any(256)},
		{W: api.MaxSide + 1, H: 8, Pix: s.any(8 * (api.MaxSide + 1))}, {W: 8, H: api.MaxSide + 1, Pix: s.any(8 * (api.MaxSide + 1))},
		{W: 1 << 32, H: 1 << 32}, {W: 1 << 32, H: 1 << 32, Pix: s.any(256)}, {W: math.MaxInt, H: math.MaxInt, Pix: s.any(1)}, {W: math.MinInt, H: math.MinInt}, {W: math.MinInt, H: 2},
	}
}

// The plane's error is named first, whatever else is wrong.
func TestPlanesThatAreNotRight(t *testing.T) {
	s := series(6)
	for _, p := range wrong(&s) {
		for _, n := range []int{4, 8, 0, -1, 5, math.MaxInt, math.MinInt} {
			for _, at := range [][2]int{{0, 0}, {4, 4}, {-1, 0}, {0, 4090}, {math.MaxInt, math.MinInt}} {
				refused(t, p, at[0], at[1], n, nil, api.ErrPlane)
				refused(t, p, at[0], at[1], n, s.any(16), api.ErrPlane)
				for _, mode := range []int{-1, 4, math.MaxInt, math.MinInt} {
					if g, e := intra.Guess(p, at[0], at[1], n, mode); e != api.ErrPlane || len(g) != 0 {
						t.Errorf("Guess of %d by %d samples, mode %d: %v, %v", p.W, p.H, mode, g, e)
					}
				}
			}
		}
	}
}

// Modes that are chosen.

// blocks are some that a place may have: any, the plane's own, each guess, and some near to a guess.
func blocks(s *series, p api.Plane, x, y, n int) [][]byte {
	l := [][]byte{s.any(n * n), s.steep(n * n), samples(p, x, y, n), make([]byte, n*n), bytes.Repeat([]byte{255}, n*n)}
	for mode := range modes {
		g := wantGuess(p, x, y, n, mode)
		near := bytes.Clone(g)
		for range n {
			near[s.below(n*n)] = byte(s.next())
		}
		l = append(l, g, near)
	}
	return l
}

func TestTheModeOfEachBlock(t *testing.T) {
	s := series(7)
	chosen := [modes]int{}
	for _, p := range planes(&s) {
		eachBlock(p, func(x, y, n int) {
			for _, b := range blocks(&s, p, x, y, n) {
				mode, g, e := intra.Choose(p, x, y, n, b)
				wantMode, want := wantChoose(p, x, y, n, b)
				if e != api.OK || mode != wantMode || !slices.Equal(g, want) {
					t.Fatalf("%d at (%d, %d) of %v for %v: %d, %v, %v, wanted %d, %v", n, x, y, p, b, mode, g, e, wantMode, want)
				}
				chosen[mode]++
			}
		})
	}
	for mode, n := range chosen {
		if n == 0 {
			t.Errorf("mode %d was never the nearest", mode)
		}
	}
}

func TestTheModeByHand(t *testing.T) {
	p := around(10, [4]byte{20, 30, 40, 50}, [4]byte{1, 2, 3, 9})
	for want := range modes {
		b := wantGuess(p, 1, 1, 4, want)
		b[5]++
		if mode, g, e := intra.Choose(p, 1, 1, 4, b); mode != want || e != api.OK || !slices.Equal(g, wantGuess(p, 1, 1, 4, want)) {
			t.Errorf("mode %d: %d, %v, %v", want, mode, g, e)
		}
	}
}

// The sum of how far they are apart counts: not the squares, not the greatest, not the samples that differ.
func TestHowFarIsASum(t *testing.T) {
	p := around(128, [4]byte{140, 140, 140, 140}, [4]byte{100, 100, 100, 100}) // flat 120, down 140, across 100, slope 112
	b := bytes.Repeat([]byte{112}, 16)
	b[0] = 255
	if mode, g, e := intra.Choose(p, 1, 1, 4, b); mode != 3 || e != api.OK || g[0] != 112 {
		t.Errorf("one sample far away: %d, %v, %v", mode, g, e)
	}
	b = slices.Concat(bytes.Repeat([]byte{140}, 7), bytes.Repeat([]byte{100}, 9)) // flat is 320 away, down 360, across 280, slope 304
	if mode, g, e := intra.Choose(p, 1, 1, 4, b); mode != 2 || e != api.OK || g[0] != 100 {
		t.Errorf("nine samples of one, seven of another: %d, %v, %v", mode, g, e)
	}
	b = slices.Concat(bytes.Repeat([]byte{120}, 6), bytes.Repeat([]byte{113}, 10)) // flat is 70 away, slope 58
	if mode, g, e := intra.Choose(p, 1, 1, 4, b); mode != 3 || e != api.OK || g[0] != 112 {
		t.Errorf("six samples that are just so, ten that are nearly: %d, %v, %v", mode, g, e)
	}
}

func TestTheFirstOfSeveralThatAreAsNear(t *testing.T) {
	for _, c := range []struct {
		corner, above, left, block byte
		want                       int
	}{
		{50, 50, 50, 50, 0}, {50, 50, 50, 200, 0}, // all four are 50
		{50, 60, 50, 60, 1}, {50, 60, 50, 50, 2}, // flat 55, down and slope 60, across 50
		{50, 50, 60, 60, 2}, {50, 50, 60, 50, 1}, // flat 55, down 50, across and slope 60
		{50, 60, 40, 55, 0}, {50, 60, 40, 45, 0}, {50, 60, 40, 60, 1}, {50, 60, 40, 40, 2}, // flat and slope 50, down 60, across 40
		{60, 60, 40, 45, 0}, {60, 60, 40, 55, 0}, {60, 60, 40, 40, 2}, // flat 50, down 60, across and slope 40
		{40, 60, 40, 55, 0}, {40, 60, 40, 56, 1}, {40, 60, 40, 45, 0}, {40, 60, 40, 44, 2}, // flat 50, down and slope 60, across 40
		{70, 60, 40, 35, 2}, {70, 60, 40, 36, 2}, {70, 60, 40, 34, 3}, // flat 50, down 60, across 40, slope 30
		{70, 40, 60, 35, 1}, {70, 40, 60, 34, 3}, {70, 40, 60, 45, 0}, {70, 40, 60, 55, 0}, {70, 40, 60, 56, 2}, // flat 50, down 40, across 60, slope 30
	} {
		p := around(c.corner, [4]byte{c.above, c.above, c.above, c.above}, [4]byte{c.left, c.left, c.left, c.left})
		b := bytes.Repeat([]byte{c.block}, 16)
		if mode, g, e := intra.Choose(p, 1, 1, 4, b); mode != c.want || e != api.OK || !slices.Equal(g, wantGuess(p, 1, 1, 4, c.want)) {
			t.Errorf("%v: %d, %v, %v", c, mode, g, e)
		}
	}
	for _, n := range sides {
		for _, v := range []byte{0, 128, 129, 255} {
			p := api.Plane{W: 8, H: 8, Pix: bytes.Repeat([]byte{7}, 64)}
			b := bytes.Repeat([]byte{v}, n*n)
			if mode, g, e := intra.Choose(p, 0, 0, n, b); mode != 0 || e != api.OK || !slices.Equal(g, bytes.Repeat([]byte{128}, n*n)) {
				t.Errorf("%d in the corner for %d: %d, %v, %v", n, v, mode, g, e)
			}
		}
	}
}

func TestBlocksOfTooFewAndTooManySamples(t *testing.T) {
	s := series(8)
	p := api.Plane{W: 16, H: 16, Pix: s.any(256)}
	for count := range 140 {
		for _, n := range sides {
			if count == n*n {
				continue
			}
			if mode, g, e := intra.Choose(p, 3, 2, n, s.any(count)); e != api.ErrArg || mode != 0 || len(g) != 0 {
				t.Errorf("%d samples for %d: %d, %v, %v", count, n, mode, g, e)
			}
		}
	}
	if mode, g, e := intra.Choose(p, 0, 0, 4, nil); e != api.ErrArg || mode != 0 || len(g) != 0 {
		t.Errorf("nil: %d, %v, %v", mode, g, e)
	}
}

// Rests and clips.

func TestEveryRest(t *testing.T) {
	for v := range 256 {
		for g := range 256 {
			r := intra.Rest([]byte{byte(v)}, []byte{byte(g)})
			if !slices.Equal(r, []int{v - g}) {
				t.Fatalf("Rest of %d by %d: %v", v, g, r)
			}
			if b := intra.Clip([]byte{byte(g)}, r); !slices.Equal(b, []byte{byte(v)}) {
				t.Fatalf("Clip of %d and %v: %v, wanted %d", g, r, b, v)
			}
		}
	}
}

func TestRestsOfAnySize(t *testing.T) {
	s := series(9)
	for n := range 200 {
		b, g := s.any(n), s.any(n)
		r := intra.Rest(b, g)
		if len(r) != n {
			t.Fatalf("Rest of %d samples: %v", n, r)
		}
		for i := range r {
			if r[i] != int(b[i])-int(g[i]) {
				t.Errorf("Rest of %v by %v: %v", b, g, r)
			}
		}
		if c := intra.Clip(g, r); !slices.Equal(c, b) {
			t.Errorf("Clip of %v and %v: %v, wanted %v", g, r, c, b)
		}
	}
}

func TestEveryClip(t *testing.T) {
	for g := range 256 {
		for r := -520; r <= 520; r++ {
			want := max(0, min(255, g+r))
			if b := intra.Clip([]byte{byte(g)}, []int{r}); !slices.Equal(b, []byte{byte(want)}) {
				t.Fatalf("Clip of %d and %d: %v, wanted %d", g, r, b, want)
			}
		}
	}
}

func TestTheGreatestAndTheLeastRest(t *testing.T) {
	for g := range 256 {
		for _, r := range []int{256, 257, 1 << 16, 1<<31 - 1, 1 << 31, 1 << 32, 1<<32 - 1, 1 << 62, math.MaxInt - 255, math.MaxInt - 254, math.MaxInt - 1, math.MaxInt} {
			if b := intra.Clip([]byte{byte(g), 3}, []int{r, 1}); !slices.Equal(b, []byte{255, 4}) {
				t.Errorf("Clip of %d and %d: %v", g, r, b)
			}
			if b := intra.Clip([]byte{byte(g), 3}, []int{-r, 1}); !slices.Equal(b, []byte{0, 4}) {
				t.Errorf("Clip of %d and %d: %v", g, -r, b)
			}
		}
		if b := intra.Clip([]byte{byte(g)}, []int{math.MinInt}); !slices.Equal(b, []byte{0}) {
			t.Errorf("Clip of %d and the least: %v", g, b)
		}
	}
}

func TestClipsOfAnySize(t *testing.T) {
	s := series(10)
	for n := range 200 {
		g, r := s.any(n), make([]int, n)
		for i := range r {
			r[i] = s.below(1001) - 500
		}
		b := intra.Clip(g, r)
		if len(b) != n {
			t.Fatalf("Clip of %d samples: %v", n, b)
		}
		for i := range b {
			if int(b[i]) != max(0, min(255, int(g[i])+r[i])) {
				t.Errorf("Clip of %v and %v: %v", g, r, b)
			}
		}
	}
}

func TestWhereThereAreNotAsMany(t *testing.T) {
	s := series(11)
	for n := range 70 {
		for m := range 70 {
			if n == m {
				continue
			}
			if r := intra.Rest(s.any(n), s.any(m)); len(r) != 0 {
				t.Errorf("Rest of %d and %d samples: %v", n, m, r)
			}
			if b := intra.Clip(s.any(n), make([]int, m)); len(b) != 0 {
				t.Errorf("Clip of %d and %d samples: %v", n, m, b)
			}
		}
	}
	if r := intra.Rest(nil, nil); len(r) != 0 {
		t.Errorf("Rest of nil: %v", r)
	}
	if b := intra.Clip(nil, nil); len(b) != 0 {
		t.Errorf("Clip of nil: %v", b)
	}
	if r, b := intra.Rest(nil, s.any(4)), intra.Clip(nil, make([]int, 4)); len(r) != 0 || len(b) != 0 {
		t.Errorf("Rest and Clip of nil and four: %v, %v", r, b)
	}
	if r, b := intra.Rest(s.any(4), nil), intra.Clip(s.any(4), nil); len(r) != 0 || len(b) != 0 {
		t.Errorf("Rest and Clip of four and nil: %v, %v", r, b)
	}
}

// P9.2: there and back.

func TestClipOfTheGuessAndTheRest(t *testing.T) {
	s := series(12)
	for _, p := range planes(&s) {
		eachBlock(p, func(x, y, n int) {
			for _, b := range blocks(&s, p, x, y, n) {
				for mode := range modes {
					g, _ := intra.Guess(p, x, y, n, mode)
					if c := intra.Clip(g, intra.Rest(b, g)); !slices.Equal(c, b) {
						t.Fatalf("mode %d of %d at (%d, %d): %v, wanted %v", mode, n, x, y, c, b)
					}
				}
				_, g, _ := intra.Choose(p, x, y, n, b)
				if c := intra.Clip(g, intra.Rest(b, g)); !slices.Equal(c, b) {
					t.Fatalf("%d at (%d, %d): %v, wanted %v", n, x, y, c, b)
				}
			}
		})
	}
}

// P9.3: what is behind does not count.

// counts tells whether a sample is one of those above, left or in the corner.
func counts(i, j, x, y, n int) bool {
	if j == y-1 {
		return i >= x-1 && i < x+n
	}
	return i == x-1 && j >= y && j < y+n
}

func TestWhatIsBehindDoesNotCount(t *testing.T) {
	s := series(13)
	for _, p := range planes(&s) {
		eachBlock(p, func(x, y, n int) {
			q := api.Plane{W: p.W, H: p.H, Pix: bytes.Clone(p.Pix)}
			for i := range q.Pix {
				if !counts(i%p.W, i/p.W, x, y, n) {
					q.Pix[i] ^= byte(1 + s.below(255))
				}
			}
			b := s.any(n * n)
			for mode := range modes {
				g, e := intra.Guess(p, x, y, n, mode)
				h, f := intra.Guess(q, x, y, n, mode)
				if e != api.OK || f != api.OK || !slices.Equal(g, h) {
					t.Fatalf("mode %d of %d at (%d, %d): %v, %v, and %v, %v, if other samples are others", mode, n, x, y, g, e, h, f)
				}
			}
			m, g, _ := intra.Choose(p, x, y, n, b)
			if o, h, e := intra.Choose(q, x, y, n, b); e != api.OK || m != o || !slices.Equal(g, h) {
				t.Fatalf("%d at (%d, %d): %d, %v, and %d, %v, if other samples are others", n, x, y, m, g, o, h)
			}
		})
	}
}

// A plane may end with the block: what is right of it or below it need not be there.
func TestNothingNeedBeBehind(t *testing.T) {
	s := series(14)
	p := api.Plane{W: 20, H: 20, Pix: s.any(400)}
	eachBlock(p, func(x, y, n int) {
		q := api.Plane{W: x + n, H: y + n}
		for j := range q.H {
			q.Pix = append(q.Pix, p.Pix[j*p.W:j*p.W+q.W]...)
		}
		for mode := range modes {
			g, _ := intra.Guess(p, x, y, n, mode)
			if h, e := intra.Guess(q, x, y, n, mode); e != api.OK || !slices.Equal(g, h) {
				t.Fatalf("mode %d of %d at (%d, %d): %v, and %v, %v, if the plane ends there", mode, n, x, y, g, h, e)
			}
		}
	})
}

// Every sample that is above or left counts, in the modes that are said to look at it.
func TestWhatIsAheadCounts(t *testing.T) {
	for _, n := range sides {
		p := api.Plane{W: n + 1, H: n + 1, Pix: bytes.Repeat([]byte{100}, (n+1)*(n+1))}
		for i := range n {
			for mode, want := range []struct{ above, left, corner int }{{n * n, n * n, 0}, {n, 0, 0}, {0, n, 0}, {n, n, n * n}} {
				g, _ := intra.Guess(p, 1, 1, n, mode)
				for place, changed := range map[int]int{i + 1: want.above, (i + 1) * (n + 1): want.left, 0: want.corner} {
					p.Pix[place] = 140
					h, _ := intra.Guess(p, 1, 1, n, mode)
					p.Pix[place] = 100
					if c := differing(g, h); c != changed {
						t.Errorf("mode %d of %d, another sample at %d: %d samples differ, wanted %d", mode, n, place, c, changed)
					}
				}
			}
		}
	}
}

func differing(a, b []byte) int {
	n := 0
	for i := range a {
		if a[i] != b[i] {
			n++
		}
	}
	return n
}

// What goes in stays, and what comes out is new.

// within is a list with other samples ahead of it and behind it in its memory.
func within(b []byte) (part, whole []byte) {
	whole = slices.Concat([]byte{201, 202, 203}, b, []byte{204, 205, 206, 207, 208, 209, 210, 211, 212})
	return whole[3 : 3+len(b)], whole
}

func TestWhatGoesInStays(t *testing.T) {
	s := series(15)
	for _, n := range sides {
		pix, allPix := within(s.any(256))
		b, allB := within(s.any(n * n))
		p := api.Plane{W: 16, H: 16, Pix: pix}
		wasPix, wasB := bytes.Clone(allPix), bytes.Clone(allB)
		for mode := range modes + 1 {
			intra.Guess(p, 5, 3, n, mode)
		}
		_, g, _ := intra.Choose(p, 5, 3, n, b)
		guess, allGuess := within(g)
		wasGuess := bytes.Clone(allGuess)
		allRest := append(intra.Rest(b, guess), 7, 8, 9)
		rest := allRest[:n*n]
		wasRest := slices.Clone(allRest)
		intra.Clip(guess, rest)
		intra.Choose(p, 5, 3, n, b[1:])
		intra.Rest(b, guess[1:])
		intra.Clip(guess[1:], rest)
		if !slices.Equal(allPix, wasPix) || !slices.Equal(allB, wasB) || !slices.Equal(allGuess, wasGuess) || !slices.Equal(allRest, wasRest) {
			t.Errorf("with blocks of %d, what went in is another", n)
		}
	}
}

func TestWhatComesOutIsNew(t *testing.T) {
	s := series(16)
	p := api.Plane{W: 16, H: 16, Pix: s.any(256)}
	was := bytes.Clone(p.Pix)
	for _, n := range sides {
		for mode := range modes {
			g, _ := intra.Guess(p, 5, 3, n, mode)
			want := bytes.Clone(g)
			h, _ := intra.Guess(p, 5, 3, n, mode)
			m, c, _ := intra.Choose(p, 5, 3, n, g)
			m2, c2, _ := intra.Choose(p, 5, 3, n, g)
			wipe(h)
			wipe(c)
			if m != m2 || !slices.Equal(g, want) || !slices.Equal(c2, want) || !slices.Equal(p.Pix, was) {
				t.Errorf("mode %d of %d: an answer shares memory", mode, n)
			}
		}
		b, g := s.any(n*n), s.any(n*n)
		wantB, wantG := bytes.Clone(b), bytes.Clone(g)
		r, q := intra.Rest(b, g), intra.Rest(b, g)
		wantR := slices.Clone(r)
		wipe(q)
		c, d := intra.Clip(g, r), intra.Clip(g, r)
		wipe(d)
		if !slices.Equal(b, wantB) || !slices.Equal(g, wantG) || !slices.Equal(r, wantR) || !slices.Equal(c, wantB) {
			t.Errorf("rest and clip of %d: an answer shares memory", n)
		}
	}
}

// wipe changes all of a list, and what is behind its length.
func wipe[T byte | int](l []T) {
	l = l[:cap(l)]
	for i := range l {
		l[i] ^= 85
	}
}
