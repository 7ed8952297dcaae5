// Package bits is layer 1: see shared/doc/01-bits.md.
package bits

import "kinora/api"

const (
	byteWidth = 8
	maxWidth  = 64 // of one number
)

// Writer has bits.
type Writer struct {
	bytes []byte // those behind the last bit are 0, so that Align and Bytes need not clear them
	count int
}

// New has none.
func New() *Writer { return &Writer{} }

// Put puts a number's bits behind.
func (w *Writer) Put(v uint64, n int) api.Errno {
	if w == nil || !isWidth(n) || v>>n != 0 {
		return api.ErrArg
	}
	for n > 0 {
		free := toWhole(w.count)
		if free == 0 {
			w.bytes = append(w.bytes, 0)
			free = byteWidth
		}
		k := min(n, free)
		n -= k
		w.bytes[len(w.bytes)-1] |= byte(v>>n&ones(k)) << (free - k)
		w.count += k
	}
	return api.OK
}

// Align fills up to whole bytes.
func (w *Writer) Align() api.Errno {
	if w == nil {
		return api.ErrArg
	}
	w.count += toWhole(w.count)
	return api.OK
}

// Len is how many bits there are.
func (w *Writer) Len() int {
	if w == nil {
		return 0
	}
	return w.count
}

// Bytes are they.
func (w *Writer) Bytes() []byte {
	if w == nil {
		return nil
	}
	return copied(w.bytes)
}

// Reader has bytes. Nothing writes into them, so that a copy of a Reader goes on by itself: who looks ahead with one has not moved the other.
type Reader struct {
	bytes []byte
	at    int
}

// Open is one of bytes.
func Open(b []byte) *Reader { return &Reader{bytes: copied(b)} }

// Get is the number of the next bits.
func (r *Reader) Get(n int) (uint64, api.Errno) {
	if r == nil || !isWidth(n) {
		return 0, api.ErrArg
	}
	if n > r.Left() {
		return 0, api.ErrBits
	}
	v := uint64(0)
	for n > 0 {
		behind := byteWidth - r.at%byteWidth
		k := min(n, behind)
		v = v<<k | uint64(r.bytes[r.at/byteWidth])>>(behind-k)&ones(k)
		r.at += k
		n -= k
	}
	return v, api.OK
}

// Align goes on to a whole byte.
func (r *Reader) Align() api.Errno {
	if r == nil {
		return api.ErrArg
	}
	k := toWhole(r.at)
	if k > 0 && uint64(r.bytes[r.at/byteWidth])&ones(k) != 0 {
		return api.ErrBits
	}
	r.at += k
	return api.OK
}

// At is how many bits are ahead.
func (r *Reader) At() int {
	if r == nil {
		return 0
	}
	return r.at
}

// Left is how many bits are behind.
func (r *Reader) Left() int {
	if r == nil {
		return 0
	}
	return len(r.bytes)*byteWidth - r.at
}

// Rest are the bytes behind.
func (r *Reader) Rest() []byte {
	if r == nil {
		return nil
	}
	return copied(r.bytes[(r.at+toWhole(r.at))/byteWidth:])
}

func isWidth(n int) bool { return n >= 0 && n <= maxWidth }

// toWhole is how many bits are wanting from n on to the next whole byte.
func toWhole(n int) int { return (byteWidth - n%byteWidth) % byteWidth }

// ones is the number whose lowest n bits are 1.
func ones(n int) uint64 { return 1<<n - 1 }

// copied is new memory: what comes in is not kept, and what goes out is not shared.
func copied(b []byte) []byte {
	c := make([]byte, len(b))
	copy(c, b)
	return c
}
