// Package word is layer 1: see shared/doc/01-word.md.
package word

import "bytes"

// Reader goes through bytes of its own, so that a caller may write over those it handed in. Once Bad it has
// no rest: that alone keeps it telling nothing.
type Reader struct {
	rest []byte
	at   int
	bad  bool
}

// New answers a Reader at the first of the bytes.
func New(p []byte) *Reader {
	return &Reader{rest: bytes.Clone(p)}
}

// next goes through n bytes. It cuts them off without their spare room, which is the rest: so Take may hand
// them out, and whoever adds to them or writes over them doesn't reach what is still to be told.
func (r *Reader) next(n int) []byte {
	if r == nil {
		return nil
	}
	if n < 0 || n > len(r.rest) {
		r.rest, r.bad = nil, true
		return nil
	}
	p := r.rest[:n:n]
	r.rest = r.rest[n:]
	r.at += n
	return p
}

// number is 0 where next has nothing, as a Bad Reader asks for.
func (r *Reader) number(size int) uint32 {
	var n uint32
	for _, b := range r.next(size) {
		n = n<<8 | uint32(b)
	}
	return n
}

// U8 tells the next byte.
func (r *Reader) U8() byte { return byte(r.number(1)) }

// U16 tells the next two bytes as a number.
func (r *Reader) U16() uint16 { return uint16(r.number(2)) }

// I16 tells the next two bytes as a number with its sign.
func (r *Reader) I16() int16 { return int16(r.U16()) }

// U32 tells the next four bytes as a number.
func (r *Reader) U32() uint32 { return r.number(4) }

// Take tells the next n bytes.
func (r *Reader) Take(n int) []byte { return r.next(n) }

// At is how many bytes were gone through; a call that found too few went through none.
func (r *Reader) At() int {
	if r == nil {
		return 0
	}
	return r.at
}

// Left is how many bytes weren't gone through; of a Bad Reader none.
func (r *Reader) Left() int {
	if r == nil {
		return 0
	}
	return len(r.rest)
}

// Bad tells whether more was asked for than there was; a nil Reader never has what is asked for.
func (r *Reader) Bad() bool { return r == nil || r.bad }

// Sub tells n bytes of p from the place at on; false: they aren't all there.
func Sub(p []byte, at, n uint32) ([]byte, bool) {
	// In 64 bits, since the sum of both may not fit in 32.
	end := uint64(at) + uint64(n)
	if end > uint64(len(p)) {
		return nil, false
	}
	from, to := int(at), int(end)
	return bytes.Clone(p[from:to:to]), true
}

// Writer adds numbers and bytes; its zero value has nothing.
type Writer struct {
	all []byte
}

func (w *Writer) add(p ...byte) *Writer {
	if w == nil {
		return nil
	}
	w.all = append(w.all, p...)
	return w
}

// U8 adds one byte.
func (w *Writer) U8(n byte) *Writer { return w.add(n) }

// U16 adds a number of two bytes.
func (w *Writer) U16(n uint16) *Writer { return w.add(byte(n>>8), byte(n)) }

// I16 adds a number of two bytes with its sign.
func (w *Writer) I16(n int16) *Writer { return w.U16(uint16(n)) }

// U32 adds a number of four bytes.
func (w *Writer) U32(n uint32) *Writer {
	return w.add(byte(n>>24), byte(n>>16), byte(n>>8), byte(n))
}

// Put adds bytes.
func (w *Writer) Put(p []byte) *Writer { return w.add(p...) }

// Done tells all that was added, as a copy: what is added later doesn't reach it.
func (w *Writer) Done() []byte {
	if w == nil {
		return nil
	}
	return bytes.Clone(w.all)
}
