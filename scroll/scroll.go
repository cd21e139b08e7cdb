// Package scroll is layer 2: see shared/doc/02-scroll.md.
package scroll

import (
	"math"

	"armillary/api"
)

// Of a number's bytes: the bit that says that one more follows, and how many there are at most.
const (
	more     = 0x80
	mostSize = 10
)

// Writer is bytes that are written.
type Writer struct {
	written []byte
}

// Nums puts numbers behind what there is.
func (w *Writer) Nums(l ...uint64) *Writer {
	if w == nil {
		return nil
	}
	for _, n := range l {
		w.num(n)
	}
	return w
}

// Text puts texts behind what there is.
func (w *Writer) Text(l ...[]byte) *Writer {
	if w == nil {
		return nil
	}
	for _, text := range l {
		w.num(uint64(len(text)))
		w.written = append(w.written, text...)
	}
	return w
}

// Vecs puts vectors behind what there is.
func (w *Writer) Vecs(l ...[]int32) *Writer {
	if w == nil {
		return nil
	}
	for _, vector := range l {
		w.num(uint64(len(vector)))
		for _, n := range vector {
			w.num(fold(n))
		}
	}
	return w
}

// Bytes is all that was written, as a copy: the Writer may write on behind it.
func (w *Writer) Bytes() []byte {
	if w == nil {
		return nil
	}
	all := make([]byte, len(w.written))
	copy(all, w.written)
	return all
}

func (w *Writer) num(n uint64) {
	for n >= more {
		w.written = append(w.written, byte(n)|more)
		n >>= 7
	}
	w.written = append(w.written, byte(n))
}

// Reader is bytes that are read.
type Reader struct {
	left  []byte
	fault api.Errno // of what was met first; nothing is read behind it
}

// NewReader is a Reader at the beginning of p.
func NewReader(p []byte) *Reader {
	left := make([]byte, len(p))
	copy(left, p)
	return &Reader{left: left}
}

// Num is the next number.
func (r *Reader) Num(most uint64) uint64 {
	if r.done() {
		return 0
	}
	n, size, fault := number(r.left, most)
	if fault != api.OK {
		r.fault = fault
		return 0
	}
	r.left = r.left[size:]
	return n
}

// Text is the next text. No byte is handed out twice, and none with room behind it: the Reader's own copy is memory enough.
func (r *Reader) Text(most int) []byte {
	if r.done() {
		return nil
	}
	count, size, fault := number(r.left, atLeastNone(most))
	if fault == api.OK && count > uint64(len(r.left)-size) {
		fault = api.ErrShort
	}
	if fault != api.OK {
		r.fault = fault
		return nil
	}
	end := size + int(count)
	text := r.left[size:end:end]
	r.left = r.left[end:]
	return text
}

// Vec is the next vector.
func (r *Reader) Vec(most int) []int32 {
	if r.done() {
		return nil
	}
	vector, size, fault := vectorOf(r.left, atLeastNone(most))
	if fault != api.OK {
		r.fault = fault
		return nil
	}
	r.left = r.left[size:]
	return vector
}

// End tells whether everything was there, and nothing stands behind.
func (r *Reader) End() api.Errno {
	if r == nil {
		return api.OK
	}
	if r.fault == api.OK && len(r.left) > 0 {
		return api.ErrForm
	}
	return r.fault
}

// Left is how many bytes stand behind what was read.
func (r *Reader) Left() int {
	if r == nil {
		return 0
	}
	return len(r.left)
}

// done: is there nothing to be read any more, whatever stands behind?
func (r *Reader) done() bool {
	return r == nil || r.fault != api.OK
}

// vectorOf is the vector in front of p, and how many bytes it has.
func vectorOf(p []byte, most uint64) ([]int32, int, api.Errno) {
	count, size, fault := number(p, most)
	if fault != api.OK {
		return nil, 0, fault
	}
	// Each number has a byte at least: what a count says beyond that is no reason to take memory.
	vector := make([]int32, 0, min(count, uint64(len(p)-size)))
	for range count {
		n, step, fault := number(p[size:], math.MaxUint64)
		if fault != api.OK {
			return nil, 0, fault
		}
		if n > math.MaxUint32 {
			return nil, 0, api.ErrForm
		}
		vector = append(vector, unfold(uint32(n)))
		size += step
	}
	return vector, size, api.OK
}

// number is the number in front of p, and how many bytes it has. Whether all of it is there goes ahead of its form, and both ahead of most.
func number(p []byte, most uint64) (uint64, int, api.Errno) {
	size := numberSize(p)
	if size == 0 {
		return 0, 0, api.ErrShort
	}
	last := p[size-1]
	if size > 1 && last == 0 || size > mostSize || size == mostSize && last > 1 {
		return 0, 0, api.ErrForm
	}
	var n uint64
	for i, b := range p[:size] {
		n |= uint64(b&^more) << (7 * i)
	}
	if n > most {
		return 0, 0, api.ErrLong
	}
	return n, size, api.OK
}

// numberSize is how many bytes the number in front of p has; 0: not all of them are there.
func numberSize(p []byte) int {
	for i, b := range p {
		if b < more {
			return i + 1
		}
	}
	return 0
}

// fold makes a whole number one that isn't below 0: 2n, or -2n - 1.
func fold(n int32) uint64 {
	if n < 0 {
		return uint64(-2*int64(n) - 1)
	}
	return 2 * uint64(n)
}

// unfold is fold's way back.
func unfold(n uint32) int32 {
	half := int32(n >> 1)
	if n&1 == 1 {
		return -half - 1
	}
	return half
}

func atLeastNone(most int) uint64 {
	return uint64(max(most, 0))
}
