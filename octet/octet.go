// Package octet is layer 1: numbers and bytes in a row: see shared/doc/01-octet.md.
package octet

import (
	"slices"

	"portmanteau/api"
)

const (
	more     = 128 // what a byte is greater by, if one more comes
	digit    = 7   // bits of a number in a byte
	longest  = 6   // bytes of the greatest number
	maxWidth = 8   // bytes of a uint64
)

// Number puts a number's bytes behind others.
func Number(b []byte, n int) []byte {
	return slices.Concat(b, numberBytes(n))
}

// Bytes puts how many bytes there are, and they, behind others.
func Bytes(b, x []byte) []byte {
	return slices.Concat(b, numberBytes(len(x)), x)
}

// Fixed puts a number's lowest bytes behind others.
func Fixed(b []byte, n uint64, width int) []byte {
	if !rightWidth(width) {
		width = 0
	}
	var low []byte
	for range width {
		low = append(low, byte(n))
		n >>= 8
	}
	// Concat and not append: even where nothing is added, the answer is memory of its own.
	return slices.Concat(b, low)
}

func numberBytes(n int) []byte {
	if n < 0 || n > api.MaxNumber {
		n = 0
	}
	var out []byte
	for ; n >= more; n >>= digit {
		out = append(out, byte(n)|more)
	}
	return append(out, byte(n))
}

func rightWidth(width int) bool {
	return width >= 0 && width <= maxWidth
}

// Reader reads bytes. Its first error stays; behind it nothing is read any more.
type Reader struct {
	rest []byte
	err  api.Errno
}

// New is a reader at the beginning.
func New(b []byte) *Reader {
	// A copy: the caller may change what was handed in while it is being read.
	return &Reader{rest: slices.Clone(b)}
}

// Fail is an error, if there is none yet.
func (r *Reader) Fail(e api.Errno) {
	if r.Err() == api.OK {
		r.err = e
	}
}

// Err is the first error.
func (r *Reader) Err() api.Errno {
	if r == nil {
		return api.ErrShort
	}
	return r.err
}

// Left is how many bytes are left.
func (r *Reader) Left() int {
	if r.Err() != api.OK {
		return 0
	}
	return len(r.rest)
}

// End tells whether all was read.
func (r *Reader) End() api.Errno {
	if r.Left() > 0 {
		return api.ErrMore
	}
	return r.Err()
}

// Number is the next number.
func (r *Reader) Number(most int) int {
	if r.Err() != api.OK {
		return 0
	}
	n, size, e := firstNumber(r.rest)
	if e == api.OK && n > min(most, api.MaxNumber) {
		e = api.ErrRange
	}
	if e != api.OK {
		r.Fail(e)
		return 0
	}
	r.take(size)
	return n
}

// Bytes is the next bytes.
func (r *Reader) Bytes(most int) []byte {
	n := r.Number(most)
	// A copy: readers that were copied from one another stand on the same bytes.
	return slices.Clone(r.take(n))
}

// Fixed is the next number of a width.
func (r *Reader) Fixed(width int) uint64 {
	if !rightWidth(width) {
		r.Fail(api.ErrRange)
		return 0
	}
	var n uint64
	for i, x := range r.take(width) {
		n |= uint64(x) << (8 * i)
	}
	return n
}

// List is as many as are said, each as it is told.
func List[T any](r *Reader, most int, one func(r *Reader) T) []T {
	n := r.Number(most)
	if one == nil {
		return nil
	}
	// No room is made ahead: the number said may be far above what the bytes hold.
	var list []T
	for range n {
		x := one(r)
		if r.Err() != api.OK {
			return nil
		}
		list = append(list, x)
	}
	return list
}

// take goes past n bytes and answers them; none, if there are fewer, or an error was there already.
func (r *Reader) take(n int) []byte {
	if n > r.Left() {
		r.Fail(api.ErrShort)
	}
	if r.Err() != api.OK {
		return nil
	}
	// Three indices: no append to what is taken can reach the rest.
	x := r.rest[:n:n]
	r.rest = r.rest[n:]
	return x
}

// firstNumber is the number at the beginning of b, and how many bytes it takes there.
func firstNumber(b []byte) (n, size int, e api.Errno) {
	for i, x := range b[:min(len(b), longest)] {
		n |= int(x%more) << (digit * i)
		if x >= more {
			continue
		}
		if x == 0 && i > 0 {
			return 0, 0, api.ErrForm
		}
		return n, i + 1, api.OK
	}
	if len(b) < longest {
		return 0, 0, api.ErrShort
	}
	return 0, 0, api.ErrForm
}
