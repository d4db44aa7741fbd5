// Package wire implements the encodings of numbers, integers, truth values and texts.
package wire

import "dasd/api"

// mostBytes is the length of the longest encoding of a number.
const mostBytes = 10

// Reader reads encoded values.
type Reader struct {
	left string
	err  api.Errno
}

// AppendNumber appends a number.
func AppendNumber(s string, n uint64) string { return s + encode(n) }

// AppendInt appends an integer.
func AppendInt(s string, n int) string {
	// The arithmetic shift makes all bits of the second operand the sign: a negative n becomes the complement of 2n, which is -2n - 1.
	return AppendNumber(s, uint64(n<<1^n>>63))
}

// AppendBool appends a truth value.
func AppendBool(s string, x bool) string {
	if x {
		return s + "\x01"
	}
	return s + "\x00"
}

// AppendText appends a text.
func AppendText(s, text string) string { return s + encode(uint64(len(text))) + text }

// NewReader returns a reader of bytes.
func NewReader(s string) *Reader { return &Reader{left: s} }

// Number reads a number.
func (r *Reader) Number() uint64 { return r.read(r.number) }

// Int reads an integer.
func (r *Reader) Int() int {
	n := r.read(r.number)
	return int(n>>1) ^ -int(n&1)
}

// Bool reads a truth value.
func (r *Reader) Bool() bool { return r.read(r.bit) == 1 }

// Text reads a text of at most most bytes.
func (r *Reader) Text(most int) string {
	text := ""
	r.read(func() (uint64, api.Errno) {
		n, e := r.limited(most)
		if e != api.OK {
			return 0, e
		}
		if n > uint64(len(r.left)) {
			return 0, api.ErrCorrupt
		}
		text, r.left = r.left[:n], r.left[n:]
		return n, api.OK
	})
	return text
}

// Count reads a number that is at most most.
func (r *Reader) Count(most int) int {
	return int(r.read(func() (uint64, api.Errno) { return r.limited(most) }))
}

// Left returns the number of bytes that are left.
func (r *Reader) Left() int { return len(r.left) }

// Rest returns the bytes that are left.
func (r *Reader) Rest() string { return r.left }

// End returns the error of the reader, or OK if everything was read.
func (r *Reader) End() api.Errno {
	if r.left != "" {
		return api.ErrCorrupt
	}
	return r.err
}

// read lets take read a value, unless there has been an error. Since an error leaves nothing behind, take may have read a part of its value then.
func (r *Reader) read(take func() (uint64, api.Errno)) uint64 {
	if r.err != api.OK {
		return 0
	}
	n, e := take()
	if e != api.OK {
		r.left, r.err = "", e
		return 0
	}
	return n
}

// number takes a number from the front of the bytes that are left.
func (r *Reader) number() (uint64, api.Errno) {
	n := uint64(0)
	for i := range min(len(r.left), mostBytes) {
		b := r.left[i]
		if i == mostBytes-1 && b > 1 {
			// The groups before this one hold 63 bits, so that there is room for one more.
			return 0, api.ErrCorrupt
		}
		n |= uint64(b&0x7f) << (7 * i)
		if b >= 0x80 {
			continue
		}
		if b == 0 && i > 0 {
			return 0, api.ErrCorrupt
		}
		r.left = r.left[i+1:]
		return n, api.OK
	}
	return 0, api.ErrCorrupt
}

// limited takes a number that is at most most.
func (r *Reader) limited(most int) (uint64, api.Errno) {
	n, e := r.number()
	if e != api.OK {
		return 0, e
	}
	if most < 0 || n > uint64(most) {
		return 0, api.ErrTooLarge
	}
	return n, api.OK
}

// bit takes a truth value, as 0 or 1.
func (r *Reader) bit() (uint64, api.Errno) {
	if r.left == "" || r.left[0] > 1 {
		return 0, api.ErrCorrupt
	}
	b := r.left[0]
	r.left = r.left[1:]
	return uint64(b), api.OK
}

// encode returns the encoding of a number.
func encode(n uint64) string {
	var groups [mostBytes]byte
	i := 0
	for ; n >= 0x80; n >>= 7 {
		groups[i] = byte(n) | 0x80
		i++
	}
	groups[i] = byte(n)
	return string(groups[:i+1])
}
