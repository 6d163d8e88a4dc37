package wire

import (
	"bytes"

	"bonsai/api"
)

// Reader takes from bytes what was put there.
type Reader struct {
	b   []byte
	at  int
	err api.Errno // the first one: it stays
}

// New tells a Reader at the beginning of b.
func New(b []byte) *Reader {
	return &Reader{b: bytes.Clone(b)}
}

// Num takes a number of at most most.
func (r *Reader) Num(most int) int {
	v, size, err := r.look(count(most))
	r.take(size, err)
	return int(v)
}

// Int takes a number that may be below 0.
func (r *Reader) Int() int32 {
	v, size, err := r.look(mostInt)
	r.take(size, err)
	return unfold(v)
}

// Two takes a number in two bytes, of at most most.
func (r *Reader) Two(most int) int {
	v, err := r.lookTwo(count(most))
	r.take(2, err)
	return int(v)
}

// Text takes a text of at most most bytes.
func (r *Reader) Text(most int) string {
	n, size, err := r.look(count(most))
	rest := r.b[r.at+size:]
	// A length may be as great as an int: it is held against what is there before anything is added to it.
	if err == api.OK && n > uint64(len(rest)) {
		n, err = 0, api.ErrShort
	}
	s := string(rest[:n])
	r.take(size+len(s), err)
	return s
}

// Done tells whether all bytes are taken, and rightly.
func (r *Reader) Done() bool {
	return r.err == api.OK && r.at == len(r.b)
}

// Err tells the first error.
func (r *Reader) Err() api.Errno {
	return r.err
}

// take goes on by size bytes, or stays for good where an error is.
func (r *Reader) take(size int, err api.Errno) {
	if err != api.OK {
		r.err = err
		return
	}
	r.at += size
}

// look tells the number that stands next and how many bytes it has, and takes nothing.
func (r *Reader) look(most uint64) (uint64, int, api.Errno) {
	if r.err != api.OK {
		return 0, 0, r.err
	}
	rest := r.b[r.at:]
	v := uint64(0)
	for i, c := range rest[:min(len(rest), maxBytes)] {
		v |= uint64(c&^goesOn) << (bitsEach * i)
		if c < goesOn {
			return whole(v, i+1, c, most)
		}
	}
	if len(rest) < maxBytes {
		return 0, 0, api.ErrShort
	}
	return 0, 0, api.ErrForm
}

// whole tells v, of size bytes, if it is in the shortest form and not above most.
func whole(v uint64, size int, last byte, most uint64) (uint64, int, api.Errno) {
	switch {
	case last == 0 && size > 1:
		return 0, 0, api.ErrForm
	case v > most:
		return 0, 0, api.ErrLimit
	}
	return v, size, api.OK
}

func (r *Reader) lookTwo(most uint64) (uint64, api.Errno) {
	rest := r.b[r.at:]
	switch {
	case r.err != api.OK:
		return 0, r.err
	case len(rest) < 2:
		return 0, api.ErrShort
	}
	v := uint64(rest[0]) | uint64(rest[1])<<8
	if v > most {
		return 0, api.ErrLimit
	}
	return v, api.OK
}
