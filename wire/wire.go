// Package wire: Numbers and texts as bytes: see doc/01-wire.md.
package wire

const (
	bitsEach = 7             // of a number in each of its bytes
	goesOn   = 1 << bitsEach // this bit of a byte: another one follows
	maxBytes = 9             // of a number: 63 bits, what an int holds
	mostTwo  = 1<<16 - 1     // what two bytes hold
	mostInt  = 1<<32 - 1     // what an Int is at most as a Num
)

// Num tells b and behind it each of l.
func Num(b []byte, l ...int) []byte {
	size := 0
	for _, n := range l {
		size += width(count(n))
	}
	out := withRoom(b, size)
	for _, n := range l {
		out = put(out, count(n))
	}
	return out
}

// Int tells b and behind it n, that may be below 0.
func Int(b []byte, n int32) []byte {
	v := fold(n)
	return put(withRoom(b, width(v)), v)
}

// Text tells b and behind it the length of s, and s.
func Text(b []byte, s string) []byte {
	v := uint64(len(s))
	return append(put(withRoom(b, width(v)+len(s)), v), s...)
}

// Two tells b and behind it n in two bytes.
func Two(b []byte, n int) []byte {
	v := min(count(n), mostTwo)
	return append(withRoom(b, 2), byte(v), byte(v>>8))
}

// withRoom copies b: the spare room behind the caller's b isn't ours to write to.
func withRoom(b []byte, extra int) []byte {
	return append(make([]byte, 0, len(b)+extra), b...)
}

func count(n int) uint64 {
	return uint64(max(n, 0))
}

func width(v uint64) int {
	n := 1
	for ; v >= goesOn; v >>= bitsEach {
		n++
	}
	return n
}

func put(b []byte, v uint64) []byte {
	for ; v >= goesOn; v >>= bitsEach {
		b = append(b, byte(v)|goesOn)
	}
	return append(b, byte(v))
}

// fold lays those below 0 between the others, so that small ones of either sign are short.
func fold(n int32) uint64 {
	if n < 0 {
		return uint64(-2*int64(n) - 1)
	}
	return 2 * uint64(n)
}

func unfold(v uint64) int32 {
	half := int64(v / 2)
	if v%2 == 1 {
		return int32(-half - 1)
	}
	return int32(half)
}
