package wire_test

import (
	"bytes"
	"math"
	"strings"
	"testing"

	"bonsai/api"
	"bonsai/wire"
)

// stays asks all of a reader that is at an error.
func stays(t *testing.T, what any, r *wire.Reader, e api.Errno) {
	t.Helper()
	for range 2 {
		if r.Num(math.MaxInt) != 0 || r.Int() != 0 || r.Two(math.MaxInt) != 0 || r.Text(math.MaxInt) != "" {
			t.Errorf("%v: something is told behind an error", what)
		}
		if r.Err() != e || r.Done() {
			t.Errorf("%v: error %d, not %d; done %t", what, r.Err(), e, r.Done())
		}
	}
}

func TestP1_2Num(t *testing.T) {
	for _, x := range nums {
		n := max(x.n, 0)
		r := wire.New(append(bytes.Clone(x.b), 5))
		if got := r.Num(n); got != n || r.Err() != api.OK || r.Done() {
			t.Errorf("Num of %x: %d, %d", x.b, got, r.Err())
		}
		if r.Num(5) != 5 || !r.Done() || r.Err() != api.OK {
			t.Errorf("Num behind %x: %d", x.b, r.Err())
		}
		for i := range x.b {
			r := wire.New(x.b[:i])
			if got := r.Num(math.MaxInt); got != 0 {
				t.Errorf("Num of %x: %d", x.b[:i], got)
			}
			stays(t, x.b[:i], r, api.ErrShort)
		}
		if n > 0 {
			r := wire.New(x.b)
			if got := r.Num(n - 1); got != 0 {
				t.Errorf("Num of %x above most: %d", x.b, got)
			}
			stays(t, x.b, r, api.ErrLimit)
		}
	}
	for _, most := range []int{-1, math.MinInt} {
		if r := wire.New([]byte{0}); r.Num(most) != 0 || !r.Done() {
			t.Errorf("Num(%d) of 0: %d", most, r.Err())
		}
		r := wire.New([]byte{1})
		if got := r.Num(most); got != 0 {
			t.Errorf("Num(%d) of 1: %d", most, got)
		}
		stays(t, most, r, api.ErrLimit)
	}
}

func goOn(n int, last ...byte) []byte {
	return append(bytes.Repeat([]byte{0x80}, n), last...)
}

// Of several errors the one that the chapter names first.
func TestP1_2Order(t *testing.T) {
	for _, x := range []struct {
		b []byte
		e api.Errno
	}{
		{goOn(9), api.ErrForm},
		{goOn(9, 0), api.ErrForm},
		{goOn(9, 1), api.ErrForm},
		{goOn(30, 1), api.ErrForm},
		{bytes.Repeat([]byte{0xff}, 9), api.ErrForm},
		{nil, api.ErrShort},
		{goOn(1), api.ErrShort},
		{goOn(8), api.ErrShort},
		{goOn(1, 0), api.ErrForm},
		{goOn(8, 0), api.ErrForm},
		{[]byte{0xff, 0}, api.ErrForm},
		{[]byte{0xff, 0, 1}, api.ErrForm},
		{goOn(8, 1), api.ErrLimit},
		{goOn(1, 1), api.ErrLimit},
		{[]byte{1}, api.ErrLimit},
	} {
		r := wire.New(x.b)
		if got := r.Num(0); got != 0 {
			t.Errorf("Num of %x: %d", x.b, got)
		}
		stays(t, x.b, r, x.e)
		r = wire.New(x.b)
		if got := r.Text(0); got != "" {
			t.Errorf("Text of %x: %q", x.b, got)
		}
		stays(t, x.b, r, x.e)
	}
}

func TestP1_2Int(t *testing.T) {
	for _, x := range ints {
		r := wire.New(x.b)
		if got := r.Int(); got != x.n || !r.Done() {
			t.Errorf("Int of %x: %d, %d", x.b, got, r.Err())
		}
	}
	for _, x := range []struct {
		b []byte
		e api.Errno
	}{
		{nil, api.ErrShort},
		{goOn(4), api.ErrShort},
		{goOn(4, 0), api.ErrForm},
		{goOn(9), api.ErrForm},
		{goOn(4, 0x10), api.ErrLimit},
		{goOn(8, 1), api.ErrLimit},
	} {
		r := wire.New(x.b)
		if got := r.Int(); got != 0 {
			t.Errorf("Int of %x: %d", x.b, got)
		}
		stays(t, x.b, r, x.e)
	}
}

func TestP1_2Two(t *testing.T) {
	for _, x := range []struct {
		b    []byte
		most int
		want int
		e    api.Errno
	}{
		{[]byte{0, 0}, 0, 0, api.OK},
		{[]byte{0, 0}, -9, 0, api.OK},
		{[]byte{2, 1}, 0x0102, 0x0102, api.OK},
		{[]byte{0xff, 0xff}, 65535, 65535, api.OK},
		{[]byte{0xff, 0xff}, math.MaxInt, 65535, api.OK},
		{[]byte{2, 1}, 0x0101, 0, api.ErrLimit},
		{[]byte{1, 0}, -9, 0, api.ErrLimit},
		{[]byte{0xff, 0xff}, 65534, 0, api.ErrLimit},
		{nil, 9, 0, api.ErrShort},
		{[]byte{9}, 0, 0, api.ErrShort},
	} {
		r := wire.New(x.b)
		if got := r.Two(x.most); got != x.want || r.Err() != x.e {
			t.Errorf("Two(%d) of %x: %d, %d", x.most, x.b, got, r.Err())
		}
		if x.e != api.OK {
			stays(t, x.b, r, x.e)
		} else if !r.Done() {
			t.Errorf("Two of %x leaves some", x.b)
		}
	}
}

func TestP1_2Text(t *testing.T) {
	long := strings.Repeat("x", 300)
	for _, s := range []string{"", "a", "\x00\xff", "é", long[:127], long[:128], long} {
		b := wire.Text(nil, s)
		r := wire.New(append(bytes.Clone(b), 4))
		if got := r.Text(len(s)); got != s || r.Err() != api.OK || r.Num(4) != 4 || !r.Done() {
			t.Errorf("Text of %q: %q, %d", b, got, r.Err())
		}
		for i := range b {
			r := wire.New(b[:i])
			if got := r.Text(len(s)); got != "" {
				t.Errorf("Text of %q: %q", b[:i], got)
			}
			stays(t, b[:i], r, api.ErrShort)
		}
		if s != "" {
			r := wire.New(b)
			if got := r.Text(len(s) - 1); got != "" {
				t.Errorf("Text of %q above most: %q", b, got)
			}
			stays(t, b, r, api.ErrLimit)
		}
	}
	if r := wire.New([]byte{0}); r.Text(-1) != "" || !r.Done() {
		t.Errorf("Text(-1) of none: %d", r.Err())
	}
	r := wire.New(wire.Num(nil, math.MaxInt))
	if got := r.Text(math.MaxInt); got != "" {
		t.Errorf("Text of MaxInt bytes: %q", got)
	}
	stays(t, "MaxInt bytes", r, api.ErrShort)
}

func TestP1_2InTurn(t *testing.T) {
	b := wire.Two(wire.Text(wire.Int(wire.Num(nil, 300), -7), "abc"), 513)
	r := wire.New(b)
	if r.Num(300) != 300 || r.Int() != -7 || r.Text(3) != "abc" || r.Done() || r.Two(513) != 513 || !r.Done() {
		t.Errorf("in turn: %d", r.Err())
	}
	if r.Num(1) != 0 {
		t.Error("a number behind the end")
	}
	stays(t, "behind the end", r, api.ErrShort)
	if r := wire.New(nil); !r.Done() || r.Err() != api.OK {
		t.Errorf("of nothing: %d", r.Err())
	}
}

// DOC.md's rule 3: a reader neither changes what it was made of nor keeps it.
func TestReaderKeepsNothing(t *testing.T) {
	b := []byte{3, 'a', 'b', 'c', 7}
	given := bytes.Clone(b)
	r := wire.New(b)
	if got := r.Text(3); got != "abc" || !bytes.Equal(b, given) {
		t.Errorf("Text: %q, of %x", got, b)
	}
	b[4] = 8
	if got := r.Num(99); got != 7 {
		t.Errorf("a number that was changed behind New: %d", got)
	}
}

// Of all bytes of up to three, those that are taken whole are just those that are put for what they tell.
func TestP1_3OneForm(t *testing.T) {
	forms := map[int]int{}
	check := func(b []byte) {
		r := wire.New(b)
		if n := r.Num(math.MaxInt); r.Done() {
			forms[n]++
			if got := wire.Num(nil, n); !bytes.Equal(got, b) {
				t.Fatalf("%x tells %d, whose form is %x", b, n, got)
			}
		}
		r = wire.New(b)
		if n := r.Int(); r.Done() {
			if got := wire.Int(nil, n); !bytes.Equal(got, b) {
				t.Fatalf("%x tells %d, whose form is %x", b, n, got)
			}
		}
	}
	for x := range 1 << 8 {
		check([]byte{byte(x)})
	}
	for x := range 1 << 16 {
		check([]byte{byte(x), byte(x >> 8)})
	}
	for x := range 1 << 24 {
		if x&0x8080 == 0x8080 { // the others end ahead of the third byte
			check([]byte{byte(x), byte(x >> 8), byte(x >> 16)})
		}
	}
	if len(forms) != 1<<21 {
		t.Errorf("%d numbers, not %d", len(forms), 1<<21)
	}
	for n, k := range forms {
		if n < 0 || n >= 1<<21 || k != 1 {
			t.Errorf("%d has %d forms", n, k)
		}
	}
}
