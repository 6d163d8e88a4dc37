package wire_test

import (
	"bytes"
	"math"
	"slices"
	"strings"
	"testing"

	"bonsai/wire"
)

var nums = []struct {
	n int
	b []byte
}{
	{0, []byte{0}},
	{-1, []byte{0}},
	{math.MinInt, []byte{0}},
	{1, []byte{1}},
	{127, []byte{0x7f}},
	{128, []byte{0x80, 1}},
	{300, []byte{0xac, 2}},
	{1<<14 - 1, []byte{0xff, 0x7f}},
	{1 << 14, []byte{0x80, 0x80, 1}},
	{1<<56 - 1, []byte{0xff, 0xff, 0xff, 0xff, 0xff, 0xff, 0xff, 0x7f}},
	{1 << 56, []byte{0x80, 0x80, 0x80, 0x80, 0x80, 0x80, 0x80, 0x80, 1}},
	{math.MaxInt, []byte{0xff, 0xff, 0xff, 0xff, 0xff, 0xff, 0xff, 0xff, 0x7f}},
}

func TestP1_1Num(t *testing.T) {
	var all []int
	var want []byte
	for _, x := range nums {
		if got := wire.Num(nil, x.n); !bytes.Equal(got, x.b) {
			t.Errorf("Num(nil, %d): %x, not %x", x.n, got, x.b)
		}
		all, want = append(all, x.n), append(want, x.b...)
	}
	given := slices.Clone(all)
	if got := wire.Num([]byte{9, 8}, all...); !bytes.Equal(got, append([]byte{9, 8}, want...)) {
		t.Errorf("Num of many: %x", got)
	}
	if !slices.Equal(all, given) {
		t.Errorf("Num changed its list: %d", all)
	}
	if got := wire.Num(nil); len(got) != 0 {
		t.Errorf("Num of none: %x", got)
	}
	if got := wire.Num([]byte{7}); !bytes.Equal(got, []byte{7}) {
		t.Errorf("Num of none behind one: %x", got)
	}
}

var ints = []struct {
	n int32
	b []byte
}{
	{0, []byte{0}},
	{-1, []byte{1}},
	{1, []byte{2}},
	{-2, []byte{3}},
	{63, []byte{0x7e}},
	{-64, []byte{0x7f}},
	{64, []byte{0x80, 1}},
	{-65, []byte{0x81, 1}},
	{math.MaxInt32, []byte{0xfe, 0xff, 0xff, 0xff, 0x0f}},
	{math.MinInt32, []byte{0xff, 0xff, 0xff, 0xff, 0x0f}},
}

func TestP1_1Int(t *testing.T) {
	for _, x := range ints {
		if got := wire.Int([]byte{9}, x.n); !bytes.Equal(got, append([]byte{9}, x.b...)) {
			t.Errorf("Int(%d): %x, not 09%x", x.n, got, x.b)
		}
	}
}

func TestP1_1Text(t *testing.T) {
	long := strings.Repeat("x", 300)
	for _, x := range []struct{ s, want string }{
		{"", "\x00"},
		{"a", "\x01a"},
		{"ab", "\x02ab"},
		{"\x00\xff", "\x02\x00\xff"},
		{"é", "\x02\xc3\xa9"},
		{long[:127], "\x7f" + long[:127]},
		{long[:128], "\x80\x01" + long[:128]},
		{long, "\xac\x02" + long},
	} {
		if got := wire.Text([]byte("!"), x.s); string(got) != "!"+x.want {
			t.Errorf("Text(%q): %q", x.s, got)
		}
	}
}

func TestP1_1Two(t *testing.T) {
	for _, x := range []struct {
		n    int
		a, b byte
	}{
		{math.MinInt, 0, 0},
		{-1, 0, 0},
		{0, 0, 0},
		{1, 1, 0},
		{255, 0xff, 0},
		{256, 0, 1},
		{0x0102, 2, 1},
		{65535, 0xff, 0xff},
		{65536, 0xff, 0xff},
		{math.MaxInt, 0xff, 0xff},
	} {
		if got := wire.Two([]byte{9}, x.n); !bytes.Equal(got, []byte{9, x.a, x.b}) {
			t.Errorf("Two(%d): %x", x.n, got)
		}
	}
}

// DOC.md's rule 3: the spare room behind b isn't written to, and what is answered shares nothing with b.
func TestAnswersAreNew(t *testing.T) {
	for name, call := range map[string]func([]byte) []byte{
		"Num":         func(b []byte) []byte { return wire.Num(b, 300) },
		"Num of none": func(b []byte) []byte { return wire.Num(b) },
		"Int":         func(b []byte) []byte { return wire.Int(b, -300) },
		"Text":        func(b []byte) []byte { return wire.Text(b, "ab") },
		"Two":         func(b []byte) []byte { return wire.Two(b, 300) },
	} {
		room := []byte{1, 2, 0x55, 0x55, 0x55, 0x55, 0x55, 0x55}
		given := bytes.Clone(room)
		got := call(room[:2])
		got[0] = 77
		if !bytes.Equal(room, given) {
			t.Errorf("%s: what was handed in is now %x", name, room)
		}
	}
}
