package pool_test

import (
	"bytes"
	"math"
	"slices"
	"strconv"
	"strings"
	"testing"

	"bonsai/api"
	"bonsai/pool"
	"bonsai/wire"
)

// filled tells a pool in which those were put, in that order.
func filled(texts ...string) *pool.Pool {
	p := pool.New()
	for _, s := range texts {
		p.Put(s)
	}
	return p
}

// written tells the bytes of a pool of these, each where it stands, as the chapter has them.
func written(texts ...string) []byte {
	b := wire.Num(nil, len(texts))
	for _, s := range texts {
		b = append(b, wire.Text(nil, s)...)
	}
	return b
}

// numbered tells so many texts, all unlike.
func numbered(n int) []string {
	var l []string
	for i := range n {
		l = append(l, strconv.Itoa(i))
	}
	return l
}

// holds asks all of a pool that has just these, in that order.
func holds(t *testing.T, what string, p *pool.Pool, texts ...string) {
	t.Helper()
	if p.Len() != len(texts) {
		t.Errorf("%s: Len %d, not %d", what, p.Len(), len(texts))
	}
	for i, s := range texts {
		if got, ok := p.At(i); got != s || !ok {
			t.Errorf("%s: At(%d): %.90q, %t", what, i, got, ok)
		}
	}
	for _, i := range []int{len(texts), len(texts) + 1, -1, -len(texts), 1 << 32, math.MaxInt, math.MinInt} {
		if got, ok := p.At(i); got != "" || ok {
			t.Errorf("%s: At(%d) of none: %.90q, %t", what, i, got, ok)
		}
	}
	if got := p.Bytes(); !bytes.Equal(got, written(texts...)) {
		t.Errorf("%s: Bytes: %.90x", what, got)
	}
}

// odd are texts that a pool has to tell from each other.
func odd() []string {
	return []string{"", "a", "b", "ab", "ba", "A", "a\x00", "\x00", "\x00\x00", " ", "\xff", "\xfe", "é", "e\u0301", "0", strings.Repeat("a", api.MaxText), strings.Repeat("a", api.MaxText+1), strings.Repeat("\xff", 100000)}
}

func TestP4_1Put(t *testing.T) {
	p := pool.New()
	holds(t, "none", p)
	for i, x := range []struct {
		s    string
		want int
		all  []string
	}{
		{"a", 0, []string{"a"}},
		{"b", 1, []string{"a", "b"}},
		{"a", 0, []string{"a", "b"}},
		{"", 2, []string{"a", "b", ""}},
		{"b", 1, []string{"a", "b", ""}},
		{"", 2, []string{"a", "b", ""}},
		{"A", 3, []string{"a", "b", "", "A"}},
		{"a", 0, []string{"a", "b", "", "A"}},
	} {
		if got := p.Put(x.s); got != x.want {
			t.Errorf("Put(%q) of row %d: %d, not %d", x.s, i, got, x.want)
		}
		holds(t, "row "+strconv.Itoa(i), p, x.all...)
	}
}

func TestP4_1PutOfAny(t *testing.T) {
	p := pool.New()
	for range 2 {
		for i, s := range odd() {
			if got := p.Put(strings.Clone(s)); got != i {
				t.Errorf("Put(%.90q): %d, not %d", s, got, i)
			}
		}
	}
	holds(t, "odd", p, odd()...)
}

// The numbers are the order in which texts were put, not that of the texts.
func TestP4_1PutBackwards(t *testing.T) {
	l := numbered(300)
	slices.Reverse(l)
	holds(t, "backwards", filled(l...), l...)
}

// Two pools know nothing of each other.
func TestP4_1NewIsNew(t *testing.T) {
	p, q := filled("a", "b"), filled("b")
	if p.Put("b") != 1 || q.Put("b") != 0 || q.Put("a") != 1 || p.Put("a") != 0 {
		t.Error("Put into two")
	}
	holds(t, "the one", p, "a", "b")
	holds(t, "the other one", q, "b", "a")
}

func TestP4_1Bytes(t *testing.T) {
	for _, x := range []struct {
		texts []string
		want  string
	}{
		{nil, "\x00"},
		{[]string{""}, "\x01\x00"},
		{[]string{"a"}, "\x01\x01a"},
		{[]string{"b", "", "a"}, "\x03\x01b\x00\x01a"},
		{[]string{"\x00\xff", "é"}, "\x02\x02\x00\xff\x02\xc3\xa9"},
		{[]string{strings.Repeat("x", 300)}, "\x01\xac\x02" + strings.Repeat("x", 300)},
	} {
		if got := filled(x.texts...).Bytes(); string(got) != x.want {
			t.Errorf("Bytes of %.90q: %.90q", x.texts, got)
		}
	}
	for _, n := range []int{127, 128, 300} {
		if got, want := filled(numbered(n)...).Bytes(), wire.Num(nil, n); !bytes.HasPrefix(got, want) {
			t.Errorf("Bytes of %d: %.9x", n, got)
		}
	}
}

// The limits are Read's: a pool itself takes more and longer ones.
func TestP4_1PutBeyondLimits(t *testing.T) {
	l := append(numbered(api.MaxPool), "one more", strings.Repeat("x", api.MaxText+1))
	holds(t, "beyond", filled(l...), l...)
}

// taken asks Read of b, which begins with a pool of just these and has rest behind it.
func taken(t *testing.T, what string, b, rest []byte, texts ...string) *pool.Pool {
	t.Helper()
	r := wire.New(b)
	p, ok := pool.Read(r)
	if p == nil || !ok || r.Err() != api.OK {
		t.Fatalf("%s: Read: %t, %d", what, ok, r.Err())
	}
	holds(t, what, p, texts...)
	for _, c := range rest {
		if got := r.Num(math.MaxInt); got != int(c) {
			t.Errorf("%s: %d behind the pool, not %d", what, got, c)
		}
	}
	if !r.Done() {
		t.Errorf("%s: more behind the pool", what)
	}
	return p
}

func TestP4_1Read(t *testing.T) {
	for what, l := range map[string][]string{
		"none":         nil,
		"an empty one": {""},
		"one":          {"a"},
		"some":         {"b", "", "a", "\x00\xff", "é"},
		"many":         numbered(300),
		"most":         numbered(api.MaxPool),
		"long ones":    {strings.Repeat("x", api.MaxText), "b", strings.Repeat("\xff", api.MaxText), strings.Repeat("é", api.MaxText/2)},
	} {
		p := taken(t, what, written(l...), nil, l...)
		for i, s := range l {
			if got := p.Put(s); got != i {
				t.Errorf("%s: Put(%.90q): %d, not %d", what, s, got, i)
			}
		}
		if got := p.Put("a new one"); got != len(l) {
			t.Errorf("%s: Put of a new one: %d", what, got)
		}
		holds(t, what+" and one", p, append(slices.Clone(l), "a new one")...)
	}
}

func TestP4_1ReadTwice(t *testing.T) {
	for what, x := range map[string]struct {
		texts []string
		put   map[string]int
	}{
		"the same":   {[]string{"a", "a"}, map[string]int{"a": 0, "b": 2}},
		"thrice":     {[]string{"b", "a", "b", "", "a", "b", ""}, map[string]int{"a": 1, "b": 0, "": 3, "c": 7}},
		"the last":   {[]string{"a", "b", "c", "c"}, map[string]int{"c": 2, "d": 4}},
		"empty ones": {[]string{"", "", ""}, map[string]int{"": 0, "a": 3}},
		"most":       {slices.Repeat([]string{"a"}, api.MaxPool), map[string]int{"a": 0, "b": api.MaxPool}},
	} {
		for s, want := range x.put {
			p := taken(t, what, written(x.texts...), nil, x.texts...)
			all := x.texts
			if want == len(all) {
				all = append(slices.Clone(all), s)
			}
			for range 2 {
				if got := p.Put(s); got != want {
					t.Errorf("%s: Put(%q): %d, not %d", what, s, got, want)
				}
			}
			holds(t, what, p, all...)
		}
	}
}

// Read begins where the reader is, and takes no more than the pool.
func TestP4_1ReadBetween(t *testing.T) {
	b := append(written("a", "b"), 7, 0, 9)
	taken(t, "ahead of others", b, []byte{7, 0, 9}, "a", "b")
	r := wire.New(append([]byte{2, 1}, b...))
	if got := r.Two(258); got != 258 {
		t.Fatalf("ahead of the pool: %d", got)
	}
	p, ok := pool.Read(r)
	if !ok || r.Num(7) != 7 {
		t.Fatalf("Read between others: %t", ok)
	}
	q, ok := pool.Read(r)
	if !ok || r.Num(9) != 9 || !r.Done() {
		t.Fatalf("Read of another one: %t", ok)
	}
	p.Put("c")
	holds(t, "the one", p, "a", "b", "c")
	holds(t, "the other one", q)
}

// refused asks Read of r, which is at that error then.
func refused(t *testing.T, what string, r *wire.Reader, e api.Errno) {
	t.Helper()
	for range 2 {
		if p, ok := pool.Read(r); p != nil || ok {
			t.Errorf("%s: Read: %v, %t", what, p, ok)
		}
		if r.Err() != e {
			t.Errorf("%s: error %d, not %d", what, r.Err(), e)
		}
	}
}

func TestP4_1ReadOfWrong(t *testing.T) {
	most := written(numbered(api.MaxPool)...)
	long := strings.Repeat("x", api.MaxText+1)
	for what, x := range map[string]struct {
		b []byte
		e api.Errno
	}{
		"nothing":                       {nil, api.ErrShort},
		"no length's end":               {[]byte{0x80}, api.ErrShort},
		"no texts":                      {[]byte{1}, api.ErrShort},
		"too few":                       {[]byte{2, 1, 'a'}, api.ErrShort},
		"far too few":                   {wire.Num(nil, api.MaxPool), api.ErrShort},
		"half of one":                   {[]byte{1, 2, 'a'}, api.ErrShort},
		"one less than most":            {most[:len(most)-1], api.ErrShort},
		"a length in a longer form":     {[]byte{0x81, 0, 1, 'a'}, api.ErrForm},
		"none in a longer form":         {[]byte{0x80, 0}, api.ErrForm},
		"a length without end":          {bytes.Repeat([]byte{0x80}, 9), api.ErrForm},
		"a text in a longer form":       {[]byte{1, 0x81, 0, 'a'}, api.ErrForm},
		"the second in a longer form":   {[]byte{3, 1, 'a', 0x80, 0, 1, 'b'}, api.ErrForm},
		"one more than most":            {written(numbered(api.MaxPool + 1)...), api.ErrLimit},
		"one more, alike":               {written(make([]string, api.MaxPool+1)...), api.ErrLimit},
		"one more than most, not there": {wire.Num(nil, api.MaxPool+1), api.ErrLimit},
		"as many as can be":             {wire.Num(nil, math.MaxInt), api.ErrLimit},
		"one too long":                  {written(long), api.ErrLimit},
		"the last one too long":         {written("a", "b", long), api.ErrLimit},
		"too long, twice":               {written("a", long, long), api.ErrLimit},
		"too long ahead of too few":     {[]byte{2, 0xe9, 7}, api.ErrLimit},
		"too few ahead of nothing":      {[]byte{9, 5, 'a', 'b'}, api.ErrShort},
	} {
		refused(t, what, wire.New(x.b), x.e)
	}
}

// Each beginning of what is a pool is too short for one.
func TestP4_1ReadOfLess(t *testing.T) {
	b := written("a", "", strings.Repeat("x", 200), "a", "\xff")
	for i := range b {
		refused(t, strconv.Itoa(i)+" bytes", wire.New(b[:i]), api.ErrShort)
	}
	taken(t, "all bytes", b, nil, "a", "", strings.Repeat("x", 200), "a", "\xff")
}

func TestP4_1ReadOfNoReader(t *testing.T) {
	if p, ok := pool.Read(nil); p != nil || ok {
		t.Errorf("Read(nil): %v, %t", p, ok)
	}
}

// Of a reader that is at an error already there is no pool, also where one follows.
func TestP4_1ReadBehindAnError(t *testing.T) {
	r := wire.New(written("a"))
	if got := r.Num(0); got != 0 {
		t.Fatalf("Num(0) of 1: %d", got)
	}
	refused(t, "behind ErrLimit", r, api.ErrLimit)
	r = wire.New(nil)
	r.Two(9)
	refused(t, "behind ErrShort", r, api.ErrShort)
}

// Who says it twice writes it once: what was put again, however often, lets the bytes be as they were.
func TestP4_2(t *testing.T) {
	l := numbered(200)
	p := filled(l...)
	want := p.Bytes()
	for i := range 5 * len(l) {
		k := i * 7 % len(l)
		if got := p.Put(strings.Clone(l[k])); got != k {
			t.Errorf("Put(%q): %d", l[k], got)
		}
	}
	if got := p.Bytes(); p.Len() != len(l) || !bytes.Equal(got, want) || !bytes.Equal(got, written(l...)) {
		t.Errorf("%d texts, %d bytes; not %d, %d", p.Len(), len(got), len(l), len(want))
	}
	back, ok := pool.Read(wire.New(want))
	if !ok {
		t.Fatal("Read of Bytes")
	}
	for i, s := range l {
		if got := back.Put(s); got != i {
			t.Errorf("Put(%q) into what was read: %d", s, got)
		}
	}
	if !bytes.Equal(back.Bytes(), want) {
		t.Errorf("%d texts behind Put into what was read", back.Len())
	}
}

// Each text once, whatever is put: held against a list that is gone through.
func TestP4_2OfAllOrders(t *testing.T) {
	words := []string{"", "a", "b", "aa"}
	const steps = 6
	for x := range 1 << (2 * steps) {
		p, all := pool.New(), []string(nil)
		for i := range steps {
			s := words[x>>(2*i)&3]
			if !slices.Contains(all, s) {
				all = append(all, s)
			}
			if got := p.Put(s); got != slices.Index(all, s) {
				t.Fatalf("Put(%q) of order %d, step %d: %d", s, x, i, got)
			}
		}
		if !bytes.Equal(p.Bytes(), written(all...)) {
			t.Fatalf("order %d: %q", x, p.Bytes())
		}
	}
}

// DOC.md's rule 3: what Bytes answers is new memory, and the pool keeps none of it.
func TestBytesAreTheCallers(t *testing.T) {
	p := filled("a", "b")
	b := p.Bytes()
	b = append(b, 7)
	for i := range b {
		b[i] = 0xff
	}
	holds(t, "behind a change", p, "a", "b")
	before := p.Bytes()
	given := bytes.Clone(before)
	p.Put("c")
	if p.Bytes(); !bytes.Equal(before, given) {
		t.Errorf("what was answered is now %x", before)
	}
}

// A pool that was read hangs neither on the reader nor on the bytes any more.
func TestReadKeepsNothing(t *testing.T) {
	b := append(written("a", "b"), written("c")...)
	given := bytes.Clone(b)
	r := wire.New(b)
	p, _ := pool.Read(r)
	if !bytes.Equal(b, given) {
		t.Errorf("what was handed in is now %x", b)
	}
	clear(b)
	if q, ok := pool.Read(r); !ok || q.Len() != 1 {
		t.Errorf("Read of the next one: %t", ok)
	}
	r.Num(0)
	holds(t, "behind a change", p, "a", "b")
}
