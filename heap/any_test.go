package heap_test

import (
	"math"
	"math/rand"
	"testing"

	"bonsai/heap"
)

// plain is the chapter's rules, written out: a list of what was made, each with its Values.
type plain struct {
	most, used int
	made       []plainThing
}

type plainThing struct {
	class  string
	values []heap.Value
}

// add makes a thing of n Values, and tells what is to be answered.
func (p *plain) add(class string, n int) (heap.Value, bool) {
	if n < 0 || p.used+1+n > p.most {
		return heap.Value{}, false
	}
	p.used += 1 + n
	p.made = append(p.made, plainThing{class, make([]heap.Value, n)})
	return heap.Value{Ref: len(p.made)}, true
}

// values are those of what v means.
func (p *plain) values(v heap.Value) []heap.Value {
	if v.Ref < 1 || v.Ref > len(p.made) {
		return nil
	}
	return p.made[v.Ref-1].values
}

// both asks a heap and a plain one the same.
type both struct {
	t     *testing.T
	r     *rand.Rand
	h     *heap.Heap
	p     plain
	count [5]int // made, refused, put, no such place, told what was put
}

// some tells a number from 0 to n-1, and now and then one beside them.
func (b *both) some(n int) int {
	if odd := []int{-1, n, n + 1, math.MaxInt, math.MinInt, 1 << 32}; n == 0 || b.r.Intn(12) == 0 {
		return odd[b.r.Intn(len(odd))]
	}
	return b.r.Intn(n)
}

// value tells any Value, and place one of what was made.
func (b *both) value() heap.Value {
	return heap.Value{N: int32(b.r.Uint32()), S: []string{"", "a", "b"}[b.r.Intn(3)], Ref: b.r.Intn(20) - 3}
}

func (b *both) place() (heap.Value, int) {
	v := heap.Value{N: int32(b.r.Intn(5)), Ref: 1 + b.some(len(b.p.made))}
	return v, b.some(len(b.p.values(v)))
}

func (b *both) make() {
	n, class := b.r.Intn(4), ""
	if b.r.Intn(3) == 0 {
		n = b.r.Intn(700)
	}
	var v, want heap.Value
	var ok, is bool
	if b.r.Intn(2) == 0 {
		n -= b.r.Intn(2)
		want, is = b.p.add("", n)
		v, ok = b.h.Array(int32(n))
	} else {
		class = []string{"C", "D", ""}[b.r.Intn(3)]
		want, is = b.p.add(class, n)
		v, ok = b.h.Object(class, slots(n))
	}
	if v != want || ok != is {
		b.t.Fatalf("made of %q, %d: %v, %t, not %v, %t", class, n, v, ok, want, is)
	}
	b.counts(0, is)
}

func (b *both) put() {
	v, i := b.place()
	l, x := b.p.values(v), b.value()
	is := i >= 0 && i < len(l)
	if is {
		l[i] = x
	}
	if ok := b.h.Put(v, i, x); ok != is {
		b.t.Fatalf("Put of %v at %d: %t", v, i, ok)
	}
	b.counts(2, is)
}

func (b *both) get() {
	v, i := b.place()
	l, want := b.p.values(v), heap.Value{}
	is := i >= 0 && i < len(l)
	if is {
		want = l[i]
	}
	if got, ok := b.h.Get(v, i); got != want || ok != is {
		b.t.Fatalf("Get of %v at %d: %v, %t, not %v, %t", v, i, got, ok, want, is)
	}
	if want != none {
		b.count[4]++
	}
}

func (b *both) counts(k int, is bool) {
	if !is {
		k++
	}
	b.count[k]++
}

// whole holds all of the one against all of the other.
func (b *both) whole() {
	if got := b.h.Used(); got != b.p.used {
		b.t.Fatalf("Used: %d, not %d", got, b.p.used)
	}
	for k, x := range b.p.made {
		has(b.t, b.h, ref(k+1), x.class, x.values...)
	}
	has(b.t, b.h, ref(len(b.p.made)+1), "")
}

func TestP15_1AnyCalls(t *testing.T) {
	r := rand.New(rand.NewSource(15))
	var count [5]int
	for k := range 1500 {
		most := r.Intn(3000) - 5
		b := both{t: t, r: r, h: heap.New(most), p: plain{most: max(most, 0)}, count: count}
		for range r.Intn(300) {
			switch r.Intn(5) {
			case 0:
				b.make()
			case 1, 2:
				b.get()
			default:
				b.put()
			}
		}
		b.whole()
		if count = b.count; t.Failed() {
			t.Fatalf("run %d", k)
		}
	}
	for k, n := range count {
		if n < 3000 {
			t.Errorf("too few of kind %d: %v", k, count)
		}
	}
}
