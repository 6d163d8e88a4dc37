package set_test

import (
	"cmp"
	"math/rand"
	"slices"
	"testing"

	"bonsai/set"
)

// plain is a set, and what is left to do, told by lists that are gone through from their beginnings.
type plain[T cmp.Ordered] struct {
	ever, now []T
}

func has[T cmp.Ordered](l []T, x T) bool {
	return slices.ContainsFunc(l, func(y T) bool { return cmp.Compare(x, y) == 0 })
}

func (p *plain[T]) put(x T) bool {
	if has(p.ever, x) {
		return false
	}
	p.again(x)
	return true
}

func (p *plain[T]) again(x T) {
	if !has(p.ever, x) {
		p.ever = append(p.ever, x)
	}
	if !has(p.now, x) {
		p.now = append(p.now, x)
	}
}

func (p *plain[T]) take() (T, bool) {
	if len(p.now) == 0 {
		var none T
		return none, false
	}
	at := 0
	for k, x := range p.now {
		if cmp.Less(x, p.now[at]) {
			at = k
		}
	}
	x := p.now[at]
	p.now = slices.Delete(p.now, at, at+1)
	return x, true
}

// rising tells l in order, by putting each where it belongs.
func rising[T cmp.Ordered](l []T) []T {
	var got []T
	for _, x := range l {
		k := 0
		for k < len(got) && cmp.Less(got[k], x) {
			k++
		}
		got = slices.Insert(got, k, x)
	}
	return got
}

func same[T cmp.Ordered](a, b []T) bool {
	return slices.Compare(a, b) == 0
}

// heldSets asks a set and plain lists the same, of things that some tells; it tells how often Add answered true and false.
func heldSets[T cmp.Ordered](t *testing.T, r *rand.Rand, some func() T) (yes, no int) {
	t.Helper()
	p, first := plain[T]{}, []T{}
	for range r.Intn(4) {
		first = append(first, some())
	}
	s := set.New(first...)
	for _, x := range first {
		p.put(x)
	}
	for range r.Intn(60) {
		x := some()
		if got := s.Has(x); got != has(p.ever, x) {
			t.Fatalf("Has(%v): %v in %v", x, got, p.ever)
		}
		if r.Intn(2) == 0 {
			want := p.put(x)
			if got := s.Add(x); got != want {
				t.Fatalf("Add(%v): %v in %v", x, got, p.ever)
			}
			if want {
				yes++
			} else {
				no++
			}
		}
		if s.Len() != len(p.ever) {
			t.Fatalf("Len: %d of %v", s.Len(), p.ever)
		}
		if got, want := s.List(), rising(p.ever); !same(got, want) {
			t.Fatalf("List: %v, not %v", got, want)
		}
	}
	return yes, no
}

// heldWork asks a Work and plain lists the same, of things that some tells; it tells how often Put and Take answered true and false.
func heldWork[T cmp.Ordered](t *testing.T, r *rand.Rand, some func() T) (count [4]int) {
	t.Helper()
	p, first := plain[T]{}, []T{}
	for range r.Intn(6) {
		first = append(first, some())
	}
	w := set.NewWork(first...)
	for _, x := range first {
		p.put(x)
	}
	for range r.Intn(200) {
		x := some()
		switch r.Intn(5) {
		case 0, 1:
			want := p.put(x)
			if got := w.Put(x); got != want {
				t.Fatalf("Put(%v): %v, to %v, %v ever", x, got, p.now, p.ever)
			}
			count[at(want)]++
		case 2:
			p.again(x)
			w.Again(x)
		default:
			count[2+at(takeSame(t, w, &p))]++
		}
	}
	for takeSame(t, w, &p) {
	}
	return count
}

func takeSame[T cmp.Ordered](t *testing.T, w *set.Work[T], p *plain[T]) bool {
	t.Helper()
	before := slices.Clone(p.now)
	want, is := p.take()
	if got, ok := w.Take(); ok != is || cmp.Compare(got, want) != 0 {
		t.Fatalf("Take: %v, %v, of %v", got, ok, before)
	}
	return is
}

func at(is bool) int {
	if is {
		return 0
	}
	return 1
}
