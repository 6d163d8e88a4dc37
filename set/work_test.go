package set_test

import (
	"cmp"
	"math"
	"math/rand"
	"testing"

	"bonsai/set"
)

// takes takes what is to be done from w.
func takes[T cmp.Ordered](t *testing.T, w *set.Work[T], want ...T) {
	t.Helper()
	for _, x := range want {
		if got, ok := w.Take(); !ok || cmp.Compare(got, x) != 0 {
			t.Errorf("Take: %v, %v, not %v", got, ok, x)
		}
	}
}

// takesNone takes of a w that has nothing to be done.
func takesNone[T cmp.Ordered](t *testing.T, w *set.Work[T]) {
	t.Helper()
	var none T
	for range 3 {
		if got, ok := w.Take(); ok || got != none {
			t.Errorf("Take of none: %v, %v", got, ok)
		}
	}
}

// puts puts x to w.
func puts[T cmp.Ordered](t *testing.T, w *set.Work[T], x T, want bool) {
	t.Helper()
	if got := w.Put(x); got != want {
		t.Errorf("Put(%v): %v", x, got)
	}
}

func TestP7_1Put(t *testing.T) {
	w := set.NewWork[int]()
	takesNone(t, w)
	puts(t, w, 5, true)
	puts(t, w, 5, false)
	takes(t, w, 5)
	puts(t, w, 5, false) // though it isn't to be done any more
	takesNone(t, w)
	puts(t, w, 0, true)
	puts(t, w, 0, false)
	puts(t, w, 5, false)
	takes(t, w, 0)
	takesNone(t, w)
	for _, x := range []int{math.MaxInt, math.MinInt, -1, 1 << 32} {
		puts(t, w, x, true)
		puts(t, w, x, false)
	}
	takes(t, w, math.MinInt, -1, 1<<32, math.MaxInt)
	takesNone(t, w)
}

func TestP7_1Take(t *testing.T) {
	w := set.NewWork(4, 2, 6)
	takes(t, w, 2)
	puts(t, w, 1, true) // less than all
	puts(t, w, 5, true) // amid them
	puts(t, w, 9, true) // more than all
	takes(t, w, 1, 4)
	puts(t, w, 3, true) // less than what was taken last
	takes(t, w, 3, 5, 6, 9)
	takesNone(t, w)
	l := set.NewWork("b", "", "ab", "a", "\xff", "B", "é")
	takes(t, l, "", "B", "a", "ab", "b", "é", "\xff")
	takesNone(t, l)
	puts(t, l, "", false)
	puts(t, l, "a\x00", true)
	takes(t, l, "a\x00")
	takesNone(t, l)
}

func TestP7_1Again(t *testing.T) {
	w := set.NewWork(1, 2)
	w.Again(1) // to be done already
	w.Again(2)
	takes(t, w, 1)
	w.Again(1) // taken
	w.Again(1)
	takes(t, w, 1, 2)
	takesNone(t, w)
	w.Again(2)
	puts(t, w, 2, false)
	w.Again(1)
	takes(t, w, 1, 2)
	takesNone(t, w)
	w.Again(7) // never put: as if it was
	puts(t, w, 7, false)
	w.Again(7)
	takes(t, w, 7)
	takesNone(t, w)
	puts(t, w, 7, false)
	takesNone(t, w)
	empty := set.NewWork[string]()
	empty.Again("")
	takes(t, empty, "")
	takesNone(t, empty)
	puts(t, empty, "", false)
	takesNone(t, empty)
}

func TestP7_1NewWork(t *testing.T) {
	takesNone(t, set.NewWork[string]())
	takesNone(t, set.NewWork([]int(nil)...))
	w := set.NewWork(2, 1)
	takes(t, w, 1)
	w = set.NewWork(3, 1, 3, 2, 1, 1)
	for x := 1; x <= 3; x++ {
		puts(t, w, x, false)
	}
	takes(t, w, 1, 2, 3)
	takesNone(t, w)
	one, two := set.NewWork(1), set.NewWork(1)
	takes(t, one, 1)
	puts(t, one, 2, true)
	takes(t, two, 1)
	takesNone(t, two)
	puts(t, two, 2, true)
}

func TestP7_1AnyWork(t *testing.T) {
	var count [4]int
	r := rand.New(rand.NewSource(72))
	add := func(n [4]int) {
		for k := range n {
			count[k] += n[k]
		}
	}
	for k := range 1500 {
		add(heldWork(t, r, func() int { return r.Intn(1+k%200) - 5 }))
		add(heldWork(t, r, func() string { return text(r, k%5) }))
		add(heldWork(t, r, func() float64 { return odds[r.Intn(len(odds))] }))
	}
	for k, n := range count {
		if n < 5000 {
			t.Errorf("of kind %d: %d, too few", k, n)
		}
	}
}

// Each thing is done once, whoever puts it, and however often.
func TestP7_2Once(t *testing.T) {
	const n = 200000
	done := make([]int, n)
	w := set.NewWork(n / 2)
	for x, ok := w.Take(); ok; x, ok = w.Take() {
		done[x]++
		for _, y := range []int{(x + 1) % n, (x * 3) % n, (x + n - 7) % n, x} {
			w.Put(y)
		}
	}
	for x, k := range done {
		if k != 1 {
			t.Fatalf("%d was done %d times", x, k)
		}
	}
	for x := range n {
		w.Again(n - 1 - x)
		w.Again(n - 1 - x)
	}
	for x := range n {
		if got, ok := w.Take(); !ok || got != x {
			t.Fatalf("Take: %d, %v, not %d", got, ok, x)
		}
	}
	takesNone(t, w)
}
