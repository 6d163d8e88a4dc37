package set

import "cmp"

// Work holds what is to be done, and what ever was.
type Work[T cmp.Ordered] struct {
	ever *Set[T]
	now  *Set[T] // what is to be done
	heap []T     // the same; none is less than the one above it: that of k at (k-1)/2
}

// NewWork tells a Work to which all of l are put.
func NewWork[T cmp.Ordered](l ...T) *Work[T] {
	w := &Work[T]{ever: New[T](), now: New[T]()}
	for _, x := range l {
		w.Put(x)
	}
	return w
}

// Put has x done, unless it was put ever before: it tells whether it wasn't.
func (w *Work[T]) Put(x T) bool {
	if w.ever.Has(x) {
		return false
	}
	w.Again(x)
	return true
}

// Take tells the least of what is to be done, which then is no more; false of none.
func (w *Work[T]) Take() (T, bool) {
	var none T
	if len(w.heap) == 0 {
		return none, false
	}
	x, last := w.heap[0], len(w.heap)-1
	w.heap[0] = w.heap[last]
	w.heap[last] = none // the room behind the heap keeps nothing alive
	w.heap = w.heap[:last]
	w.sink()
	w.now.drop(x)
	return x, true
}

// Again has x done, unless it is to be done already, whatever was put before.
func (w *Work[T]) Again(x T) {
	w.ever.Add(x)
	if w.now.Add(x) {
		w.heap = append(w.heap, x)
		w.rise()
	}
}

// rise lifts the heap's last one as far as it is less than those above it.
func (w *Work[T]) rise() {
	for k := len(w.heap) - 1; k > 0; {
		up := (k - 1) / 2
		if !cmp.Less(w.heap[k], w.heap[up]) {
			return
		}
		w.heap[k], w.heap[up] = w.heap[up], w.heap[k]
		k = up
	}
}

// sink lowers the heap's first one as far as one below it is less.
func (w *Work[T]) sink() {
	for k := 0; ; {
		least := w.lesser(w.lesser(k, 2*k+1), 2*k+2)
		if least == k {
			return
		}
		w.heap[k], w.heap[least] = w.heap[least], w.heap[k]
		k = least
	}
}

// lesser tells which of the heap's places i and k has the lesser one: i, if there is no k.
func (w *Work[T]) lesser(i, k int) int {
	if k < len(w.heap) && cmp.Less(w.heap[k], w.heap[i]) {
		return k
	}
	return i
}
