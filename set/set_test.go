package set_test

import (
	"cmp"
	"math"
	"math/rand"
	"slices"
	"testing"

	"bonsai/set"
)

// name is a type of its own: what is put needs to be ordered only.
type name string

// lists asks s for what it has.
func lists[T cmp.Ordered](t *testing.T, s *set.Set[T], want ...T) {
	t.Helper()
	if got := s.List(); !same(got, want) {
		t.Errorf("List: %v, not %v", got, want)
	}
	if s.Len() != len(want) {
		t.Errorf("Len: %d, not %d", s.Len(), len(want))
	}
	for _, x := range want {
		if !s.Has(x) {
			t.Errorf("Has(%v): false", x)
		}
	}
}

// adds adds x to s.
func adds[T cmp.Ordered](t *testing.T, s *set.Set[T], x T, want bool) {
	t.Helper()
	if got := s.Add(x); got != want {
		t.Errorf("Add(%v): %v", x, got)
	}
}

func TestP7_1Add(t *testing.T) {
	s := set.New[int]()
	lists(t, s)
	adds(t, s, 2, true)
	adds(t, s, 2, false)
	adds(t, s, 1, true)
	adds(t, s, 2, false)
	adds(t, s, 1, false)
	adds(t, s, 0, true)
	adds(t, s, 0, false)
	lists(t, s, 0, 1, 2)
	for _, x := range []int{math.MaxInt, math.MinInt, -1, 1 << 32, 1<<32 + 1, math.MinInt + 1} {
		adds(t, s, x, true)
		adds(t, s, x, false)
	}
	lists(t, s, math.MinInt, math.MinInt+1, -1, 0, 1, 2, 1<<32, 1<<32+1, math.MaxInt)
}

func TestP7_1AddTexts(t *testing.T) {
	s := set.New[string]()
	for _, x := range []string{"b", "", "ab", "a", "B", "a\x00", "\xff", "é", "z", "10", "9"} {
		adds(t, s, x, true)
		adds(t, s, x, false)
	}
	lists(t, s, "", "10", "9", "B", "a", "a\x00", "ab", "b", "z", "é", "\xff")
}

func TestP7_1Has(t *testing.T) {
	s := set.New(3, 5)
	for x, want := range map[int]bool{3: true, 5: true, 0: false, 4: false, -3: false, 3 + 1<<32: false, math.MinInt: false} {
		if got := s.Has(x); got != want {
			t.Errorf("Has(%d): %v", x, got)
		}
	}
	lists(t, s, 3, 5)
	l := set.New("a")
	for _, x := range []string{"", "A", "a ", "aa", "a\x00"} {
		if l.Has(x) {
			t.Errorf("Has(%q) of a alone", x)
		}
	}
	lists(t, l, "a")
	if set.New[string]().Has("") {
		t.Error("Has of nothing")
	}
}

func TestP7_1List(t *testing.T) {
	s := set.New(3, 1, 2)
	a, b := s.List(), s.List()
	a[0], a[1], a[2] = 9, 9, 9
	_ = append(a[:1], 7, 7)
	if !same(b, []int{1, 2, 3}) {
		t.Errorf("one List in another one: %v", b)
	}
	lists(t, s, 1, 2, 3)
	adds(t, s, 0, true)
	if !same(b, []int{1, 2, 3}) {
		t.Errorf("Add changes a List: %v", b)
	}
	lists(t, s, 0, 1, 2, 3)
}

func TestP7_1New(t *testing.T) {
	lists(t, set.New[int]())
	lists(t, set.New[string]([]string(nil)...))
	lists(t, set.New(0), 0)
	lists(t, set.New(""), "")
	lists(t, set.New(2, 1, 2, 2, 1), 1, 2)
	s := set.New("b", "a", "b")
	adds(t, s, "b", false)
	adds(t, s, "c", true)
	lists(t, s, "a", "b", "c")
	one, two := set.New(1), set.New(1)
	adds(t, one, 2, true)
	lists(t, one, 1, 2)
	lists(t, two, 1)
}

// What is ordered may be put, whatever it is; and of odd numbers each is there once, too.
func TestP7_1OtherTypes(t *testing.T) {
	lists(t, set.New[name]("b", "a", "b"), "a", "b")
	lists(t, set.New[uint8](255, 0, 128, 255), 0, 128, 255)
	lists(t, set.New[int8](127, -128, 0, 127), -128, 0, 127)
	lists(t, set.New[uint64](math.MaxUint64, 1, math.MaxInt64+1), 1, math.MaxInt64+1, math.MaxUint64)
	odd, low := math.NaN(), math.Inf(-1)
	s := set.New(1.5, odd, low)
	adds(t, s, odd, false)
	adds(t, s, -odd, false)
	adds(t, s, 0, true)
	adds(t, s, math.Copysign(0, -1), false)
	lists(t, s, odd, low, 0, 1.5)
	if set.New(0.0).Has(odd) {
		t.Error("Has of what isn't in")
	}
	adds(t, set.New(0.0), odd, true)
	w := set.NewWork(odd, 1, odd, low)
	puts(t, w, odd, false)
	takes(t, w, odd)
	puts(t, w, odd, false)
	takes(t, w, low)
	w.Again(odd)
	w.Again(odd)
	takes(t, w, odd, 1)
	takesNone(t, w)
}

func TestP7_1AnySet(t *testing.T) {
	var yes, no int
	r := rand.New(rand.NewSource(71))
	count := func(a, b int) { yes, no = yes+a, no+b }
	for k := range 1500 {
		count(heldSets(t, r, func() int { return r.Intn(1+k%40) - 5 }))
		count(heldSets(t, r, func() string { return text(r, k%4) }))
		count(heldSets(t, r, func() float64 { return odds[r.Intn(len(odds))] }))
	}
	if yes < 10000 || no < 10000 {
		t.Errorf("%d, %d: too few of a kind", yes, no)
	}
}

var odds = []float64{math.NaN(), math.Inf(1), math.Inf(-1), 0, -1, 1, 2}

// text tells a text of at most n letters.
func text(r *rand.Rand, n int) string {
	b := make([]byte, r.Intn(n+1))
	for k := range b {
		b[k] = "aAb\x00\xff"[r.Intn(5)]
	}
	return string(b)
}

func TestP7_2ManyInASet(t *testing.T) {
	const n = 200000
	s := set.New[int]()
	for k := range 2 * n {
		x := k * 77773 % n
		if got := s.Add(x); got != (k < n) {
			t.Fatalf("Add(%d): %v", x, got)
		}
	}
	l := s.List()
	if s.Len() != n || len(l) != n {
		t.Fatalf("%d, %d of %d", s.Len(), len(l), n)
	}
	for k, x := range l {
		if x != k {
			t.Fatalf("List: %d at %d", x, k)
		}
	}
}

// DOC.md, rule 3: neither changed nor kept, its spare room included.
func TestHandedInStays(t *testing.T) {
	room := []string{"c", "a", "c", "b", "x", "y"}
	kept := slices.Clone(room)
	l := room[:4]
	s, w := set.New(l...), set.NewWork(l...)
	s.Add("d")
	s.Add("e")
	w.Put("d")
	w.Again("a")
	if !same(room, kept) {
		t.Errorf("changed: %v", room)
	}
	for k := range room {
		room[k] = "z"
	}
	lists(t, s, "a", "b", "c", "d", "e")
	takes(t, w, "a", "b", "c", "d")
	takesNone(t, w)
}

// DOC.md, rule 8: not on a map's order.
func TestSameAgain(t *testing.T) {
	r := rand.New(rand.NewSource(8))
	var l []string
	for range 300 {
		l = append(l, text(r, 6))
	}
	want := set.New(l...).List()
	for range 20 {
		r.Shuffle(len(l), func(i, k int) { l[i], l[k] = l[k], l[i] })
		s := set.New(l...)
		lists(t, s, want...)
		lists(t, s, want...)
		takes(t, set.NewWork(l...), want...)
	}
}
