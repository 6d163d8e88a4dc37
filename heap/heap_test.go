package heap_test

import (
	"math"
	"slices"
	"strconv"
	"testing"

	"bonsai/api"
	"bonsai/heap"
)

// none is what isn't there: null, and a zero of every kind.
var none = heap.Value{}

func num(n int32) heap.Value { return heap.Value{N: n} }

func text(s string) heap.Value { return heap.Value{S: s} }

func ref(k int) heap.Value { return heap.Value{Ref: k} }

// slots tells so many fields.
func slots(n int) []api.Field {
	var l []api.Field
	for k := range n {
		l = append(l, api.Field{Name: "f" + strconv.Itoa(k), Type: api.Type{Kind: 1 + k%4, Class: "C"}})
	}
	return l
}

// object makes an object of C, which is to be number want, and is to take all behind it.
func object(t *testing.T, h *heap.Heap, n, want int) heap.Value {
	t.Helper()
	before := h.Used()
	v, ok := h.Object("C", slots(n))
	return made(t, h, v, ok, want, before+1+n)
}

// array is object's like of an array.
func array(t *testing.T, h *heap.Heap, n int32, want int) heap.Value {
	t.Helper()
	before := h.Used()
	v, ok := h.Array(n)
	return made(t, h, v, ok, want, before+1+int(n))
}

func made(t *testing.T, h *heap.Heap, v heap.Value, ok bool, want, used int) heap.Value {
	t.Helper()
	if v != ref(want) || !ok {
		t.Fatalf("made %v, %t, not %d", v, ok, want)
	}
	if got := h.Used(); got != used {
		t.Fatalf("Used: %d, not %d", got, used)
	}
	return v
}

// refused holds that nothing was made.
func refused(t *testing.T, h *heap.Heap, v heap.Value, ok bool, used int) {
	t.Helper()
	if v != none || ok {
		t.Errorf("made %v, %t", v, ok)
	}
	if got := h.Used(); got != used {
		t.Errorf("Used: %d, not %d", got, used)
	}
}

func puts(t *testing.T, h *heap.Heap, v heap.Value, i int, x heap.Value, want bool) {
	t.Helper()
	if got := h.Put(v, i, x); got != want {
		t.Errorf("Put of %v at %d: %t", v, i, got)
	}
}

// gets asks for Value i of v, which is there.
func gets(t *testing.T, h *heap.Heap, v heap.Value, i int, want heap.Value) {
	t.Helper()
	if got, ok := h.Get(v, i); got != want || !ok {
		t.Errorf("Get of %v at %d: %v, %t, not %v", v, i, got, ok, want)
	}
}

// noPlace holds that v has no Value i.
func noPlace(t *testing.T, h *heap.Heap, v heap.Value, i int) {
	t.Helper()
	if got, ok := h.Get(v, i); got != none || ok {
		t.Errorf("Get of %v at %d: %v, %t", v, i, got, ok)
	}
	puts(t, h, v, i, num(-7), false)
}

// has holds that v is of class and has just these Values.
func has(t *testing.T, h *heap.Heap, v heap.Value, class string, want ...heap.Value) {
	t.Helper()
	if got := h.Class(v); got != class {
		t.Errorf("Class of %v: %q, not %q", v, got, class)
	}
	if got := h.Len(v); got != len(want) {
		t.Errorf("Len of %v: %d, not %d", v, got, len(want))
	}
	for i, x := range want {
		gets(t, h, v, i, x)
	}
	for _, i := range []int{len(want), len(want) + 1, -1, -len(want) - 1, 1 << 32, -1 << 32, math.MaxInt, math.MinInt} {
		noPlace(t, h, v, i)
	}
}

func TestP15_1Example(t *testing.T) {
	h := heap.New(1)
	v, ok := h.Object("C", nil)
	if v.Ref != 1 || !ok || h.Used() != 1 {
		t.Errorf("%v, %t, %d", v, ok, h.Used())
	}
}

func TestP15_1Object(t *testing.T) {
	h := heap.New(100)
	for k, n := range []int{0, 1, 3, 0, 20, 2} {
		v := object(t, h, n, k+1)
		has(t, h, v, "C", make([]heap.Value, n)...)
	}
	if h.Used() != 32 {
		t.Errorf("Used: %d", h.Used())
	}
}

// A class is a text: whether there is one is no matter of the heap.
func TestP15_1ObjectOfAnyClass(t *testing.T) {
	h := heap.New(1000)
	l := []string{"C", "", "Object", "a b", "\x00", "\xff", "C", string(make([]byte, 5000))}
	for k, class := range l {
		v, ok := h.Object(class, slots(k))
		made(t, h, v, ok, k+1, (k+1)*(k+2)/2)
	}
	for k, class := range l {
		has(t, h, ref(k+1), class, make([]heap.Value, k)...)
	}
}

// How many slots there are counts, not which ones: Static ones and those that are alike count as well.
func TestP15_1ObjectOfAnySlots(t *testing.T) {
	h := heap.New(100)
	v, ok := h.Object("C", []api.Field{{}, {}, {Name: "s", Static: true}, {Type: api.Type{Kind: api.Void}}})
	made(t, h, v, ok, 1, 5)
	has(t, h, v, "C", none, none, none, none)
	v, ok = h.Object("C", []api.Field{})
	made(t, h, v, ok, 2, 6)
	has(t, h, v, "C")
	v, ok = h.Object("C", make([]api.Field, 3, 50))
	made(t, h, v, ok, 3, 10)
	has(t, h, v, "C", none, none, none)
}

func TestP15_1Array(t *testing.T) {
	h := heap.New(10000)
	for k, n := range []int32{0, 1, 2, 255, 256, 257, 0, 3000} {
		v := array(t, h, n, k+1)
		has(t, h, v, "", make([]heap.Value, n)...)
	}
}

func TestP15_1ArrayBelowNone(t *testing.T) {
	for _, most := range []int{0, 1, 100, math.MaxInt} {
		h := heap.New(most)
		for _, n := range []int32{-1, -2, -100, math.MinInt32, math.MinInt32 + 1} {
			v, ok := h.Array(n)
			refused(t, h, v, ok, 0)
		}
	}
	h := heap.New(10)
	array(t, h, 3, 1)
	v, ok := h.Array(-1)
	refused(t, h, v, ok, 4)
	array(t, h, 0, 2)
}

// Objects and arrays are numbered together.
func TestP15_1Refs(t *testing.T) {
	h := heap.New(5000)
	for k := 1; k <= 1000; k += 2 {
		object(t, h, k%4, k)
		array(t, h, int32(k%3), k+1)
	}
	for k := 1; k <= 1000; k += 2 {
		has(t, h, ref(k), "C", make([]heap.Value, k%4)...)
		has(t, h, ref(k+1), "", make([]heap.Value, k%3)...)
	}
}

func TestP15_1Most(t *testing.T) {
	for n := range 20 {
		for _, most := range []int{n, n + 1, n + 2} {
			h, g := heap.New(most), heap.New(most)
			if most == n {
				v, ok := h.Object("C", slots(n))
				refused(t, h, v, ok, 0)
				v, ok = g.Array(int32(n))
				refused(t, g, v, ok, 0)
				continue
			}
			object(t, h, n, 1)
			array(t, g, int32(n), 1)
			for _, x := range []*heap.Heap{h, g} {
				v, ok := x.Object("D", nil)
				if most == n+1 {
					refused(t, x, v, ok, n+1)
					continue
				}
				made(t, x, v, ok, 2, n+2)
			}
		}
	}
}

// What is refused takes no cells and no number; what is small enough is made behind it.
func TestP15_1Refused(t *testing.T) {
	h := heap.New(10)
	array(t, h, 3, 1)
	for range 3 {
		v, ok := h.Array(6)
		refused(t, h, v, ok, 4)
		v, ok = h.Object("D", slots(6))
		refused(t, h, v, ok, 4)
		v, ok = h.Array(math.MaxInt32)
		refused(t, h, v, ok, 4)
	}
	object(t, h, 4, 2)
	v, ok := h.Array(1)
	refused(t, h, v, ok, 9)
	object(t, h, 0, 3)
	for range 3 {
		v, ok = h.Array(0)
		refused(t, h, v, ok, 10)
		v, ok = h.Object("D", nil)
		refused(t, h, v, ok, 10)
	}
	has(t, h, ref(1), "", none, none, none)
	has(t, h, ref(2), "C", none, none, none, none)
	has(t, h, ref(3), "C")
	has(t, h, ref(4), "")
}

func TestP15_1MostBelowNone(t *testing.T) {
	for _, most := range []int{0, -1, -2, -100, math.MinInt, math.MinInt + 1} {
		h := heap.New(most)
		v, ok := h.Object("C", nil)
		refused(t, h, v, ok, 0)
		v, ok = h.Object("C", slots(5))
		refused(t, h, v, ok, 0)
		for _, n := range []int32{-1, 0, 1, math.MaxInt32, math.MinInt32} {
			v, ok = h.Array(n)
			refused(t, h, v, ok, 0)
		}
		has(t, h, ref(1), "")
	}
}

// A great array has its cells, and each of its places, whatever is put.
func TestP15_1Great(t *testing.T) {
	h := heap.New(math.MaxInt32)
	v, ok := h.Array(math.MaxInt32)
	refused(t, h, v, ok, 0)
	v = array(t, h, math.MaxInt32-1, 1)
	if h.Used() != math.MaxInt32 || h.Len(v) != math.MaxInt32-1 {
		t.Fatalf("%d, %d", h.Used(), h.Len(v))
	}
	for _, i := range []int{0, 1, 1 << 30, math.MaxInt32 - 2} {
		gets(t, h, v, i, none)
		puts(t, h, v, i, num(int32(i)), true)
	}
	for _, i := range []int{0, 1, 1 << 30, math.MaxInt32 - 2} {
		gets(t, h, v, i, num(int32(i)))
	}
	for _, i := range []int{2, 1<<30 - 1, 1<<30 + 1, math.MaxInt32 - 3} {
		gets(t, h, v, i, none)
	}
	for _, i := range []int{-1, math.MaxInt32 - 1, math.MaxInt32, 1 << 32, math.MinInt} {
		noPlace(t, h, v, i)
	}
	v, ok = h.Object("C", nil)
	refused(t, h, v, ok, math.MaxInt32)
}

func TestP15_1MostOfAll(t *testing.T) {
	h := heap.New(math.MaxInt)
	for k := range 50 {
		v := array(t, h, math.MaxInt32, k+1)
		gets(t, h, v, math.MaxInt32-1, none)
		noPlace(t, h, v, math.MaxInt32)
	}
	object(t, h, 3, 51)
}

// What is null, or none, has no class, no Values and no places; and of a Value only its Ref says which one is meant.
func TestP15_1None(t *testing.T) {
	h := heap.New(20)
	l := []heap.Value{none, num(1), text("C"), {N: 1, S: "C"}, ref(-1), ref(1), ref(2), ref(1 << 32), ref(math.MaxInt), ref(math.MinInt)}
	for _, v := range l {
		has(t, h, v, "")
	}
	object(t, h, 1, 1)
	array(t, h, 2, 2)
	for _, v := range append(l, ref(3), ref(1<<32+1), ref(math.MinInt+1), ref(-2)) {
		if v.Ref != 1 && v.Ref != 2 {
			has(t, h, v, "")
		}
	}
	puts(t, h, heap.Value{N: 2, S: "D", Ref: 1}, 0, num(4), true)
	puts(t, h, heap.Value{N: 1, S: "D", Ref: 2}, 1, num(5), true)
	has(t, h, heap.Value{N: 9, S: "E", Ref: 1}, "C", num(4))
	has(t, h, heap.Value{N: 1, Ref: 2}, "", none, num(5))
}

// anyValues are of each kind, and of several at once: the heap doesn't ask of which type they are.
func anyValues() []heap.Value {
	return []heap.Value{num(1), num(-1), num(math.MinInt32), num(math.MaxInt32), text("a"), text("\x00\xff"), text(string(make([]byte, 10000))), ref(1), ref(2), ref(99), ref(-1), ref(math.MaxInt), ref(math.MinInt), {N: 1, S: "b", Ref: 2}, none}
}

func TestP15_1PutGet(t *testing.T) {
	h := heap.New(100)
	v, w := object(t, h, 3, 1), array(t, h, 3, 2)
	for _, x := range anyValues() {
		for i := range 3 {
			puts(t, h, v, i, x, true)
			gets(t, h, v, i, x)
			gets(t, h, w, i, none)
			puts(t, h, w, i, x, true)
			has(t, h, w, "", []heap.Value{num(-5), num(-5), num(-5), x, none, none, none}[3-i:6-i]...)
			puts(t, h, w, i, num(-5), true)
		}
		has(t, h, v, "C", x, x, x)
		for i := range 3 {
			puts(t, h, w, i, none, true)
		}
	}
	if h.Used() != 8 {
		t.Errorf("Used: %d", h.Used())
	}
}

// An object may have itself, and what was made behind it.
func TestP15_1PutItself(t *testing.T) {
	h := heap.New(100)
	v, w := object(t, h, 2, 1), object(t, h, 1, 2)
	puts(t, h, v, 0, v, true)
	puts(t, h, v, 1, w, true)
	puts(t, h, w, 0, v, true)
	has(t, h, v, "C", v, w)
	has(t, h, w, "C", v)
}

// Two heaps know nothing of each other.
func TestP15_1NewIsNew(t *testing.T) {
	h, g := heap.New(10), heap.New(4)
	v, w := object(t, h, 2, 1), array(t, g, 2, 1)
	puts(t, h, v, 0, num(1), true)
	puts(t, g, w, 1, num(2), true)
	has(t, h, v, "C", num(1), none)
	has(t, g, w, "", none, num(2))
	x, ok := g.Array(1)
	refused(t, g, x, ok, 3)
	array(t, h, 6, 2)
}

// Whatever is made, refused or put behind it, or asked of what isn't there: it stays.
func TestP15_2Stays(t *testing.T) {
	h := heap.New(1 << 20)
	v, w := object(t, h, 2, 1), array(t, h, 2, 2)
	puts(t, h, v, 1, text("one"), true)
	puts(t, h, w, 0, num(8), true)
	stays := func() {
		t.Helper()
		has(t, h, v, "C", none, text("one"))
		has(t, h, w, "", num(8), none)
	}
	for k := range 3000 {
		x := array(t, h, int32(k%300), k+3)
		for i := range k % 300 {
			puts(t, h, x, i, num(int32(k)), true)
		}
		if k%500 == 0 {
			stays()
		}
	}
	y, ok := h.Array(math.MaxInt32)
	refused(t, h, y, ok, h.Used())
	puts(t, h, ref(0), 0, num(1), false)
	puts(t, h, ref(9000), 0, num(1), false)
	stays()
	for k := range 3000 {
		has(t, h, ref(k+3), "", slices.Repeat([]heap.Value{num(int32(k))}, k%300)...)
	}
}

// Who asks changes nothing: the same is told again and again.
func TestP15_2AskedAgain(t *testing.T) {
	h := heap.New(10)
	v := object(t, h, 2, 1)
	puts(t, h, v, 0, num(3), true)
	for range 3 {
		has(t, h, v, "C", num(3), none)
		if h.Used() != 3 {
			t.Errorf("Used: %d", h.Used())
		}
	}
	array(t, h, 6, 2)
}

// DOC.md, rule 3: what is handed in is neither changed nor kept, its spare room included.
func TestHandedInStays(t *testing.T) {
	h := heap.New(100)
	l := append(make([]api.Field, 0, 9), slots(3)...)
	v, ok := h.Object("C", l)
	made(t, h, v, ok, 1, 4)
	puts(t, h, v, 0, num(1), true)
	if !slices.Equal(l, slots(3)) || !slices.Equal(l[3:9], make([]api.Field, 6)) {
		t.Errorf("changed: %v", l[:9])
	}
	for k := range l {
		l[k] = api.Field{Name: "scrawl"}
	}
	has(t, h, v, "C", num(1), none, none)
}

// A Value that was told is the caller's own.
func TestAnswersAreNew(t *testing.T) {
	h := heap.New(100)
	v := object(t, h, 1, 1)
	puts(t, h, v, 0, num(1), true)
	x, _ := h.Get(v, 0)
	x.N, x.S, x.Ref = 9, "scrawl", 9
	gets(t, h, v, 0, num(1))
	v.Ref = 7
	object(t, h, 1, 2)
	has(t, h, ref(1), "C", num(1))
}
