package lattice_test

import (
	"slices"
	"testing"

	"bonsai/api"
	"bonsai/lattice"
	"bonsai/tree"
)

var (
	none  = api.Type{}
	num   = kind(api.Int)
	str   = kind(api.Str)
	arr   = kind(api.Arr)
	void  = kind(api.Void)
	null  = kind(api.Null)
	top   = kind(api.Top)
	plain = []api.Type{none, num, str, arr, void, null, top, kind(-1), kind(8), kind(1 << 20)} // one of each kind, and of none
)

func kind(k int) api.Type { return api.Type{Kind: k} }

func ref(class string) api.Type { return api.Type{Kind: api.Ref, Class: class} }

// odd is t with a Class that it has no use for.
func odd(t api.Type) api.Type {
	t.Class = "A"
	return t
}

func class(name, super string, ifaces ...string) api.Class {
	return api.Class{Name: name, Super: super, Kind: api.Plain, Ifaces: ifaces}
}

func iface(name string, ifaces ...string) api.Class {
	return api.Class{Name: name, Super: api.Object, Kind: api.Interface, Ifaces: ifaces}
}

func of(l ...api.Class) *tree.Tree { return tree.New(api.Archive{Classes: l}) }

// wood is a tree of classes that go together: A, B below it, D below B; C below A; F a fault.
func wood() *tree.Tree {
	return of(class("A", "Object", "I"), class("B", "A"), class("C", "A", "K"), class("D", "B", "K"), class("E", "Object"), class("F", "NullFault"), iface("I", "J"), iface("J"), iface("K"))
}

// names are the classes of wood, some of those that every tree has, and such as there are none.
var names = []string{"A", "B", "C", "D", "E", "F", "I", "J", "K", "Object", "Fault", "NullFault", "ZeroFault", "gone", ""}

// all tells types of each kind, with a Class and without one.
func all() []api.Type {
	l := slices.Clone(plain)
	for _, t := range plain {
		l = append(l, odd(t), api.Type{Kind: t.Kind, Class: "gone"})
	}
	for _, name := range names {
		l = append(l, ref(name))
	}
	return l
}

func joined(t *testing.T, x *tree.Tree, a, b, want api.Type) {
	t.Helper()
	if got := lattice.Join(x, a, b); got != want {
		t.Errorf("Join of %v, %v: %v, not %v", a, b, got, want)
	}
}

// both holds a Join that doesn't hang on which one is ahead.
func both(t *testing.T, x *tree.Tree, a, b, want api.Type) {
	t.Helper()
	joined(t, x, a, b, want)
	joined(t, x, b, a, want)
}

func fits(t *testing.T, x *tree.Tree, a, b api.Type, want bool) {
	t.Helper()
	if got := lattice.Fits(x, a, b); got != want {
		t.Errorf("Fits of %v, %v: %t", a, b, got)
	}
}

func TestP11_1Refers(t *testing.T) {
	for _, a := range all() {
		want := slices.Contains([]int{api.Arr, api.Ref, api.Null}, a.Kind)
		if got := lattice.Refers(a); got != want {
			t.Errorf("Refers of %v: %t", a, got)
		}
	}
}

func TestP11_1JoinExample(t *testing.T) {
	joined(t, wood(), num, str, top)
}

func TestP11_1JoinAlike(t *testing.T) {
	for _, x := range []*tree.Tree{wood(), of(), nil} {
		for _, a := range all() {
			joined(t, x, a, a, a) // a Ref of a class that isn't Known, too: not its Common
		}
	}
}

func TestP11_1JoinNull(t *testing.T) {
	x := wood()
	both(t, x, null, arr, arr)
	both(t, x, null, odd(arr), odd(arr))
	for _, name := range names {
		both(t, x, null, ref(name), ref(name))
	}
	for _, a := range all() {
		if a != null && a.Kind != api.Arr && a.Kind != api.Ref {
			both(t, x, null, a, top)
		}
	}
}

// A Null with a Class is alike with itself, and with nothing else.
func TestP11_1JoinNullWithClass(t *testing.T) {
	for _, a := range all() {
		if a != odd(null) {
			both(t, wood(), odd(null), a, top)
		}
	}
}

func TestP11_1JoinRefs(t *testing.T) {
	x := wood()
	for _, l := range [][3]string{
		{"A", "B", "A"}, {"B", "C", "A"}, {"D", "C", "A"}, {"D", "B", "B"}, {"D", "A", "A"}, {"A", "E", "Object"}, {"D", "Object", "Object"},
		{"A", "I", "Object"}, {"I", "J", "Object"}, {"C", "K", "Object"}, {"I", "Object", "Object"},
		{"F", "NullFault", "NullFault"}, {"F", "ZeroFault", "Fault"}, {"F", "A", "Object"}, {"NullFault", "Fault", "Fault"},
		{"A", "gone", "Object"}, {"gone", "nobody", "Object"}, {"", "A", "Object"}, {"", "gone", "Object"},
	} {
		both(t, x, ref(l[0]), ref(l[1]), ref(l[2]))
	}
}

// Where Common hangs on which one is ahead, Join does.
func TestP11_1JoinOrder(t *testing.T) {
	x := of(class("C", "D"), class("D", "E"), class("E", "C"), class("F", "D"))
	joined(t, x, ref("F"), ref("C"), ref("D"))
	joined(t, x, ref("C"), ref("F"), ref("C"))
}

func TestP11_1JoinTop(t *testing.T) {
	x := wood()
	for _, a := range all() {
		for _, b := range all() {
			refs := a.Kind == api.Ref && b.Kind == api.Ref
			if a != b && a != null && b != null && !refs {
				joined(t, x, a, b, top)
			}
		}
	}
	joined(t, x, odd(top), top, top)
	joined(t, x, odd(num), num, top)
	joined(t, x, odd(arr), arr, top)
	joined(t, x, ref("A"), arr, top)
	joined(t, x, none, void, top)
}

func TestP11_1FitsAlike(t *testing.T) {
	for _, x := range []*tree.Tree{wood(), of(), nil} {
		for _, a := range all() {
			fits(t, x, a, a, a.Kind != api.Top) // a Ref of a class that isn't Known, too: not its Sub
		}
	}
}

func TestP11_1FitsNull(t *testing.T) {
	x := wood()
	for _, b := range all() {
		want := b.Kind == api.Arr || b.Kind == api.Ref
		fits(t, x, null, b, want || b == null)
		fits(t, x, odd(null), b, want || b == odd(null))
		if b.Kind != api.Null {
			fits(t, x, b, null, false)
		}
	}
	fits(t, x, null, arr, true)
	fits(t, x, null, ref("I"), true)
	fits(t, x, null, ref("gone"), true)
	fits(t, x, null, num, false)
	fits(t, x, null, str, false)
	fits(t, x, null, top, false)
}

func TestP11_1FitsRefs(t *testing.T) {
	x := wood()
	for _, l := range []struct {
		a, b string
		want bool
	}{
		{"B", "A", true}, {"A", "B", false}, {"D", "A", true}, {"B", "C", false}, {"D", "Object", true}, {"Object", "D", false},
		{"A", "I", true}, {"A", "J", true}, {"D", "K", true}, {"A", "K", false}, {"I", "J", true}, {"J", "I", false}, {"I", "A", false}, {"I", "Object", true},
		{"F", "Fault", true}, {"ZeroFault", "Fault", true}, {"Fault", "ZeroFault", false},
		{"gone", "Object", false}, {"A", "gone", false}, {"gone", "A", false}, {"", "Object", false}, {"gone", "", false},
	} {
		fits(t, x, ref(l.a), ref(l.b), l.want)
	}
}

func TestP11_1FitsNothingElse(t *testing.T) {
	x := wood()
	for _, a := range all() {
		for _, b := range all() {
			refs := a.Kind == api.Ref && b.Kind == api.Ref
			if a != b && a.Kind != api.Null && !refs {
				fits(t, x, a, b, false)
			}
		}
	}
	fits(t, x, num, top, false)
	fits(t, x, arr, ref("Object"), false)
	fits(t, x, ref("Object"), arr, false)
	fits(t, x, odd(num), num, false)
	fits(t, x, str, ref("A"), false)
}

func TestP11_1All(t *testing.T) {
	x := wood()
	a := []api.Type{num, num, null, ref("D"), top, ref("gone"), arr, ref("B"), null, odd(null)}
	b := []api.Type{num, str, ref("A"), ref("C"), num, ref("gone"), null, ref("E"), null, arr}
	want := []api.Type{num, top, ref("A"), ref("A"), top, ref("gone"), arr, ref("Object"), null, top}
	for n := range len(a) + 1 {
		if l, ok := lattice.All(x, a[:n], b[:n]); !ok || !slices.Equal(l, want[:n]) {
			t.Errorf("All of %d: %v, %t", n, l, ok)
		}
	}
}

func TestP11_1AllUnlikeMany(t *testing.T) {
	long := slices.Repeat([]api.Type{num}, 200)
	for _, n := range [][2]int{{0, 1}, {1, 2}, {199, 200}, {0, 200}} {
		for _, l := range [][2][]api.Type{{long[:n[0]], long[:n[1]]}, {long[:n[1]], long[:n[0]]}} {
			if got, ok := lattice.All(wood(), l[0], l[1]); ok || len(got) > 0 {
				t.Errorf("All of %d and %d: %v, %t", len(l[0]), len(l[1]), got, ok)
			}
		}
	}
	if got, ok := lattice.All(nil, nil, []api.Type{}); !ok || len(got) > 0 {
		t.Errorf("All of none: %v, %t", got, ok)
	}
	if got, ok := lattice.All(wood(), long, long); !ok || !slices.Equal(got, long) {
		t.Errorf("All of many: %v, %t", got, ok)
	}
}

// A tree nil is one of no classes: those that are there of themselves are.
func TestP11_1TreeNil(t *testing.T) {
	for _, a := range all() {
		for _, b := range all() {
			joined(t, nil, a, b, lattice.Join(of(), a, b))
			fits(t, nil, a, b, lattice.Fits(of(), a, b))
		}
	}
	joined(t, nil, ref("NullFault"), ref("ZeroFault"), ref("Fault"))
	joined(t, nil, ref("A"), ref("B"), ref("Object"))
	fits(t, nil, ref("NullFault"), ref("Fault"), true)
	fits(t, nil, ref("B"), ref("A"), false)
	l, ok := lattice.All(nil, []api.Type{ref("SizeFault"), num}, []api.Type{ref("CastFault"), num})
	if !ok || !slices.Equal(l, []api.Type{ref("Fault"), num}) {
		t.Errorf("All: %v, %t", l, ok)
	}
}

// tame are the types that a verifier knows of in wood.
func tame() []api.Type {
	l := []api.Type{num, str, arr, void, null, top}
	for _, name := range names[:13] {
		l = append(l, ref(name))
	}
	return l
}

// Whichever way a value came: what is known where two ways meet holds of it, and in whatever order they meet.
func TestP11_2TwoWaysOneKnowledge(t *testing.T) {
	x := wood()
	join := func(a, b api.Type) api.Type { return lattice.Join(x, a, b) }
	for _, a := range tame() {
		for _, b := range tame() {
			one := join(a, b)
			joined(t, x, b, a, one)
			joined(t, x, one, b, one)
			if one != top {
				fits(t, x, a, one, true)
				fits(t, x, b, one, true)
			}
			for _, c := range tame() {
				joined(t, x, one, c, join(a, join(b, c)))
				if lattice.Fits(x, one, c) {
					fits(t, x, a, c, true)
					fits(t, x, b, c, true)
				}
			}
		}
	}
}

// DOC.md, rule 3: what is handed in is neither changed nor kept, its spare room included, and what is answered is new memory.
func TestHandedInStays(t *testing.T) {
	x := wood()
	a := append(make([]api.Type, 0, 9), num, null, ref("B"))
	b := append(make([]api.Type, 0, 9), num, arr, ref("C"))
	want := []api.Type{num, arr, ref("A")}
	l, _ := lattice.All(x, a, b)
	for k, handed := range [][]api.Type{a, b} {
		if !slices.Equal(handed, [][]api.Type{{num, null, ref("B")}, {num, arr, ref("C")}}[k]) || !slices.Equal(handed[3:9], make([]api.Type, 6)) {
			t.Fatalf("changed: %v", handed[:9])
		}
	}
	for _, handed := range [][]api.Type{a, b} {
		for k := range handed {
			handed[k] = ref("scrawl")
		}
	}
	if !slices.Equal(l, want) {
		t.Errorf("kept: %v", l)
	}
}

func TestAnswersAreNew(t *testing.T) {
	x := wood()
	a := []api.Type{num, ref("B")}
	l, _ := lattice.All(x, a, a)
	m, _ := lattice.All(x, a, a)
	for k := range l {
		l[k] = ref("scrawl")
	}
	_ = append(l, ref("scrawl"))
	for _, list := range [][]api.Type{a, m} {
		if !slices.Equal(list, []api.Type{num, ref("B")}) {
			t.Errorf("shared: %v", list)
		}
	}
}
