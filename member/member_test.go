package member_test

import (
	"reflect"
	"slices"
	"strconv"
	"strings"
	"testing"

	"bonsai/api"
	"bonsai/desc"
	"bonsai/member"
	"bonsai/tree"
)

var (
	tInt  = api.Type{Kind: api.Int}
	tStr  = api.Type{Kind: api.Str}
	tArr  = api.Type{Kind: api.Arr}
	tVoid = api.Type{Kind: api.Void}
)

func ref(class string) api.Type { return api.Type{Kind: api.Ref, Class: class} }

// field is one of objects.
func field(name string, t api.Type) api.Field { return api.Field{Name: name, Type: t} }

func static(name string, t api.Type) api.Field {
	return api.Field{Name: name, Type: t, Static: true}
}

// method is one whose Locals tell it from others: "m" or, of a static one, "s" and, of an abstract one, "a" are in what.
func method(what, name, d string, mark int) api.Method {
	params, ret, _ := desc.Parse(d)
	return api.Method{Name: name, Params: params, Ret: ret, Static: strings.Contains(what, "s"), Abstract: strings.Contains(what, "a"), Locals: mark}
}

// class is a Plain one with members: fields, methods, and names of Ifaces.
func class(name, super string, members ...any) api.Class {
	c := api.Class{Name: name, Super: super, Kind: api.Plain}
	for _, x := range members {
		switch x := x.(type) {
		case api.Field:
			c.Fields = append(c.Fields, x)
		case api.Method:
			c.Methods = append(c.Methods, x)
		case string:
			c.Ifaces = append(c.Ifaces, x)
		}
	}
	return c
}

func iface(name string, members ...any) api.Class {
	c := class(name, api.Object, members...)
	c.Kind = api.Interface
	return c
}

func of(l ...api.Class) *tree.Tree { return tree.New(api.Archive{Classes: l}) }

func isField(t *testing.T, x *tree.Tree, class, name string, static bool, where string, want api.Field) {
	t.Helper()
	if c, f, ok := member.Field(x, class, name, static); !ok || c != where || f != want {
		t.Errorf("Field of %q, %q, %t: %q, %v, %t, not %q, %v", class, name, static, c, f, ok, where, want)
	}
}

func noField(t *testing.T, x *tree.Tree, class, name string, static bool) {
	t.Helper()
	if c, f, ok := member.Field(x, class, name, static); ok || c != "" || f != (api.Field{}) {
		t.Errorf("Field of %q, %q, %t: %q, %v, %t", class, name, static, c, f, ok)
	}
}

// finder is Method or Virtual.
type finder func(t *tree.Tree, class, name, d string) (string, api.Method, bool)

// is asks for m(d) of class; mark is what method was given.
func (find finder) is(t *testing.T, x *tree.Tree, class, name, d, where string, mark int) {
	t.Helper()
	c, m, ok := find(x, class, name, d)
	if !ok || c != where || m.Locals != mark || m.Name != name || desc.Of(m.Params, m.Ret) != d {
		t.Errorf("%q, %s%s: %q, %v, %t, not %q, %d", class, name, d, c, m, ok, where, mark)
	}
}

func (find finder) none(t *testing.T, x *tree.Tree, class, name, d string) {
	t.Helper()
	if c, m, ok := find(x, class, name, d); ok || c != "" || !reflect.DeepEqual(m, api.Method{}) {
		t.Errorf("%q, %s%s: %q, %v, %t", class, name, d, c, m, ok)
	}
}

func slots(t *testing.T, x *tree.Tree, class string, want ...api.Field) {
	t.Helper()
	if got := member.Slots(x, class); !slices.Equal(got, want) {
		t.Errorf("Slots of %q: %v, not %v", class, got, want)
	}
}

func inits(t *testing.T, x *tree.Tree, class string, want ...string) {
	t.Helper()
	if got := member.Inits(x, class); !slices.Equal(got, want) {
		t.Errorf("Inits of %q: %q, not %q", class, got, want)
	}
}

func TestP9_1Field(t *testing.T) {
	x := of(
		class("C", "B"),
		class("B", "A", field("f", tStr), static("h", ref("B"))),
		class("A", "Object", field("f", tInt), static("f", tArr), field("g", ref("C"))),
		class("D", "NullFault", field("d", tInt)),
	)
	for _, name := range []string{"B", "C"} {
		isField(t, x, name, "f", false, "B", field("f", tStr))
		isField(t, x, name, "f", true, "A", static("f", tArr))
		isField(t, x, name, "g", false, "A", field("g", ref("C")))
		isField(t, x, name, "h", true, "B", static("h", ref("B")))
		noField(t, x, name, "g", true)
		noField(t, x, name, "h", false)
		noField(t, x, name, "d", false)
	}
	isField(t, x, "A", "f", false, "A", field("f", tInt))
	isField(t, x, "A", "f", true, "A", static("f", tArr))
	isField(t, x, "D", "d", false, "D", field("d", tInt))
	noField(t, x, "A", "h", true) // below it
	for _, name := range []string{"Object", "NullFault", "Fault", "gone", "", "c", "C "} {
		noField(t, x, name, "f", false)
		noField(t, x, name, "d", false)
		noField(t, x, name, "", false)
	}
	for _, name := range []string{"", "F", "f ", "ff", "C.f"} {
		noField(t, x, "C", name, false)
		noField(t, x, "C", name, true)
	}
}

// Fields of Ifaces aren't meant.
func TestP9_1FieldOfIfaces(t *testing.T) {
	x := of(iface("I", field("f", tInt), static("s", tInt)), class("A", "Object", "I"), class("B", "I", "I"))
	noField(t, x, "A", "f", false)
	noField(t, x, "A", "s", true)
	isField(t, x, "I", "s", true, "I", static("s", tInt))
	isField(t, x, "B", "f", false, "I", field("f", tInt)) // its Super
	slots(t, x, "A")
	slots(t, x, "B", field("f", tInt))
}

func TestP9_1Method(t *testing.T) {
	find := finder(member.Method)
	x := of(
		class("C", "B", method("m", "o", "(LC;)LC;", 1), method("m", "m", "(S)V", 2)),
		class("B", "A", method("s", "m", "(I)V", 3), method("s", "s", "()I", 4)),
		class("A", "Object", method("m", "m", "(I)V", 5), method("m", "m", "(I)I", 6), method("a", "a", "()V", 7), method("m", "m", "()V", 8)),
		class("D", "ZeroFault", method("m", "d", "()V", 9)),
	)
	for _, name := range []string{"B", "C"} {
		find.is(t, x, name, "m", "(I)V", "B", 3)
		find.is(t, x, name, "m", "(I)I", "A", 6)
		find.is(t, x, name, "m", "()V", "A", 8)
		find.is(t, x, name, "s", "()I", "B", 4)
		find.is(t, x, name, "a", "()V", "A", 7)
		find.none(t, x, name, "m", "(II)V")
		find.none(t, x, name, "d", "()V")
	}
	find.is(t, x, "C", "o", "(LC;)LC;", "C", 1)
	find.is(t, x, "C", "m", "(S)V", "C", 2)
	find.none(t, x, "B", "m", "(S)V")
	find.is(t, x, "A", "m", "(I)V", "A", 5)
	find.is(t, x, "D", "d", "()V", "D", 9)
	for _, name := range []string{"Object", "ZeroFault", "gone", "", "a", "A "} {
		find.none(t, x, name, "m", "(I)V")
		find.none(t, x, name, "d", "()V")
		find.none(t, x, name, "", "")
	}
	for _, d := range []string{"", "(I)", "I", "(I)V ", "(LI;)V", "(LB;)LC;", "(LC;)LB;", "(LC)LC;", "V", "\xff"} {
		find.none(t, x, "C", "m", d)
		find.none(t, x, "C", "o", d)
	}
	for _, name := range []string{"", "M", "m(I)V", "A.m"} {
		find.none(t, x, "C", name, "(I)V")
	}
}

// Behind the whole Chain the Ifaces are asked, in their order.
func TestP9_1MethodOfIfaces(t *testing.T) {
	find := finder(member.Method)
	x := of(
		class("B", "A", "gone", "J", "I", method("m", "b", "()V", 1)),
		class("A", "Object", "K", method("m", "m", "()V", 2), method("a", "k", "()V", 3)),
		iface("I", method("a", "m", "()V", 4), method("a", "i", "()V", 5), method("a", "k", "()V", 6)),
		iface("J", "L", method("a", "j", "()V", 7), method("a", "b", "()V", 8)),
		iface("K", method("a", "i", "()V", 9), method("a", "l", "()V", 10), method("a", "o", "()V", 11), method("a", "o", "()I", 12)),
		iface("L", method("a", "l", "()V", 13), method("a", "j", "()V", 14), method("s", "i", "()V", 15)),
	)
	find.is(t, x, "B", "m", "()V", "A", 2)
	find.is(t, x, "B", "k", "()V", "A", 3)
	find.is(t, x, "B", "b", "()V", "B", 1)
	find.is(t, x, "B", "j", "()V", "J", 7)
	find.is(t, x, "B", "l", "()V", "L", 13)
	find.is(t, x, "B", "i", "()V", "L", 15) // its Ifaces: J, L, I, K
	find.is(t, x, "B", "o", "()V", "K", 11)
	find.is(t, x, "B", "o", "()I", "K", 12)
	find.is(t, x, "A", "i", "()V", "K", 9)
	find.is(t, x, "J", "l", "()V", "L", 13)
	find.is(t, x, "J", "b", "()V", "J", 8)
	find.none(t, x, "A", "j", "()V")
	find.none(t, x, "L", "b", "()V")
	find.none(t, x, "B", "i", "()I")
	find.none(t, x, "B", "gone", "()V")
}

// What an Interface has above it as a class is no Iface of those that have it.
func TestP9_1MethodAboveAnIface(t *testing.T) {
	find := finder(member.Method)
	top := iface("I")
	top.Super = "A"
	x := of(class("A", "Object", method("m", "m", "()V", 1)), top, class("B", "Object", "I"))
	find.is(t, x, "I", "m", "()V", "A", 1)
	find.none(t, x, "B", "m", "()V")
}

func TestP9_1Virtual(t *testing.T) {
	find := finder(member.Virtual)
	x := of(
		class("D", "C", "I", method("a", "m", "()V", 1), method("m", "n", "()I", 2)),
		class("C", "B", method("s", "m", "()V", 3), method("as", "n", "()I", 4)),
		class("B", "A", method("m", "m", "()V", 5), method("a", "a", "()V", 6)),
		class("A", "Object", method("m", "m", "()V", 7), method("m", "n", "()I", 8), method("s", "s", "()V", 9)),
		iface("I", method("m", "i", "()V", 10), method("a", "a", "()V", 11)),
	)
	for _, name := range []string{"D", "C", "B"} {
		find.is(t, x, name, "m", "()V", "B", 5)
		find.none(t, x, name, "a", "()V")
		find.none(t, x, name, "s", "()V")
		find.none(t, x, name, "i", "()V") // of an Iface, not of its Chain
		find.none(t, x, name, "m", "()I")
		find.none(t, x, name, "n", "()V")
	}
	find.is(t, x, "D", "n", "()I", "D", 2)
	find.is(t, x, "C", "n", "()I", "A", 8)
	find.is(t, x, "B", "n", "()I", "A", 8)
	find.is(t, x, "A", "m", "()V", "A", 7)
	find.is(t, x, "I", "i", "()V", "I", 10)
	find.none(t, x, "I", "a", "()V")
	for _, name := range []string{"Object", "Fault", "gone", "", "d"} {
		find.none(t, x, name, "m", "()V")
		find.none(t, x, name, "", "")
	}
}

func TestP9_1Slots(t *testing.T) {
	x := of(
		class("C", "B", field("c", tInt), static("s", tInt), field("a", tStr)),
		class("B", "A", static("t", tStr)),
		class("A", "Object", static("u", tArr), field("b", ref("A")), field("a", tInt), static("a", tInt), field("z", tArr)),
		class("F", "CastFault", field("f", tInt)),
		class("O", "gone", field("o", tInt)),
	)
	a := []api.Field{field("b", ref("A")), field("a", tInt), field("z", tArr)}
	slots(t, x, "A", a...)
	slots(t, x, "B", a...)
	slots(t, x, "C", append(a, field("c", tInt), field("a", tStr))...)
	slots(t, x, "F", field("f", tInt))
	slots(t, x, "O", field("o", tInt))
	for _, name := range []string{"Object", "CastFault", "gone", "", "c"} {
		slots(t, x, name)
	}
}

func TestP9_1Inits(t *testing.T) {
	clinit := method("s", "clinit", "()V", 1)
	x := of(
		class("D", "C", "I", clinit),
		class("C", "B", method("s", "clinit", "(I)V", 1), method("s", "clinit", "()I", 1), method("s", "Clinit", "()V", 1), method("s", "init", "()V", 1), static("clinit", tVoid)),
		class("B", "A", method("s", "m", "()V", 1), method("s", "clinit", "()LB;", 1), clinit),
		class("A", "Object", clinit),
		class("E", "D"),
		iface("I", clinit),
		class("F", "Fault", clinit, clinit),
		class("G", "gone", clinit),
	)
	inits(t, x, "E", "A", "B", "D")
	inits(t, x, "D", "A", "B", "D")
	inits(t, x, "C", "A", "B")
	inits(t, x, "B", "A", "B")
	inits(t, x, "A", "A")
	inits(t, x, "I", "I")
	inits(t, x, "F", "F")
	inits(t, x, "G", "G")
	for _, name := range []string{"Object", "Fault", "gone", "", "a"} {
		inits(t, x, name)
	}
}

// Whether such a Clinit is right is another layer's.
func TestP9_1InitsOfAnyKind(t *testing.T) {
	x := of(class("A", "Object", method("m", "clinit", "()V", 1)), class("B", "A", method("as", "clinit", "()V", 1)), class("C", "B", method("a", "clinit", "()V", 1)))
	inits(t, x, "C", "A", "B", "C")
}

// Of members of one class that are alike the first one is meant.
func TestP9_1First(t *testing.T) {
	x := of(class("A", "Object",
		static("f", tInt), field("f", tStr), field("f", tArr), static("f", tStr),
		method("s", "m", "()V", 1), method("a", "m", "()V", 2), method("m", "m", "()V", 3), method("m", "m", "()V", 4),
	))
	isField(t, x, "A", "f", false, "A", field("f", tStr))
	isField(t, x, "A", "f", true, "A", static("f", tInt))
	finder(member.Method).is(t, x, "A", "m", "()V", "A", 1)
	finder(member.Virtual).is(t, x, "A", "m", "()V", "A", 3)
	slots(t, x, "A", field("f", tStr), field("f", tArr))
}

// A name and a text of types are held each by itself, and by desc.Of, whether they may be so or not.
func TestP9_1OddNames(t *testing.T) {
	odd := api.Method{Name: "m(I", Ret: api.Type{Kind: api.Top}, Locals: 1}
	y := of(class("A", "Object", odd, api.Method{Name: "m", Params: []api.Type{{Kind: api.Null}, tInt, {}}, Ret: tVoid, Locals: 2}, api.Method{Locals: 3}, field("", tInt), static("\xff", tInt)))
	for _, find := range []finder{member.Method, member.Virtual} {
		find.is(t, y, "A", "m(I", "()", "A", 1)
		find.is(t, y, "A", "m", "(I)V", "A", 2)
		find.is(t, y, "A", "", "()", "A", 3)
		find.none(t, y, "A", "m", "(I()")
		find.none(t, y, "A", "m(I", ")V")
		find.none(t, y, "A", "m(", "I)V")
		find.none(t, y, "A", "m(I)V", "")
		find.none(t, y, "A", "", "")
	}
	isField(t, y, "A", "", false, "A", field("", tInt))
	isField(t, y, "A", "\xff", true, "A", static("\xff", tInt))
}

// Classes as tree takes them: the first of a name, never in a Builtin's place, one named "", those that come to themselves.
func TestP9_1OddClasses(t *testing.T) {
	clinit := method("s", "clinit", "()V", 1)
	x := of(
		class("B", "A"), class("A", "", field("f", tInt), method("m", "m", "()V", 1)), class("A", "", field("g", tInt), method("m", "n", "()V", 2), clinit),
		class("Object", "A", field("o", tInt), method("m", "o", "()V", 3), clinit), class("", "P", field("e", tStr), clinit, method("m", "e", "()V", 4)),
		class("P", "Q", field("p", tInt), clinit, method("a", "m", "()V", 5)), class("Q", "P", field("q", tInt), clinit, method("m", "q", "()V", 6)),
	)
	isField(t, x, "B", "f", false, "A", field("f", tInt))
	isField(t, x, "B", "e", false, "", field("e", tStr))
	isField(t, x, "B", "q", false, "Q", field("q", tInt))
	noField(t, x, "B", "g", false)
	noField(t, x, "Object", "o", false)
	slots(t, x, "B", field("q", tInt), field("p", tInt), field("e", tStr), field("f", tInt))
	slots(t, x, "P", field("q", tInt), field("p", tInt))
	slots(t, x, "Q", field("p", tInt), field("q", tInt))
	inits(t, x, "B", "Q", "P", "")
	inits(t, x, "Q", "P", "Q")
	inits(t, x, "Object", "Q", "P", "") // "" is its Super
	for _, find := range []finder{member.Method, member.Virtual} {
		find.is(t, x, "B", "m", "()V", "A", 1)
		find.is(t, x, "B", "e", "()V", "", 4)
		find.is(t, x, "P", "q", "()V", "Q", 6)
		find.is(t, x, "Q", "q", "()V", "Q", 6)
		find.none(t, x, "B", "n", "()V")
		find.none(t, x, "Object", "o", "()V")
		find.none(t, x, "P", "gone", "()V")
	}
}

func TestP9_1NoTree(t *testing.T) {
	for _, x := range []*tree.Tree{nil, of()} {
		for _, name := range []string{"", "A", "Object", "NullFault", "clinit"} {
			noField(t, x, name, name, false)
			noField(t, x, name, name, true)
			finder(member.Method).none(t, x, name, name, "()V")
			finder(member.Virtual).none(t, x, name, name, "()V")
			slots(t, x, name)
			inits(t, x, name)
		}
	}
}

// The nearest one is meant, from wherever one asks.
func TestP9_2Nearest(t *testing.T) {
	const n = 400
	var l []api.Class
	for k := range n {
		super := "Object"
		if k > 0 {
			super = number(k - 1)
		}
		c := class(number(k), super, field("own", tInt))
		if k%10 == 0 {
			c = class(number(k), super, field("own", tInt), field("f", ref(number(k))), static("s", ref(number(k))), method("m", "m", "()V", k), method("s", "clinit", "()V", 0))
		}
		l = append(l, c)
	}
	x := of(l...)
	for k := range n {
		near := k - k%10
		isField(t, x, number(k), "f", false, number(near), field("f", ref(number(near))))
		isField(t, x, number(k), "s", true, number(near), static("s", ref(number(near))))
		finder(member.Method).is(t, x, number(k), "m", "()V", number(near), near)
		finder(member.Virtual).is(t, x, number(k), "m", "()V", number(near), near)
		if got := len(member.Slots(x, number(k))); got != k+1+k/10+1 {
			t.Errorf("Slots of %d: %d", k, got)
		}
		if got := member.Inits(x, number(k)); len(got) != k/10+1 || got[0] != number(0) || got[k/10] != number(near) {
			t.Errorf("Inits of %d: %q", k, got)
		}
	}
}

func number(k int) string { return "C" + strconv.Itoa(k) }

// Archives of any size.
func TestP9_2Far(t *testing.T) {
	const n = 100000
	var l []api.Class
	for k := range n {
		l = append(l, class(number(k), number((k+1)%n), "I"+number(k), field("f", ref(number(k)))), iface("I"+number(k)))
	}
	l[2*n-2].Fields = append(l[2*n-2].Fields, static("s", tInt))
	l[2*n-1].Methods = append(l[2*n-1].Methods, method("a", "m", "()V", 1))
	l[2*n-2].Methods = append(l[2*n-2].Methods, method("s", "clinit", "()V", 1), method("m", "v", "()V", 2))
	x := of(l...)
	isField(t, x, number(0), "s", true, number(n-1), static("s", tInt))
	finder(member.Method).is(t, x, number(0), "m", "()V", "I"+number(n-1), 1)
	finder(member.Virtual).is(t, x, number(0), "v", "()V", number(n-1), 2)
	inits(t, x, number(0), number(n-1))
	if got := member.Slots(x, number(0)); len(got) != n || got[0] != field("f", ref(number(n-1))) || got[n-1] != field("f", ref(number(0))) {
		t.Errorf("Slots: %d", len(got))
	}
}

// rich is a method that has something in each of its lists.
func rich() api.Method {
	return api.Method{
		Name: "m", Params: []api.Type{ref("A"), tInt}, Ret: tStr, Locals: 7,
		Code:     []api.Instr{{Op: api.PushS, S: "s"}, {Op: api.CallV, Class: "A", Name: "m", Desc: "(LA;I)S"}, {Op: api.Ret}},
		Handlers: []api.Handler{{From: 0, To: 1, At: 2, Catch: "Fault"}},
	}
}

// over writes x over all of l, and over the room behind it.
func over[T any](l []T, x T) {
	l = l[:cap(l)]
	for k := range l {
		l[k] = x
	}
}

// DOC.md, rule 3: what is answered is new memory: who writes over it changes nothing that anybody else has.
func TestAnswersAreNew(t *testing.T) {
	a := class("A", "Object", rich(), field("f", tInt), static("s", tInt), field("h", tStr), method("s", "clinit", "()V", 1))
	x := of(class("B", "A", "I", method("s", "clinit", "()V", 1), field("g", tInt)), a, iface("I", method("a", "i", "(II)V", 3)))
	for range 2 {
		for _, find := range []finder{member.Method, member.Virtual} {
			_, m, _ := find(x, "B", "m", "(LA;I)S")
			_, again, ok := find(x, "B", "m", "(LA;I)S")
			over(m.Params, api.Type{Class: "scrawl"})
			over(m.Code, api.Instr{S: "scrawl"})
			over(m.Handlers, api.Handler{Catch: "scrawl"})
			if !ok || !reflect.DeepEqual(again, rich()) {
				t.Fatalf("two answers share: %v", again)
			}
		}
		_, i, _ := member.Method(x, "B", "i", "(II)V")
		over(i.Params, api.Type{Class: "scrawl"})
		finder(member.Method).is(t, x, "B", "i", "(II)V", "I", 3)
		over(member.Slots(x, "B"), field("scrawl", tInt))
		over(member.Inits(x, "B"), "scrawl")
		slots(t, x, "B", field("f", tInt), field("h", tStr), field("g", tInt))
		inits(t, x, "B", "A", "B")
	}
	if l := x.Chain("B"); !slices.Equal(l, []string{"B", "A", "Object"}) {
		t.Errorf("the tree is changed: %q", l)
	}
	if c, ok := x.Class("A"); !ok || !reflect.DeepEqual(c.Fields, a.Fields) || !reflect.DeepEqual(c.Methods[0], rich()) {
		t.Errorf("the tree is changed: %v", c)
	}
}
