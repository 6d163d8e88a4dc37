package shape_test

import (
	"reflect"
	"slices"
	"strconv"
	"strings"
	"testing"

	"bonsai/api"
	"bonsai/desc"
	"bonsai/shape"
	"bonsai/tree"
)

var (
	tInt  = api.Type{Kind: api.Int}
	tStr  = api.Type{Kind: api.Str}
	tArr  = api.Type{Kind: api.Arr}
	tVoid = api.Type{Kind: api.Void}
)

var builtins = []string{"Object", "Fault", "NullFault", "BoundsFault", "CastFault", "ZeroFault", "SizeFault"}

func ref(class string) api.Type { return api.Type{Kind: api.Ref, Class: class} }

// field is one of objects.
func field(name string, t api.Type) api.Field { return api.Field{Name: name, Type: t} }

func static(name string, t api.Type) api.Field {
	return api.Field{Name: name, Type: t, Static: true}
}

// method is of a Name and types, as "m(I)V": static if "s", abstract if "a" is in what.
func method(what, key string) api.Method {
	name, d, _ := strings.Cut(key, "(")
	params, ret, ok := desc.Parse("(" + d)
	if !ok {
		panic(key)
	}
	m := api.Method{Name: name, Params: params, Ret: ret, Static: strings.Contains(what, "s"), Abstract: strings.Contains(what, "a")}
	if !m.Abstract {
		m.Locals, m.Code = 9, []api.Instr{{Op: api.RetV}}
	}
	return m
}

// class is one with members: fields, methods, and names of Ifaces.
func class(kind int, name, super string, members ...any) api.Class {
	c := api.Class{Name: name, Super: super, Kind: kind}
	for _, x := range members {
		switch x := x.(type) {
		case api.Field:
			c.Fields = append(c.Fields, x)
		case api.Method:
			c.Methods = append(c.Methods, x)
		case string:
			c.Ifaces = append(c.Ifaces, x)
		}
	}
	return c
}

func plainly(name, super string, members ...any) api.Class {
	return class(api.Plain, name, super, members...)
}

func abstract(name, super string, members ...any) api.Class {
	return class(api.Abstract, name, super, members...)
}

func iface(name string, members ...any) api.Class {
	return class(api.Interface, name, "Object", members...)
}

func of(l ...api.Class) api.Archive { return api.Archive{Classes: l} }

func fine(t *testing.T, what string, l ...api.Class) {
	t.Helper()
	wrong(t, what, 0, api.OK, l...)
}

// wrong asks for e of the class at that place.
func wrong(t *testing.T, what string, at int, e api.Errno, l ...api.Class) {
	t.Helper()
	if k, got := shape.Check(of(l...)); k != at || got != e {
		t.Errorf("%s: %d at %d, not %d at %d", what, got, k, e, at)
	}
}

func missing(t *testing.T, x *tree.Tree, class string, want ...string) {
	t.Helper()
	if got := shape.Missing(x, class); !slices.Equal(got, want) {
		t.Errorf("Missing of %q: %q, not %q", class, got, want)
	}
}

// whole is an archive that has nothing wrong, with something of each kind, those above behind those below.
func whole() []api.Class {
	return []api.Class{
		class(api.Final, "D", "C", "J", method("", "m()V"), method("", "n(LD;LI;)LD;"), method("s", "clinit()V"), field("f", ref("NullFault"))),
		plainly("C", "B", "I", "J", method("", "i()I"), method("", "j(LObject;)LC;"), method("s", "clinit()V"), field("f", ref("D")), static("g", ref("I"))),
		abstract("B", "A", "I", method("a", "m()V"), method("a", "n(LD;LI;)LD;"), method("", "k()S"), method("s", "s()V")),
		plainly("A", "Object", method("", "m()V"), method("", "m()I"), method("", "m(I)V"), method("s", "s()V"), method("s", "m(II)V"), field("f", tInt), static("s", tStr), field("a", tArr)),
		iface("I", "J", "K", method("a", "i()I"), method("a", "k()S")),
		iface("J", "K", method("a", "i()I"), method("a", "j(LObject;)LC;")),
		iface("K"),
		plainly("E", "ZeroFault", "K", method("", "clinit2()V"), method("", "Clinit()I")),
		plainly("object", "E"),
	}
}

func TestP10_1Fine(t *testing.T) {
	fine(t, "no classes")
	l := whole()
	l[0].Methods = append(l[0].Methods, method("", "n()V"))
	l[1].Methods = append(l[1].Methods, method("", "n(LD;LI;)LD;"))
	fine(t, "whole", l...)
	slices.Reverse(l)
	fine(t, "whole, turned round", l...)
	fine(t, "one", plainly("A", "Object"))
	fine(t, "below each Builtin", plainly("A", "Object"), plainly("B", "Fault"), plainly("C", "NullFault"), plainly("D", "BoundsFault"), plainly("E", "CastFault"), plainly("F", "ZeroFault"), plainly("G", "SizeFault"))
	if k, e := shape.Check(api.Archive{Classes: []api.Class{}}); k != 0 || e != api.OK {
		t.Errorf("an empty list: %d at %d", e, k)
	}
}

func TestP10_1Name(t *testing.T) {
	for _, b := range builtins {
		wrong(t, b, 0, api.ErrName, plainly(b, "Object"))
		wrong(t, b, 1, api.ErrName, plainly("A", "Object"), plainly(b, "A"))
	}
	wrong(t, "Object as it is", 0, api.ErrName, plainly("Object", ""))
	wrong(t, "twice", 1, api.ErrName, plainly("A", "Object"), plainly("A", "Object"))
	wrong(t, "twice, apart", 2, api.ErrName, plainly("A", "Object"), plainly("B", "A"), iface("A"))
	wrong(t, "thrice", 1, api.ErrName, plainly("A", "Object"), plainly("A", "Object"), plainly("A", "Object"))
	wrong(t, "none", 0, api.ErrSuper, plainly("A", "Object"), plainly("", "A")) // Object's Super is "": it Loops
	fine(t, "unlike", plainly("A", "Object"), plainly("a", "Object"), plainly("AA", "Object"), plainly("fault", "Object"), plainly("Faults", "Object"))
	fine(t, "names that may not be", plainly("A;", "Object"), plainly("9", "A;"), plainly("\xff", "9"), plainly("A ", "\xff"))
}

func TestP10_1Super(t *testing.T) {
	a := plainly("A", "Object")
	wrong(t, "not Known", 1, api.ErrSuper, a, plainly("B", "gone"))
	wrong(t, "none", 1, api.ErrSuper, a, plainly("B", ""))
	wrong(t, "an Interface", 2, api.ErrSuper, a, iface("I"), plainly("B", "I"))
	wrong(t, "a later Interface", 1, api.ErrSuper, a, plainly("B", "I"), iface("I"))
	wrong(t, "Final", 2, api.ErrSuper, a, class(api.Final, "F", "A"), plainly("B", "F"))
	wrong(t, "a later Final one", 0, api.ErrSuper, class(api.Final, "B", "F"), class(api.Final, "F", "A"), a)
	fine(t, "Final ones below", class(api.Final, "F", "A"), class(api.Final, "G", "B"), a, abstract("B", "A"))
	fine(t, "none, that is Known", plainly("B", "C"), plainly("C", "Object"))
	for _, kind := range []int{api.Plain, api.Abstract, api.Final} {
		wrong(t, "not Known", 0, api.ErrSuper, class(kind, "B", "gone"))
		fine(t, "Object", class(kind, "B", "Object"))
	}
}

func TestP10_1SuperOfInterface(t *testing.T) {
	fine(t, "Object", iface("I"))
	a := plainly("A", "Object")
	for _, super := range []string{"A", "B", "Fault", "NullFault", "J", "F", "I", "gone", ""} {
		i := iface("I")
		i.Super = super
		wrong(t, super, 4, api.ErrSuper, a, abstract("B", "A"), class(api.Final, "F", "A"), iface("J"), i)
	}
}

func TestP10_1Ifaces(t *testing.T) {
	a, b, f, i, j := plainly("A", "Object"), abstract("B", "Object"), class(api.Final, "F", "Object"), iface("I"), iface("J", "I")
	for _, kind := range []int{api.Plain, api.Abstract, api.Final, api.Interface} {
		with := func(l ...string) []api.Class {
			c := class(kind, "C", "Object")
			c.Ifaces = l
			return []api.Class{a, b, c, f, i, j}
		}
		fine(t, "one", with("I")...)
		fine(t, "two", with("I", "J")...)
		fine(t, "turned round", with("J", "I")...)
		for _, name := range []string{"A", "B", "F", "C", "gone", "", "Object", "Fault", "SizeFault"} {
			wrong(t, name, 2, api.ErrSuper, with(name)...)
			wrong(t, name, 2, api.ErrSuper, with("I", "J", name)...)
			wrong(t, name, 2, api.ErrSuper, with(name, "J")...)
		}
		wrong(t, "twice", 2, api.ErrSuper, with("I", "I")...)
		wrong(t, "twice, apart", 2, api.ErrSuper, with("I", "J", "I")...)
	}
	fine(t, "a Super's again", plainly("P", "Q", "I"), plainly("Q", "Object", "I", "J"), i, j)
}

func TestP10_1Loops(t *testing.T) {
	wrong(t, "itself", 0, api.ErrSuper, plainly("A", "A"))
	wrong(t, "two", 0, api.ErrSuper, plainly("A", "B"), plainly("B", "A"))
	wrong(t, "three", 1, api.ErrSuper, plainly("O", "Object"), plainly("A", "B"), plainly("B", "C"), plainly("C", "A"))
	wrong(t, "above it", 0, api.ErrSuper, plainly("A", "B"), plainly("B", "B"))
	wrong(t, "an Iface itself", 0, api.ErrSuper, iface("I", "I"))
	wrong(t, "Ifaces", 1, api.ErrSuper, iface("K"), iface("I", "K", "J"), iface("J", "L"), iface("L", "K", "I"))
	wrong(t, "Ifaces that it doesn't come to itself by", 1, api.ErrSuper, plainly("A", "Object", "I"), iface("I", "J"), iface("J", "I"))
	fine(t, "by two ways", plainly("A", "Object", "I", "J"), iface("I", "J", "K"), iface("J", "K"), iface("K"))
}

// each asks for e of a class with these members, of each of these kinds.
func each(t *testing.T, what string, e api.Errno, kinds []int, members ...any) {
	t.Helper()
	for _, kind := range kinds {
		l := []api.Class{plainly("A", "Object"), class(kind, "C", "Object", members...), iface("I")}
		at := 1
		if e == api.OK {
			at = 0
		}
		wrong(t, what+", of kind "+strconv.Itoa(kind), at, e, l...)
	}
}

var (
	allKinds  = []int{api.Plain, api.Abstract, api.Final, api.Interface}
	noIface   = []int{api.Plain, api.Abstract, api.Final}
	onlyIface = []int{api.Interface}
	inMade    = []int{api.Plain, api.Final}
	mayLack   = []int{api.Abstract, api.Interface}
)

func TestP10_1Fields(t *testing.T) {
	each(t, "unlike names", api.OK, noIface, field("f", tInt), field("F", tInt), static("g", tInt), static("ff", tInt), static("clinit", tInt))
	each(t, "two", api.ErrMember, noIface, field("f", tInt), field("f", tInt))
	each(t, "of two types", api.ErrMember, noIface, field("f", tInt), field("g", tInt), field("f", tStr))
	each(t, "static", api.ErrMember, noIface, static("f", tInt), static("f", tInt))
	each(t, "static and not", api.ErrMember, noIface, static("f", tInt), field("f", tInt))
	each(t, "not static and static", api.ErrMember, noIface, field("f", tInt), static("f", tInt))
	each(t, "as a method", api.OK, noIface, field("m", tInt), method("", "m()V"))
	each(t, "of an Interface", api.ErrMember, onlyIface, field("f", tInt))
	each(t, "static, of an Interface", api.ErrMember, onlyIface, static("f", tInt))
	fine(t, "as one above", plainly("A", "B", field("f", tInt), static("s", tInt)), plainly("B", "Object", field("s", tInt), static("f", tInt)))
}

func TestP10_1Methods(t *testing.T) {
	each(t, "unlike", api.OK, noIface, method("", "m()V"), method("", "m()I"), method("", "m(I)V"), method("s", "m(S)V"), method("s", "M()V"), method("", "n()V"))
	each(t, "two", api.ErrMember, noIface, method("", "m(ILA;)V"), method("", "m(ILA;)V"))
	each(t, "two apart", api.ErrMember, noIface, method("s", "m()LA;"), method("s", "n()LA;"), method("s", "m()LA;"))
	each(t, "static and not", api.ErrMember, noIface, method("", "m()V"), method("s", "m()V"))
	each(t, "two abstract", api.ErrMember, mayLack, method("a", "m()V"), method("a", "m()V"))
	each(t, "abstract and not", api.ErrMember, allKinds, method("a", "m()V"), method("", "m()V"))
	each(t, "abstract", api.OK, mayLack, method("a", "m()V"), method("a", "m()I"))
	each(t, "abstract", api.ErrMember, inMade, method("a", "m()V"))
	each(t, "abstract, behind one", api.ErrMember, inMade, method("", "n()V"), method("a", "m()V"))
	each(t, "abstract and static", api.ErrMember, allKinds, method("as", "m()V"))
	each(t, "of an Interface, not abstract", api.ErrMember, onlyIface, method("a", "n()V"), method("", "m()V"))
	each(t, "of an Interface, static", api.ErrMember, onlyIface, method("s", "m()V"))
}

// oneKey are two methods that have one Key, though they are alike neither in name nor in types: some names may not be.
func oneKey(t *testing.T) (api.Method, api.Method) {
	t.Helper()
	m, n := api.Method{Name: "m", Ret: ref("C()LA")}, api.Method{Name: "m()LC", Ret: ref("A")}
	if desc.Key(m) != desc.Key(n) {
		t.Fatalf("%q, %q", desc.Key(m), desc.Key(n))
	}
	return m, n
}

func TestP10_1OneKey(t *testing.T) {
	m, n := oneKey(t)
	o, a := plainly("C()LA", "Object"), plainly("A", "Object")
	wrong(t, "one Key", 2, api.ErrMember, o, a, plainly("C", "Object", m, n))
	n.Static = true
	wrong(t, "one Key above", 2, api.ErrOverride, o, a, plainly("C", "D", m), plainly("D", "Object", n))
	wrong(t, "one Key above, turned round", 2, api.ErrOverride, o, a, plainly("C", "D", n), plainly("D", "Object", m))
	m.Static = true
	fine(t, "one Key, both static", o, a, plainly("C", "D", m), plainly("D", "Object", n))
}

func TestP10_1Refs(t *testing.T) {
	each(t, "Known", api.OK, noIface, field("f", ref("C")), static("g", ref("A")), field("h", ref("I")), field("i", ref("Object")), field("j", ref("SizeFault")))
	each(t, "Known", api.OK, mayLack, method("a", "m(LA;LI;LC;LObject;)LC;"), method("a", "n()LNullFault;"))
	each(t, "a field's", api.ErrMember, noIface, field("f", ref("A")), field("g", ref("gone")))
	each(t, "a static field's", api.ErrMember, noIface, static("g", ref("B")), static("f", ref("A")))
	each(t, "none", api.ErrMember, noIface, field("f", ref("")))
	each(t, "a param", api.ErrMember, noIface, method("", "m(LA;ILgone;)V"))
	each(t, "the only param", api.ErrMember, mayLack, method("a", "m(Lgone;)V"))
	each(t, "what it tells", api.ErrMember, allKinds, method("a", "n()V"), method("a", "m()Lgone;"))
	each(t, "what it tells", api.ErrMember, noIface, method("s", "m()Lgone;"))
	odd := field("f", api.Type{Kind: api.Int, Class: "gone"})
	each(t, "no Ref", api.OK, noIface, odd, field("g", api.Type{Kind: api.Top, Class: "gone"}), field("h", api.Type{}), field("i", tVoid))
	code := method("", "m()V")
	code.Code = []api.Instr{{Op: api.New, Class: "gone"}, {Op: api.CallS, Class: "gone", Name: "m", Desc: "(Lgone;)Lgone;"}}
	code.Handlers = []api.Handler{{Catch: "gone"}}
	each(t, "code is another layer's", api.OK, noIface, code)
}

func TestP10_1Clinit(t *testing.T) {
	each(t, "right", api.OK, noIface, method("s", "clinit()V"))
	each(t, "not static", api.ErrMember, noIface, method("", "clinit()V"))
	each(t, "abstract", api.ErrMember, allKinds, method("a", "clinit()V"))
	each(t, "abstract and static", api.ErrMember, allKinds, method("as", "clinit()V"))
	each(t, "of an Interface", api.ErrMember, onlyIface, method("s", "clinit()V"))
	for _, d := range []string{"()I", "()LC;", "(I)V", "(LC;)V", "(II)I"} {
		each(t, d, api.ErrMember, noIface, method("s", "clinit"+d))
		each(t, d, api.ErrMember, noIface, method("s", "clinit()V"), method("s", "clinit"+d))
	}
	each(t, "another name", api.OK, noIface, method("", "Clinit()I"), method("", "clinits()V"), method("", "init()V"))
	fine(t, "each its own", plainly("A", "B", method("s", "clinit()V")), plainly("B", "Object", method("s", "clinit()V")))
}

func TestP10_1Override(t *testing.T) {
	s, m := method("s", "m(LA;)V"), method("", "m(LA;)V")
	a := plainly("A", "Object")
	wrong(t, "static below", 1, api.ErrOverride, a, plainly("B", "C", s), plainly("C", "Object", m))
	wrong(t, "static above", 1, api.ErrOverride, a, plainly("B", "C", m), plainly("C", "Object", s))
	wrong(t, "far above", 1, api.ErrOverride, a, plainly("B", "C", method("", "n()V"), m), plainly("C", "D"), plainly("D", "E", method("", "n()V")), plainly("E", "A", s))
	fine(t, "beside", plainly("B", "A", m), plainly("C", "A", s), a)
	fine(t, "below only", plainly("B", "C", m), plainly("C", "A", m), a, plainly("S", "A", s))
	fine(t, "both static", plainly("B", "C", s), plainly("C", "A", s), a)
	fine(t, "other types", plainly("B", "C", s, method("", "m()V")), plainly("C", "A", method("", "m(LB;)V"), method("s", "m()I")), a)
	fine(t, "another name", plainly("B", "C", s), plainly("C", "A", method("", "M(LA;)V")), a)
}

// Any method of the same Key counts, not the nearest one alone.
func TestP10_1OverrideAny(t *testing.T) {
	s, m := method("s", "m()V"), method("", "m()V")
	wrong(t, "behind one that is like it", 0, api.ErrOverride, plainly("A", "B", m), plainly("B", "C", m), plainly("C", "Object", s))
	wrong(t, "two of one class", 0, api.ErrOverride, plainly("A", "B", m), plainly("B", "Object", m, s))
	wrong(t, "two of one class, turned round", 0, api.ErrOverride, plainly("A", "B", m), plainly("B", "Object", s, m))
	wrong(t, "an Iface's, behind a class's", 0, api.ErrOverride, abstract("A", "B", "I", s), plainly("B", "Object", s), iface("I", method("a", "m()V")))
	wrong(t, "one of many", 0, api.ErrOverride, plainly("A", "B", method("", "a()V"), s, method("", "z()V")), plainly("B", "Object", method("", "a()V"), m))
	wrong(t, "abstract above", 0, api.ErrOverride, abstract("A", "B", s), abstract("B", "Object", method("a", "m()V")))
	wrong(t, "abstract below", 0, api.ErrOverride, abstract("A", "B", method("a", "m()V")), abstract("B", "Object", s))
	fine(t, "abstract below", abstract("A", "B", method("a", "m()V")), abstract("B", "Object", m))
	wrong(t, "Clinit", 0, api.ErrOverride, plainly("A", "B", method("s", "clinit()V")), plainly("B", "Object", method("", "clinit()V")))
}

func TestP10_1OverrideOfIfaces(t *testing.T) {
	s, m, a, h := method("s", "m()V"), method("", "m()V"), method("a", "m()V"), method("as", "m()V")
	wrong(t, "its own", 0, api.ErrOverride, plainly("A", "Object", "I", s), iface("I", a))
	wrong(t, "the second", 0, api.ErrOverride, plainly("A", "Object", "K", "I", s), iface("I", a), iface("K"))
	wrong(t, "one of an Iface's", 0, api.ErrOverride, plainly("A", "Object", "K", s), iface("I", a), iface("K", "I"))
	wrong(t, "one of a Super's", 0, api.ErrOverride, plainly("A", "B", s), abstract("B", "Object", "K"), iface("I", a), iface("K", "I"))
	wrong(t, "a static one", 0, api.ErrOverride, plainly("A", "Object", "I", m), iface("I", s))
	wrong(t, "an abstract static one", 0, api.ErrOverride, plainly("A", "Object", "I", m), iface("I", h))
	wrong(t, "of an Interface", 0, api.ErrOverride, iface("A", "I", a), iface("I", h))
	fine(t, "alike", plainly("A", "Object", "I", m), iface("I", a))
	fine(t, "not its own", plainly("A", "Object", s), plainly("B", "Object", "I", m), iface("I", a))
}

func TestP10_1Abstract(t *testing.T) {
	a := method("a", "m()V")
	for _, kind := range inMade {
		wrong(t, "above", 0, api.ErrAbstract, class(kind, "C", "B"), abstract("B", "Object", a))
		wrong(t, "far above", 0, api.ErrAbstract, class(kind, "C", "A"), abstract("A", "B"), abstract("B", "Object", a))
		wrong(t, "an Iface's", 0, api.ErrAbstract, class(kind, "C", "Object", "I"), iface("I", a))
		wrong(t, "of an Iface's Iface", 0, api.ErrAbstract, class(kind, "C", "Object", "J"), iface("J", "I"), iface("I", a))
		wrong(t, "of a Super's Iface", 0, api.ErrAbstract, class(kind, "C", "A"), abstract("A", "Object", "I"), iface("I", a))
		wrong(t, "of other types", 0, api.ErrAbstract, class(kind, "C", "A", method("", "m()I"), method("", "m(I)V")), abstract("A", "Object", a))
		wrong(t, "one of two", 0, api.ErrAbstract, class(kind, "C", "A", method("", "m()V")), abstract("A", "Object", a, method("a", "n()V")))
		fine(t, "there", class(kind, "C", "A", method("", "m()V")), abstract("A", "Object", "I", a), iface("I", a))
		fine(t, "there above", class(kind, "C", "B", "I"), plainly("B", "Object", method("", "m()V")), iface("I", a))
		fine(t, "there above the abstract one", class(kind, "C", "A"), abstract("A", "B", a), plainly("B", "Object", method("", "m()V")))
	}
	for _, kind := range []int{api.Abstract, 0, 5, -1} {
		fine(t, "not made", class(kind, "C", "A", "I"), abstract("A", "Object", a), iface("I", a))
	}
	fine(t, "an Interface", iface("C", "I"), iface("I", a))
}

// A kind that is none is neither Abstract nor an Interface.
func TestP10_1NoKind(t *testing.T) {
	for _, kind := range []int{0, 5, -1, 1 << 40} {
		c := class(kind, "C", "Object")
		fine(t, "nothing", c)
		fine(t, "above", plainly("A", "C"), c)
		wrong(t, "an Iface", 0, api.ErrSuper, plainly("A", "Object", "C"), c)
		wrong(t, "abstract", 0, api.ErrMember, class(kind, "C", "Object", method("a", "m()V")))
		fine(t, "not abstract", class(kind, "C", "Object", method("", "m()V"), method("s", "n()V"), field("f", tInt)))
	}
}

// Of one class the error that is named first: each row has all those of the rows behind it.
func TestP10_1Order(t *testing.T) {
	b := abstract("B", "Object", "I", method("s", "s()V"))
	i := iface("I", method("a", "m()V"))
	o, s, m := method("", "o()V"), method("", "s()V"), method("", "m()V")
	wrong(t, "all", 2, api.ErrName, b, i, class(api.Final, "B", "B", "gone", o, o, s))
	wrong(t, "all, of a Builtin's name", 2, api.ErrName, b, i, class(api.Final, "Fault", "B", "gone", o, o, s))
	wrong(t, "but the name", 2, api.ErrSuper, b, i, class(api.Final, "A", "B", "gone", o, o, s))
	wrong(t, "but Ifaces", 2, api.ErrMember, b, i, class(api.Final, "A", "B", o, o, s))
	wrong(t, "but members", 2, api.ErrOverride, b, i, class(api.Final, "A", "B", o, s))
	wrong(t, "but what is static", 2, api.ErrAbstract, b, i, class(api.Final, "A", "B", o))
	fine(t, "nothing", b, i, class(api.Final, "A", "B", o, m))
}

// Of several classes the first one, whatever is wrong with those behind it.
func TestP10_1FirstClass(t *testing.T) {
	rows := []struct {
		e api.Errno
		c api.Class
	}{
		{api.ErrAbstract, plainly("L", "B")},
		{api.ErrOverride, plainly("O", "B", method("", "s()V"), method("", "m()V"))},
		{api.ErrMember, plainly("M", "B", field("f", tInt), field("f", tInt))},
		{api.ErrSuper, plainly("S", "gone")},
		{api.ErrName, plainly("A", "Object")},
	}
	for k, first := range rows {
		l := []api.Class{plainly("A", "Object"), abstract("B", "Object", method("a", "m()V"), method("s", "s()V"))}
		for _, row := range slices.Concat(rows[k:], rows[:k]) {
			l = append(l, row.c)
		}
		wrong(t, "from "+strconv.Itoa(k), 2, first.e, l...)
	}
}

func TestP10_2Missing(t *testing.T) {
	x := tree.New(of(
		plainly("D", "C", "K", method("", "m()V"), method("s", "s()V"), method("a", "d()V")),
		abstract("C", "B", "J", method("a", "m()V"), method("a", "n()V"), method("a", "m(I)V")),
		abstract("B", "A", method("", "n()V"), method("a", "b(LA;)LB;"), method("a", "M()V"), method("a", "d()V"), method("", "z()V")),
		plainly("A", "Object", method("", "a()V"), method("a", "m(I)V")),
		iface("I", method("a", "i()V"), method("a", "a()V"), method("a", "s()V")),
		iface("J", "I", method("a", "i()V"), method("a", "j()V"), method("a", "m()V"), method("a", "m()I")),
		iface("K", method("a", "m()V"), method("a", "k()V"), method("", "l()V")),
		iface("L", method("a", "i()V")),
	))
	missing(t, x, "D", "M()V", "b(LA;)LB;", "d()V", "i()V", "j()V", "k()V", "m()I", "m(I)V", "s()V")
	missing(t, x, "C", "M()V", "b(LA;)LB;", "d()V", "i()V", "j()V", "m()I", "m()V", "m(I)V", "s()V")
	missing(t, x, "B", "M()V", "b(LA;)LB;", "d()V", "m(I)V")
	missing(t, x, "A", "m(I)V")
	missing(t, x, "I", "a()V", "i()V", "s()V")
	missing(t, x, "J", "a()V", "i()V", "j()V", "m()I", "m()V", "s()V")
	missing(t, x, "K", "k()V", "m()V")
	for _, name := range append(builtins, "gone", "", "a", "D ") {
		missing(t, x, name)
	}
}

// What stands for an abstract method is anywhere in the Chain, in no Iface, neither static nor abstract.
func TestP10_2StandsFor(t *testing.T) {
	a, m, s, h := method("a", "m()V"), method("", "m()V"), method("s", "m()V"), method("as", "m()V")
	for _, row := range []struct {
		what    string
		missing bool
		l       []api.Class
	}{
		{"itself", false, []api.Class{plainly("C", "A", m), abstract("A", "Object", a)}},
		{"above", false, []api.Class{abstract("C", "A", a), plainly("A", "Object", m)}},
		{"far above", false, []api.Class{abstract("C", "B", a), abstract("B", "A", a, s, h), plainly("A", "Object", m)}},
		{"above, for an Iface's", false, []api.Class{plainly("C", "A", "I"), plainly("A", "Object", m), iface("I", a)}},
		{"below", true, []api.Class{abstract("C", "Object", a), plainly("D", "C", m)}},
		{"beside", true, []api.Class{abstract("C", "A"), abstract("A", "Object", a), plainly("D", "A", m)}},
		{"of an Iface", true, []api.Class{plainly("C", "Object", "I", "J"), iface("I", a), iface("J", m)}},
		{"static", true, []api.Class{plainly("C", "A", s), abstract("A", "Object", a)}},
		{"static and abstract", true, []api.Class{plainly("C", "A", h), abstract("A", "Object", a)}},
		{"abstract and static alone", true, []api.Class{plainly("C", "Object", h)}},
		{"static alone", false, []api.Class{plainly("C", "Object", s)}},
		{"both of one class", false, []api.Class{plainly("C", "Object", a, m)}},
		{"another name", true, []api.Class{plainly("C", "A", method("", "M()V")), abstract("A", "Object", a)}},
		{"other types", true, []api.Class{plainly("C", "A", method("", "m(I)V"), method("", "m()I")), abstract("A", "Object", a)}},
		{"an Interface's Super's", true, []api.Class{class(api.Interface, "C", "A"), abstract("A", "Object", a)}},
		{"an Iface's Super's", false, []api.Class{plainly("C", "Object", "I"), class(api.Interface, "I", "A"), abstract("A", "Object", a)}},
	} {
		var want []string
		if row.missing {
			want = []string{"m()V"}
		}
		x := tree.New(of(row.l...))
		if got := shape.Missing(x, "C"); !slices.Equal(got, want) {
			t.Errorf("%s: %q, not %q", row.what, got, want)
		}
	}
}

// Sorted by their bytes.
func TestP10_2Sorted(t *testing.T) {
	keys := []string{"A()V", "A0()V", "A_()V", "Aa()V", "Z()V", "a()A", "a()I", "a()LA;", "a()S", "a()V", "a(A)V", "a(I)V", "a(II)V", "a(LA;)V", "a0()V", "aA()V", "a_()V", "aa()V", "b()V"}
	if !slices.IsSorted(keys) {
		t.Fatal("meant to be sorted")
	}
	var l []any
	for k := range keys {
		l = append(l, method("a", keys[k*7%len(keys)]))
	}
	missing(t, tree.New(of(abstract("A", "B", l[:9]...), abstract("B", "Object", l[5:]...))), "A", keys...)
	missing(t, tree.New(of(plainly("A", "Object", "J", "I"), iface("I", l[:12]...), iface("J", l[8:]...))), "A", keys...)
}

// Two methods of one Key that are alike neither in name nor in types don't stand for each other.
func TestP10_2OneKey(t *testing.T) {
	m, n := oneKey(t)
	m.Abstract = true
	x := tree.New(of(plainly("A", "B", n), abstract("B", "Object", m), plainly("C", "Object", m, n)))
	missing(t, x, "A", "m()LC()LA;")
	missing(t, x, "C", "m()LC()LA;")
	n.Abstract = true
	x = tree.New(of(plainly("A", "B", n), abstract("B", "Object", m), plainly("C", "Object", m, n)))
	missing(t, x, "A", "m()LC()LA;") // once
	missing(t, x, "C", "m()LC()LA;")
}

func TestP10_2NoTree(t *testing.T) {
	for _, x := range []*tree.Tree{nil, tree.New(api.Archive{})} {
		for _, name := range append(builtins, "A", "", "gone") {
			missing(t, x, name)
		}
	}
}

// Classes as tree takes them: the first of a name, none in a Builtin's place, one named "", those that come to themselves.
func TestP10_2OddClasses(t *testing.T) {
	x := tree.New(of(
		plainly("A", "B", "J"), abstract("B", "A", "I", method("a", "b()V")), plainly("A", "Object", method("a", "a()V")),
		iface("I", "J", method("a", "i()V")), iface("J", "I", "gone", method("a", "j()V")), iface("I", method("a", "k()V")),
		abstract("", "Object", method("a", "e()V")), abstract("Fault", "Object", method("a", "f()V")),
	))
	missing(t, x, "A", "b()V", "i()V", "j()V")
	missing(t, x, "B", "b()V", "i()V", "j()V")
	missing(t, x, "I", "e()V", "i()V", "j()V")
	missing(t, x, "", "e()V")
	missing(t, x, "Object", "e()V") // its Super is "", which is Known
	missing(t, x, "Fault", "e()V")
}

// What Check and Missing hold against one another are the same methods.
func TestP10_3Promised(t *testing.T) {
	a := of(
		plainly("C", "B", "J", method("", "b()V")), abstract("B", "A", "I", method("a", "a()V"), method("a", "b()V")), plainly("A", "Object", method("", "a()V"), method("", "i()V")),
		iface("I", method("a", "i()V")), iface("J", "I", method("a", "a()V")),
	)
	fine(t, "all there", a.Classes...)
	for _, gone := range []struct{ class, method int }{{0, 0}, {2, 0}, {2, 1}} {
		l := slices.Clone(a.Classes)
		c := &l[gone.class]
		c.Methods = slices.Delete(slices.Clone(c.Methods), gone.method, gone.method+1)
		wrong(t, "one away", 0, api.ErrAbstract, l...)
		missing(t, tree.New(of(l...)), "C", desc.Key(a.Classes[gone.class].Methods[gone.method]))
	}
}

// rich is a class with room behind each of its lists.
func rich() api.Class {
	c := plainly("A", "B", "I", field("f", ref("A")), method("", "m(LA;I)S"))
	c.Ifaces = append(make([]string, 0, 9), c.Ifaces...)
	c.Fields = append(make([]api.Field, 0, 9), c.Fields...)
	m := &c.Methods[0]
	m.Params = append(make([]api.Type, 0, 9), m.Params...)
	m.Code = append(make([]api.Instr, 0, 9), m.Code...)
	m.Handlers = append(make([]api.Handler, 0, 9), api.Handler{From: 0, To: 1, Catch: "Fault"})
	c.Methods = append(make([]api.Method, 0, 9), c.Methods...)
	return c
}

// DOC.md, rule 3: what is handed in isn't changed, the room behind it neither; what is answered is new memory.
func TestNothingChanged(t *testing.T) {
	make := func() []api.Class {
		return append(append([]api.Class(nil), rich(), abstract("B", "Object", method("a", "m(LA;I)S"), method("a", "o()V"), method("a", "n()V"))), iface("I", method("a", "i()V")))
	}
	l := make()
	a := of(l...)
	wrong(t, "one", 0, api.ErrAbstract, l...)
	x := tree.New(a)
	for range 2 {
		got := shape.Missing(x, "A")
		if !slices.Equal(got, []string{"i()V", "n()V", "o()V"}) {
			t.Fatalf("Missing: %q", got)
		}
		got = got[:cap(got)]
		for k := range got {
			got[k] = "scrawl"
		}
	}
	if !reflect.DeepEqual(l, make()) {
		t.Errorf("changed: %v", l)
	}
	c, _ := x.Class("A")
	if c.Methods[0].Handlers[0].Catch != "Fault" || !reflect.DeepEqual(x.Chain("A"), []string{"A", "B", "Object"}) {
		t.Errorf("the tree is changed: %v", c)
	}
	for _, c := range l[:1] {
		blank(t, c.Ifaces)
		blank(t, c.Fields)
		blank(t, c.Methods)
		blank(t, c.Methods[0].Params)
		blank(t, c.Methods[0].Code)
		blank(t, c.Methods[0].Handlers)
	}
}

// blank asks whether nothing was written behind l.
func blank[T any](t *testing.T, l []T) {
	t.Helper()
	var none T
	for _, x := range l[len(l):cap(l)] {
		if !reflect.DeepEqual(x, none) {
			t.Errorf("written behind: %v", x)
		}
	}
}
