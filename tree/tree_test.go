package tree_test

import (
	"reflect"
	"slices"
	"testing"

	"bonsai/api"
	"bonsai/tree"
)

// builtins are the classes that each archive has, and who is right above them.
var builtins = [][2]string{
	{"Object", ""}, {"Fault", "Object"}, {"NullFault", "Fault"}, {"BoundsFault", "Fault"},
	{"CastFault", "Fault"}, {"ZeroFault", "Fault"}, {"SizeFault", "Fault"},
}

func class(name, super string, ifaces ...string) api.Class {
	return api.Class{Name: name, Super: super, Kind: api.Plain, Ifaces: ifaces}
}

func iface(name string, ifaces ...string) api.Class {
	return api.Class{Name: name, Super: api.Object, Kind: api.Interface, Ifaces: ifaces}
}

func of(l ...api.Class) api.Archive { return api.Archive{Classes: l} }

// lists holds what a call answers against want, nil or empty.
func lists(t *testing.T, what string, got []string, want ...string) {
	t.Helper()
	if !slices.Equal(got, want) {
		t.Errorf("%s: %q, not %q", what, got, want)
	}
}

func text(t *testing.T, what, got, want string) {
	t.Helper()
	if got != want {
		t.Errorf("%s: %q, not %q", what, got, want)
	}
}

func is(t *testing.T, what string, got, want bool) {
	t.Helper()
	if got != want {
		t.Errorf("%s: %t", what, got)
	}
}

// alike tells whether a and b are one class, nil or empty.
func alike(a, b api.Class) bool {
	return reflect.DeepEqual(full(a), full(b))
}

// full tells c with an empty list in the place of each nil.
func full(c api.Class) api.Class {
	c.Ifaces = append([]string{}, c.Ifaces...)
	c.Fields = append([]api.Field{}, c.Fields...)
	c.Methods = append([]api.Method{}, c.Methods...)
	for k := range c.Methods {
		m := &c.Methods[k]
		m.Params = append([]api.Type{}, m.Params...)
		m.Code = append([]api.Instr{}, m.Code...)
		m.Handlers = append([]api.Handler{}, m.Handlers...)
	}
	return c
}

// rich is a class that has something in each of its fields, and room behind each list.
func rich(name string) api.Class {
	return api.Class{
		Name: name, Super: "S", Kind: api.Abstract,
		Ifaces: append(make([]string, 0, 9), "I", "J"),
		Fields: append(make([]api.Field, 0, 9), api.Field{Name: "f", Type: api.Type{Kind: api.Ref, Class: "C"}, Static: true}, api.Field{Name: "g", Type: api.Type{Kind: api.Int}}),
		Methods: append(make([]api.Method, 0, 9), api.Method{
			Name: "m", Params: append(make([]api.Type, 0, 9), api.Type{Kind: api.Ref, Class: "C"}, api.Type{Kind: api.Str}), Ret: api.Type{Kind: api.Arr},
			Static: true, Abstract: true, Locals: 7,
			Code:     append(make([]api.Instr, 0, 9), api.Instr{Op: api.PushI, N: 3}, api.Instr{Op: api.CallV, Class: "C", Name: "n", Desc: "()V"}, api.Instr{Op: 99, K: 4, S: "s"}),
			Handlers: append(make([]api.Handler, 0, 9), api.Handler{From: 1, To: 2, At: 3, Catch: "Fault"}),
		}, api.Method{Name: "n"}),
	}
}

// scrawl writes over all that hangs on c, and over the spare room behind it.
func scrawl(c api.Class) {
	over(c.Ifaces, "scrawl")
	over(c.Fields, api.Field{Name: "scrawl"})
	for _, m := range c.Methods {
		over(m.Params, api.Type{Class: "scrawl"})
		over(m.Code, api.Instr{S: "scrawl"})
		over(m.Handlers, api.Handler{Catch: "scrawl"})
	}
	over(c.Methods, api.Method{Name: "scrawl"})
}

func over[T any](l []T, x T) {
	l = l[:cap(l)]
	for k := range l {
		l[k] = x
	}
}

func TestP8_1Builtin(t *testing.T) {
	for _, b := range builtins {
		is(t, "Builtin "+b[0], tree.Builtin(b[0]), true)
	}
	for _, name := range []string{"", "object", "OBJECT", "Object ", " Object", "Objec", "Objects", "Fault\x00", "Null", "null", "String", "clinit", "Int", "FaultNull", "A"} {
		is(t, "Builtin "+name, tree.Builtin(name), false)
	}
}

func TestP8_1BuiltinClasses(t *testing.T) {
	for _, a := range []api.Archive{{}, of(class("A", "Object")), of(class("", "Fault"))} {
		x := tree.New(a)
		for _, b := range builtins {
			want := api.Class{Name: b[0], Super: b[1], Kind: api.Plain}
			c, ok := x.Class(b[0])
			if !ok || !alike(c, want) {
				t.Errorf("Class(%q): %v, %t", b[0], c, ok)
			}
			is(t, "Known "+b[0], x.Known(b[0]), true)
			text(t, "Super "+b[0], x.Super(b[0]), b[1])
		}
	}
}

// A class of a Builtin's name doesn't count, whatever it is and wherever it stands.
func TestP8_1BuiltinsAhead(t *testing.T) {
	var l []api.Class
	for _, b := range builtins {
		l = append(l, api.Class{Name: b[0], Super: "A", Kind: api.Interface, Ifaces: []string{"I", b[0]}, Fields: make([]api.Field, 1), Methods: make([]api.Method, 1)})
	}
	l = append(l, class("A", "NullFault"), iface("I"))
	x := tree.New(of(l...))
	for _, b := range builtins {
		c, ok := x.Class(b[0])
		if !ok || !alike(c, api.Class{Name: b[0], Super: b[1], Kind: api.Plain}) {
			t.Errorf("Class(%q): %v, %t", b[0], c, ok)
		}
		lists(t, "Ifaces "+b[0], x.Ifaces(b[0]))
		is(t, "Loops "+b[0], x.Loops(b[0]), false)
	}
	lists(t, "Chain", x.Chain("A"), "A", "NullFault", "Fault", "Object")
	lists(t, "Direct of A", x.Direct("A"))
	lists(t, "Direct of NullFault", x.Direct("NullFault"), "A")
	lists(t, "Direct of Object", x.Direct("Object"), "I")
	text(t, "Common", x.Common("Fault", "A"), "Fault") // no Interface
}

func TestP8_1Class(t *testing.T) {
	b := rich("b")
	b.Ifaces, b.Kind, b.Methods = nil, -3, b.Methods[1:]
	x := tree.New(of(rich("A"), b, class("", "A"), rich("wrong name;"), class("A\x00", "A")))
	for name, want := range map[string]api.Class{"A": rich("A"), "b": b, "": class("", "A"), "wrong name;": rich("wrong name;"), "A\x00": class("A\x00", "A")} {
		if c, ok := x.Class(name); !ok || !alike(c, want) {
			t.Errorf("Class(%q): %v, %t", name, c, ok)
		}
		is(t, "Known "+name, x.Known(name), true)
		text(t, "Super "+name, x.Super(name), want.Super)
	}
	for _, name := range []string{"a", "B", "A ", "AA", "S", "I", "scrawl", "\x00"} {
		none(t, x, name)
	}
	none(t, tree.New(api.Archive{}), "")
	none(t, tree.New(api.Archive{}), "A")
}

// none asks of a name that there isn't.
func none(t *testing.T, x *tree.Tree, name string) {
	t.Helper()
	if c, ok := x.Class(name); ok || !reflect.DeepEqual(c, api.Class{}) {
		t.Errorf("Class(%q): %v, %t", name, c, ok)
	}
	is(t, "Known "+name, x.Known(name), false)
	text(t, "Super "+name, x.Super(name), "")
	lists(t, "Chain "+name, x.Chain(name))
	lists(t, "Ifaces "+name, x.Ifaces(name))
	is(t, "Loops "+name, x.Loops(name), false)
	for _, other := range []string{name, "Object", "A"} {
		is(t, name+" a Sub of "+other, x.Sub(name, other), false)
		is(t, other+" a Sub of "+name, x.Sub(other, name), false)
		text(t, "Common "+name+" "+other, x.Common(name, other), "Object")
		text(t, "Common "+other+" "+name, x.Common(other, name), "Object")
	}
}

// Of classes that are alike in name the first one counts.
func TestP8_1First(t *testing.T) {
	later := rich("A")
	later.Super = "C"
	x := tree.New(of(class("B", "A"), class("A", "Fault", "I"), later, class("C", "Object"), iface("I"), class("B", "C"), class("I", "C", "J"), iface("J")))
	if c, ok := x.Class("A"); !ok || !alike(c, class("A", "Fault", "I")) {
		t.Errorf("Class: %v, %t", c, ok)
	}
	text(t, "Super", x.Super("A"), "Fault")
	lists(t, "Chain", x.Chain("B"), "B", "A", "Fault", "Object")
	lists(t, "Ifaces", x.Ifaces("B"), "I")
	lists(t, "Direct of A", x.Direct("A"), "B")
	lists(t, "Direct of C", x.Direct("C"))
	lists(t, "Direct of Object", x.Direct("Object"), "C", "I", "J")
	text(t, "Common", x.Common("I", "J"), "Object")
	is(t, "Sub", x.Sub("I", "J"), false)
}

func TestP8_1Chain(t *testing.T) {
	x := tree.New(of(class("D", "C"), class("C", "B"), class("B", "A"), class("A", "Object"), class("E", "ZeroFault"), class("F", "nobody"), class("G", "F"), class("H", "")))
	lists(t, "D", x.Chain("D"), "D", "C", "B", "A", "Object")
	lists(t, "A", x.Chain("A"), "A", "Object")
	lists(t, "Object", x.Chain("Object"), "Object")
	lists(t, "ZeroFault", x.Chain("ZeroFault"), "ZeroFault", "Fault", "Object")
	lists(t, "E", x.Chain("E"), "E", "ZeroFault", "Fault", "Object")
	lists(t, "F", x.Chain("F"), "F") // its Super isn't Known
	lists(t, "G", x.Chain("G"), "G", "F")
	lists(t, "H", x.Chain("H"), "H")
	none(t, x, "nobody")
	none(t, x, "")
}

func TestP8_1ChainTwice(t *testing.T) {
	x := tree.New(of(class("A", "A"), class("B", "A"), class("C", "D"), class("D", "E"), class("E", "C"), class("F", "D")))
	lists(t, "A", x.Chain("A"), "A")
	lists(t, "B", x.Chain("B"), "B", "A")
	lists(t, "C", x.Chain("C"), "C", "D", "E")
	lists(t, "E", x.Chain("E"), "E", "C", "D")
	lists(t, "F", x.Chain("F"), "F", "D", "E", "C")
	for _, name := range []string{"A", "B", "C", "D", "E", "F"} {
		is(t, "Loops "+name, x.Loops(name), true)
		is(t, name+" a Sub of Object", x.Sub(name, "Object"), true)
		text(t, "Common with Object", x.Common(name, "Object"), "Object")
	}
	text(t, "Common", x.Common("F", "C"), "D")
	text(t, "Common", x.Common("C", "F"), "C")
	is(t, "Sub", x.Sub("C", "F"), false)
	is(t, "Sub", x.Sub("F", "C"), true)
	is(t, "Sub", x.Sub("C", "E"), true)
}

// A class named "" is one: it is Object's Super then.
func TestP8_1NoName(t *testing.T) {
	x := tree.New(of(class("", "T", "I"), class("T", "gone"), class("A", "Object"), iface("I")))
	text(t, "Super", x.Super("Object"), "")
	lists(t, "Chain of Object", x.Chain("Object"), "Object", "", "T")
	lists(t, "Chain of A", x.Chain("A"), "A", "Object", "", "T")
	lists(t, "Ifaces of A", x.Ifaces("A"), "I")
	is(t, "Loops", x.Loops("A"), false)
	is(t, "Sub", x.Sub("A", ""), true)
	is(t, "Sub", x.Sub("Object", "T"), true)
	is(t, "Sub", x.Sub("T", "Object"), true)
	text(t, "Common", x.Common("T", ""), "T")
	text(t, "Common", x.Common("", "Fault"), "")
	lists(t, "Direct", x.Direct("T"), "")
	y := tree.New(of(class("", "Fault")))
	lists(t, "Chain of Object", y.Chain("Object"), "Object", "", "Fault")
	lists(t, "Chain of none", y.Chain(""), "", "Fault", "Object")
	is(t, "Loops of Object", y.Loops("Object"), true)
	is(t, "Loops of SizeFault", y.Loops("SizeFault"), true)
	is(t, "Loops of none", y.Loops(""), true)
	none(t, y, "A")
}

func TestP8_1Loops(t *testing.T) {
	x := tree.New(of(
		class("A", "Object", "I"), iface("I", "J", "K"), iface("J", "I"), iface("K"), // I, J come to themselves, A doesn't
		iface("L", "L"), class("M", "O"), class("O", "Object", "M"), // by a Super and an Iface: neither alone
		class("P", "Q"), class("Q", "P", "K"), class("R", "Object", "P"), // only its Iface's Supers come again
		class("S", "Object", "T"), class("T", "S"), iface("U", "gone", "U2"), iface("U2", "K", "U"),
		class("V", "Object", "K", "gone", "Object", "V"), class("W", "V"),
	))
	for name, want := range map[string]bool{
		"A": false, "I": true, "J": true, "K": false, "L": true, "M": false, "O": false, "P": true, "Q": true, "R": false,
		"S": false, "T": false, "U": true, "U2": true, "V": true, "W": false, "gone": false, "Object": false, "NullFault": false, "": false,
	} {
		is(t, "Loops "+name, x.Loops(name), want)
	}
}

func TestP8_1Direct(t *testing.T) {
	x := tree.New(of(class("C", "A"), class("A", "Object"), class("D", "C"), class("B", "A"), class("E", "Fault"), class("A2", "A"), iface("I", "A"), class("F", "gone"), class("G", "G"), class("H", ""), class("B", "C"), class("C", "A")))
	lists(t, "A", x.Direct("A"), "C", "B", "A2")
	lists(t, "C", x.Direct("C"), "D")
	lists(t, "Object", x.Direct("Object"), "A", "I")
	lists(t, "Fault", x.Direct("Fault"), "E")
	lists(t, "G", x.Direct("G"), "G")
	lists(t, "gone", x.Direct("gone"), "F") // whether it is Known or not
	lists(t, "none", x.Direct(""), "H")
	for _, name := range []string{"B", "D", "I", "NullFault", "nobody"} {
		lists(t, name, x.Direct(name))
	}
	lists(t, "of no classes", tree.New(api.Archive{}).Direct("Object"))
}

func TestP8_2Ifaces(t *testing.T) {
	x := tree.New(of(
		class("A", "B", "I", "gone", "J"), class("B", "C"), class("C", "Object", "K", "I", "N"),
		iface("I", "L", "M"), iface("J", "M", "O"), iface("K", "J"), iface("L"), iface("M", "P"), iface("N"), iface("O"), iface("P"),
	))
	lists(t, "A", x.Ifaces("A"), "I", "L", "M", "P", "J", "O", "K", "N")
	lists(t, "B", x.Ifaces("B"), "K", "J", "M", "P", "O", "I", "L", "N")
	lists(t, "C", x.Ifaces("C"), "K", "J", "M", "P", "O", "I", "L", "N")
	lists(t, "I", x.Ifaces("I"), "L", "M", "P")
	lists(t, "P", x.Ifaces("P"))
	lists(t, "Object", x.Ifaces("Object"))
	lists(t, "ZeroFault", x.Ifaces("ZeroFault"))
	none(t, x, "gone")
}

// What is so come to is there once, name itself too; of an Iface only its own Ifaces count, not those above it.
func TestP8_2OddIfaces(t *testing.T) {
	x := tree.New(of(
		iface("I", "J", "K"), iface("J", "I"), iface("K", "K"), class("A", "B", "I", "I"), class("B", "Object", "A", "C"),
		class("C", "D", "Object", "Fault"), class("D", "Object", "K"), class("E", "Object", "gone"),
	))
	lists(t, "I", x.Ifaces("I"), "J", "I", "K")
	lists(t, "J", x.Ifaces("J"), "I", "J", "K")
	lists(t, "K", x.Ifaces("K"), "K")
	lists(t, "A", x.Ifaces("A"), "I", "J", "K", "A", "C", "Object", "Fault")
	lists(t, "B", x.Ifaces("B"), "A", "I", "J", "K", "C", "Object", "Fault")
	lists(t, "C", x.Ifaces("C"), "Object", "Fault", "K")
	lists(t, "E", x.Ifaces("E"))
	is(t, "A a Sub of C", x.Sub("A", "C"), true)
	is(t, "A a Sub of D", x.Sub("A", "D"), false)
	is(t, "A a Sub of Fault", x.Sub("A", "Fault"), true)
	is(t, "B a Sub of A", x.Sub("B", "A"), true)
	text(t, "Common", x.Common("A", "Fault"), "Object")
}

func TestP8_2Sub(t *testing.T) {
	x := tree.New(of(class("A", "B", "I"), class("B", "Object", "J"), iface("I", "K"), iface("J"), iface("K"), class("C", "B"), class("D", "NullFault"), class("E", "gone"), class("F", "E", "I")))
	above := map[string][]string{
		"A": {"A", "B", "I", "J", "K"}, "B": {"B", "J"}, "C": {"C", "B", "J"}, "D": {"D", "NullFault", "Fault"}, "E": {"E"}, "F": {"F", "E", "I", "K"},
		"I": {"I", "K"}, "J": {"J"}, "K": {"K"}, "Object": nil, "Fault": {"Fault"}, "NullFault": {"NullFault", "Fault"}, "CastFault": {"CastFault", "Fault"},
	}
	for a, l := range above {
		for b := range above {
			want := b == "Object" || slices.Contains(l, b)
			is(t, a+" a Sub of "+b, x.Sub(a, b), want)
		}
		is(t, a+" a Sub of gone", x.Sub(a, "gone"), false)
		is(t, "gone a Sub of "+a, x.Sub("gone", a), false)
	}
	is(t, "gone a Sub of itself", x.Sub("gone", "gone"), false)
}

func TestP8_2Common(t *testing.T) {
	x := tree.New(of(class("A", "B", "I"), class("B", "C"), class("C", "Object"), class("D", "C", "I"), class("E", "B"), iface("I", "J"), iface("J"), class("F", "NullFault"), class("G", "gone"), class("H", "G")))
	for _, l := range [][3]string{
		{"A", "A", "A"}, {"A", "B", "B"}, {"A", "C", "C"}, {"A", "D", "C"}, {"A", "E", "B"}, {"D", "E", "C"}, {"A", "F", "Object"},
		{"I", "I", "I"}, {"I", "J", "Object"}, {"A", "I", "Object"}, {"I", "Object", "Object"}, {"I", "Fault", "Object"},
		{"F", "NullFault", "NullFault"}, {"F", "CastFault", "Fault"}, {"NullFault", "ZeroFault", "Fault"}, {"Fault", "Object", "Object"}, {"Object", "Object", "Object"},
		{"G", "H", "G"}, {"H", "H", "H"}, {"G", "A", "Object"}, {"G", "Object", "Object"}, {"gone", "gone", "Object"}, {"gone", "A", "Object"}, {"", "", "Object"}, {"I", "gone", "Object"},
	} {
		text(t, "Common of "+l[0]+", "+l[1], x.Common(l[0], l[1]), l[2])
		text(t, "Common of "+l[1]+", "+l[0], x.Common(l[1], l[0]), l[2])
	}
}

// An Interface that stands above classes is common to none but itself.
func TestP8_2CommonOfInterfacesAbove(t *testing.T) {
	x := tree.New(of(iface("I"), class("A", "I"), class("B", "I"), class("C", "A")))
	text(t, "A, I", x.Common("A", "I"), "Object")
	text(t, "I, A", x.Common("I", "A"), "Object")
	text(t, "A, B", x.Common("A", "B"), "I")
	text(t, "C, A", x.Common("C", "A"), "A")
	text(t, "I, I", x.Common("I", "I"), "I")
	is(t, "C a Sub of I", x.Sub("C", "I"), true)
}

func TestP8_3EachHasOneAbove(t *testing.T) {
	x := tree.New(of(class("D", "B", "J"), class("A", "Object"), class("B", "A", "I"), class("C", "A"), iface("I"), iface("J", "I"), class("E", "SizeFault")))
	names := []string{"A", "B", "C", "D", "E", "I", "J"}
	for _, b := range builtins {
		names = append(names, b[0])
	}
	for _, name := range names {
		chain := x.Chain(name)
		text(t, "first of the Chain", chain[0], name)
		text(t, "last of the Chain", chain[len(chain)-1], "Object")
		is(t, "Loops "+name, x.Loops(name), false)
		for k, c := range chain[1:] {
			text(t, "Super", x.Super(chain[k]), c)
			is(t, name+" a Sub of "+c, x.Sub(name, c), true)
			is(t, c+" a Sub of "+name, x.Sub(c, name), false)
		}
		for _, other := range names {
			c := x.Common(name, other)
			is(t, name+" a Sub of "+c, x.Sub(name, c), true)
			is(t, other+" a Sub of "+c, x.Sub(other, c), true)
		}
	}
}

// DOC.md, rule 3: what is handed in is neither changed nor kept, its spare room included.
func TestHandedInStays(t *testing.T) {
	a := of(append(make([]api.Class, 0, 9), rich("A"), rich("B"), class("S", "Object"), iface("I"), iface("J"))...)
	x := tree.New(a)
	x.Class("A")
	for k, want := range []api.Class{rich("A"), rich("B"), class("S", "Object"), iface("I"), iface("J")} {
		if !alike(a.Classes[k], want) {
			t.Fatalf("changed: %v", a.Classes[k])
		}
	}
	if room := a.Classes[:9]; !reflect.DeepEqual(room[5:], make([]api.Class, 4)) || len(room[0].Ifaces[:9][2]) > 0 {
		t.Fatal("the room behind is changed")
	}
	for _, c := range a.Classes {
		scrawl(c)
	}
	over(a.Classes, class("scrawl", "A"))
	asRich(t, x)
}

// asRich asks x, of the classes of TestHandedInStays, whether it is as it was.
func asRich(t *testing.T, x *tree.Tree) {
	t.Helper()
	for _, name := range []string{"A", "B"} {
		if c, ok := x.Class(name); !ok || !alike(c, rich(name)) {
			t.Fatalf("Class(%q): %v, %t", name, c, ok)
		}
		lists(t, "Ifaces", x.Ifaces(name), "I", "J")
		lists(t, "Chain", x.Chain(name), name, "S", "Object")
	}
	lists(t, "Direct", x.Direct("S"), "A", "B")
	lists(t, "Direct", x.Direct("Object"), "S", "I", "J")
	lists(t, "Direct of a class that isn't there", x.Direct("A"))
	is(t, "Known", x.Known("scrawl"), false)
}

// DOC.md, rule 3: what is answered is new memory.
func TestAnswersAreNew(t *testing.T) {
	x := tree.New(of(rich("A"), rich("B"), class("S", "Object"), iface("I"), iface("J")))
	for range 2 {
		c, _ := x.Class("A")
		d, _ := x.Class("A")
		scrawl(c)
		if !alike(d, rich("A")) {
			t.Fatalf("two answers share: %v", d)
		}
		scrawl(d)
		for _, l := range [][]string{x.Chain("A"), x.Ifaces("A"), x.Ifaces("I"), x.Direct("S"), x.Direct("Object"), x.Chain("Object")} {
			over(l, "scrawl")
		}
		f, _ := x.Class("Fault")
		scrawl(f)
		asRich(t, x)
	}
}

// Who puts something behind one list of an answer changes no other one.
func TestListsOfOneAnswerAreApart(t *testing.T) {
	two := rich("C")
	two.Methods[1] = rich("C").Methods[0]
	c, _ := tree.New(of(two)).Class("C")
	for _, m := range c.Methods {
		_ = append(m.Params, api.Type{Class: "scrawl"})
		_ = append(m.Code, api.Instr{S: "scrawl"})
		_ = append(m.Handlers, api.Handler{Catch: "scrawl"})
	}
	if !alike(c, two) {
		t.Errorf("lists of one answer share: %v", c)
	}
}

// Two trees of one archive have nothing to do with one another, and a tree answers the same again.
func TestSameAgain(t *testing.T) {
	a := of(class("A", "B", "I", "J"), class("B", "Object", "K"), iface("I"), iface("J"), iface("K"))
	x, y := tree.New(a), tree.New(a)
	for range 50 {
		lists(t, "Ifaces", x.Ifaces("A"), y.Ifaces("A")...)
		lists(t, "Ifaces", x.Ifaces("A"), "I", "J", "K")
		lists(t, "Direct", tree.New(a).Direct("Object"), "B", "I", "J", "K")
	}
}
