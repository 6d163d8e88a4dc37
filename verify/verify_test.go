package verify_test

import (
	"slices"
	"strconv"
	"strings"
	"testing"

	"bonsai/api"
	"bonsai/arc"
	"bonsai/desc"
	"bonsai/verify"
)

func in(o int) api.Instr { return api.Instr{Op: o} }

func num(n int32) api.Instr { return api.Instr{Op: api.PushI, N: n} }

func str(s string) api.Instr { return api.Instr{Op: api.PushS, S: s} }

func to(o, k int) api.Instr { return api.Instr{Op: o, K: k} }

func of(o int, class string) api.Instr { return api.Instr{Op: o, Class: class} }

func mem(o int, class, name string) api.Instr { return api.Instr{Op: o, Class: class, Name: name} }

// call is one of a class's method of that key.
func call(o int, class, key string) api.Instr {
	name, d, _ := strings.Cut(key, "(")
	return api.Instr{Op: o, Class: class, Name: name, Desc: "(" + d}
}

// method is one of a Name and types, as "m(I)V": static if "s", abstract if "a" is in what.
func method(what, key string, locals int, code ...api.Instr) api.Method {
	name, d, _ := strings.Cut(key, "(")
	params, ret, ok := desc.Parse("(" + d)
	if !ok {
		panic(key)
	}
	return api.Method{Name: name, Params: params, Ret: ret, Static: strings.Contains(what, "s"), Abstract: strings.Contains(what, "a"), Locals: locals, Code: code}
}

func with(m api.Method, l ...api.Handler) api.Method {
	m.Handlers = slices.Concat(m.Handlers, l)
	return m
}

func field(name, d string) api.Field {
	t, ok := desc.One(d)
	if !ok {
		panic(d)
	}
	return api.Field{Name: name, Type: t}
}

func staticField(name, d string) api.Field {
	f := field(name, d)
	f.Static = true
	return f
}

// class is one with members: fields, methods, and names of Ifaces.
func class(kind int, name, super string, members ...any) api.Class {
	c := api.Class{Name: name, Super: super, Kind: kind}
	for _, x := range members {
		switch x := x.(type) {
		case api.Field:
			c.Fields = append(c.Fields, x)
		case api.Method:
			c.Methods = append(c.Methods, x)
		case string:
			c.Ifaces = append(c.Ifaces, x)
		}
	}
	return c
}

func arch(l ...api.Class) api.Archive { return api.Archive{Classes: l} }

// Where the classes of whole stand.
const (
	main = iota
	face
	leaf
	base
	bad
)

// whole has nothing wrong, and something of each kind.
func whole() api.Archive {
	return arch(
		class(api.Plain, "Main", "Object",
			method("s", "main()V", 1, of(api.New, "Leaf"), to(api.Store, 0), to(api.Load, 0), num(3), call(api.CallI, "Face", "i(I)I"), in(api.Text), in(api.Print), in(api.RetV)),
			method("s", "main(I)V", 1, in(api.RetV)),
			with(method("s", "try(LBase;)I", 1, to(api.Load, 0), call(api.CallV, "Base", "m()LBase;"), in(api.Pop), num(1), in(api.Ret), in(api.Pop), num(0), in(api.Ret)), api.Handler{From: 0, To: 2, At: 5, Catch: "Bad"}),
		),
		class(api.Interface, "Face", "Object", method("a", "i(I)I", 0)),
		class(api.Final, "Leaf", "Base",
			method("", "m()LBase;", 1, of(api.New, "Bad"), in(api.Throw), in(api.RetV)),
			method("", "i(I)I", 2, to(api.Load, 0), mem(api.GetF, "Leaf", "f"), in(api.Pop), to(api.Load, 1), in(api.Ret)),
		),
		class(api.Abstract, "Base", "Object", "Face",
			field("f", "LBase;"), staticField("s", "S"),
			method("a", "m()LBase;", 0),
			method("s", "clinit()V", 0, str("begun"), mem(api.PutS, "Base", "s"), in(api.RetV)),
			method("", "go()V", 3, to(api.Load, 0), call(api.CallV, "Base", "m()LBase;"), to(api.Store, 1), to(api.Load, 1), in(api.Dup), in(api.Check), mem(api.GetF, "Base", "f"), to(api.Store, 0), num(0), to(api.JumpZ, 0), in(api.RetV)),
		),
		class(api.Plain, "Bad", "ZeroFault"),
	)
}

func at(class, method, at int) api.Place { return api.Place{Class: class, Method: method, At: at} }

// checks asks what Check tells of a.
func checks(t *testing.T, what string, a api.Archive, p api.Place, e api.Errno) {
	t.Helper()
	if q, got := verify.Check(a); q != p || got != e {
		t.Errorf("%s: %d at %v, not %d at %v", what, got, q, e, p)
	}
}

func fine(t *testing.T, what string, a api.Archive) {
	t.Helper()
	checks(t, what, a, api.Place{}, api.OK)
}

// odd is something else than whole.
type odd struct {
	what string
	do   func(c []api.Class)
	p    api.Place
	e    api.Errno
}

func (o odd) archive() api.Archive {
	a := whole()
	o.do(a.Classes)
	return a
}

// runV is code that ends at once.
var runV = in(api.RetV)

// limited is wrong by chapter 6.
var limited = []odd{
	{"no name", func(c []api.Class) { c[leaf].Name = "" }, at(-1, -1, -1), api.ErrForm},
	{"an op of none", func(c []api.Class) { c[main].Methods[0].Code[1].Op = api.Ops }, at(-1, -1, -1), api.ErrForm},
	{"too many locals", func(c []api.Class) { c[main].Methods[0].Locals = api.MaxLocals + 1 }, at(-1, -1, -1), api.ErrForm},
	{"a top", func(c []api.Class) { c[base].Fields[0].Type = api.Type{Kind: api.Top} }, at(-1, -1, -1), api.ErrForm},
	{"abstract with code", func(c []api.Class) { c[face].Methods[0].Code = []api.Instr{runV} }, at(face, 0, -1), api.ErrMember},
	{"no code", func(c []api.Class) { c[base].Methods[1].Code = nil }, at(base, 1, -1), api.ErrMember},
	{"few locals", func(c []api.Class) { c[leaf].Methods[1].Locals = 1 }, at(leaf, 1, -1), api.ErrLimit},
	{"no local", func(c []api.Class) { c[leaf].Methods[1].Code[3].K = 2 }, at(leaf, 1, 3), api.ErrCode},
	{"no place", func(c []api.Class) { c[base].Methods[2].Code[9].K = 11 }, at(base, 2, 9), api.ErrCode},
	{"no place of a handler", func(c []api.Class) { c[main].Methods[2].Handlers[0].At = 8 }, at(main, 2, -1), api.ErrCode},
	{"a handler of nothing", func(c []api.Class) { c[main].Methods[2].Handlers[0].From = 2 }, at(main, 2, -1), api.ErrCode},
	{"no end", func(c []api.Class) { c[base].Methods[2].Code = c[base].Methods[2].Code[:9] }, at(base, 2, 8), api.ErrEnd},
}

// shaped is wrong by chapter 10.
var shaped = []odd{
	{"a builtin", func(c []api.Class) { c[bad].Name = "NullFault" }, at(bad, -1, -1), api.ErrName},
	{"a name twice", func(c []api.Class) { c[bad].Name = "Main" }, at(bad, -1, -1), api.ErrName},
	{"no super", func(c []api.Class) { c[main].Super = "Gone" }, at(main, -1, -1), api.ErrSuper},
	{"a final one above", func(c []api.Class) { c[main].Super = "Leaf" }, at(main, -1, -1), api.ErrSuper},
	{"a ring", func(c []api.Class) { c[base].Super = "Base" }, at(leaf, -1, -1), api.ErrSuper},
	{"no interface", func(c []api.Class) { c[base].Ifaces[0] = "Main" }, at(base, -1, -1), api.ErrSuper},
	{"two fields", func(c []api.Class) { c[base].Fields[0].Name = "s" }, at(base, -1, -1), api.ErrMember},
	{"two methods", func(c []api.Class) { c[main].Methods[1].Params = nil }, at(main, -1, -1), api.ErrMember},
	{"an interface that runs", func(c []api.Class) { c[face].Methods[0] = method("", "i(I)I", 2, num(0), in(api.Ret)) }, at(face, -1, -1), api.ErrMember},
	{"a clinit of an object", func(c []api.Class) { c[base].Methods[1].Static, c[base].Methods[1].Locals = false, 1 }, at(base, -1, -1), api.ErrMember},
	{"static below", func(c []api.Class) { c[leaf].Methods[0].Static = true }, at(leaf, -1, -1), api.ErrOverride},
	{"a method is missing", func(c []api.Class) { c[leaf].Methods = c[leaf].Methods[:1] }, at(leaf, -1, -1), api.ErrAbstract},
}

// flown is wrong by chapter 13.
var flown = []odd{
	{"a stack of none", func(c []api.Class) { c[main].Methods[0].Code[0] = in(api.Pop) }, at(main, 0, 0), api.ErrStack},
	{"an int for an object", func(c []api.Class) { c[main].Methods[0].Code[0] = num(1) }, at(main, 0, 4), api.ErrType},
	{"a local of nothing", func(c []api.Class) { c[base].Methods[2].Code[0].K = 2 }, at(base, 2, 0), api.ErrType},
	{"no such class", func(c []api.Class) { c[leaf].Methods[0].Code[0].Class = "Gone" }, at(leaf, 0, 0), api.ErrMissing},
	{"no such field", func(c []api.Class) { c[leaf].Methods[1].Code[1].Name = "s" }, at(leaf, 1, 1), api.ErrMissing},
	{"no such method", func(c []api.Class) { c[main].Methods[2].Code[1].Desc = "()LLeaf;" }, at(main, 2, 1), api.ErrMissing},
	{"an object of an abstract class", func(c []api.Class) { c[main].Methods[0].Code[0].Class = "Base" }, at(main, 0, 0), api.ErrCode},
	{"an interface's method of a class", func(c []api.Class) { c[main].Methods[0].Code[4].Op = api.CallV }, at(main, 0, 4), api.ErrCode},
	{"an abstract one straight", func(c []api.Class) { c[main].Methods[2].Code[1].Op = api.CallX }, at(main, 2, 1), api.ErrCode},
	{"clinit is called", func(c []api.Class) { c[base].Methods[1].Code[0] = call(api.CallS, "Base", "clinit()V") }, at(base, 1, 0), api.ErrCode},
	{"a value for none", func(c []api.Class) { c[main].Methods[1].Code = []api.Instr{num(1), in(api.Ret)} }, at(main, 1, 1), api.ErrCode},
	{"two ways, unlike many", func(c []api.Class) { c[base].Methods[2].Code[9].K = 1 }, at(base, 2, 9), api.ErrStack},
	{"a handler of no class", func(c []api.Class) { c[main].Methods[2].Handlers[0].Catch = "Gone" }, at(main, 2, -1), api.ErrMissing},
	{"a handler of no fault", func(c []api.Class) { c[main].Methods[2].Handlers[0].Catch = "Leaf" }, at(main, 2, -1), api.ErrType},
	{"one that catches two values", func(c []api.Class) { c[main].Methods[2].Handlers[0].At = 1 }, at(main, 2, 1), api.ErrType},
}

func TestP14_1Fine(t *testing.T) {
	fine(t, "no classes", arch())
	fine(t, "no methods", arch(class(api.Plain, "A", "Object"), class(api.Interface, "I", "Object"), class(api.Plain, "B", "A", "I")))
	fine(t, "whole", whole())
	a := whole()
	slices.Reverse(a.Classes)
	fine(t, "whole, turned round", a)
}

func TestP14_1Limits(t *testing.T) {
	for _, o := range limited {
		checks(t, o.what, o.archive(), o.p, o.e)
	}
}

func TestP14_1Shape(t *testing.T) {
	for _, o := range shaped {
		checks(t, o.what, o.archive(), o.p, o.e)
	}
}

func TestP14_1Flow(t *testing.T) {
	for _, o := range flown {
		checks(t, o.what, o.archive(), o.p, o.e)
	}
}

// What an earlier layer has an error of comes first, wherever it stands.
func TestP14_1Order(t *testing.T) {
	for _, o := range slices.Concat(shaped, flown) {
		a := o.archive()
		a.Classes = append(a.Classes, class(api.Plain, "Late", "Object", method("s", "x()V", 0, runV, to(api.Jump, 2))))
		checks(t, o.what+", and limits behind it", a, at(bad+1, 0, 1), api.ErrCode)
		a.Classes[bad+1].Methods[0].Params = make([]api.Type, 1)
		checks(t, o.what+", and what can't be written", a, at(-1, -1, -1), api.ErrForm)
	}
	for _, o := range flown {
		a := o.archive()
		a.Classes = append(a.Classes, class(api.Plain, "Late", "Face"))
		checks(t, o.what+", and shape behind it", a, at(bad+1, -1, -1), api.ErrSuper)
	}
}

// Of two methods the first one's error is told: by their classes, then by their places in them.
func TestP14_1First(t *testing.T) {
	for _, x := range flown {
		for _, y := range flown {
			a := x.archive()
			y.do(a.Classes)
			switch {
			case x.p.Class < y.p.Class, x.p.Class == y.p.Class && x.p.Method < y.p.Method:
				checks(t, x.what+", "+y.what, a, x.p, x.e)
			case x.p.Class > y.p.Class, x.p.Method > y.p.Method:
				checks(t, x.what+", "+y.what, a, y.p, y.e)
			}
		}
	}
}

// An Abstract method has no flow; each other one has, also one that nobody calls.
func TestP14_1EachMethod(t *testing.T) {
	a := arch(class(api.Abstract, "A", "Object", method("a", "a()V", 0), method("", "b()V", 1, runV), method("a", "c()V", 0), method("s", "d()V", 0, in(api.PushN), in(api.Pop), runV)))
	fine(t, "each", a)
	a.Classes[0].Methods[1].Code[0].Op = api.Ret
	checks(t, "the one", a, at(0, 1, 0), api.ErrStack)
	a.Classes[0].Methods[1].Code[0].Op = api.RetV
	a.Classes[0].Methods[3].Code[1].Op = api.Print
	checks(t, "the other one", a, at(0, 3, 1), api.ErrType)
}

// The object of a method is one of the class that has it.
func TestP14_1Object(t *testing.T) {
	a := arch(class(api.Plain, "A", "Object", field("f", "LA;"), method("", "m()LA;", 1, to(api.Load, 0), in(api.Ret))), class(api.Plain, "B", "A", method("", "n()LB;", 1, to(api.Load, 0), in(api.Ret))))
	fine(t, "itself", a)
	a.Classes[1].Methods[0].Code[0] = of(api.New, "A")
	checks(t, "the one above", a, at(1, 0, 1), api.ErrType)
	a.Classes[0].Methods[0].Code[0] = of(api.New, "B")
	a.Classes[1].Methods[0].Code[0] = of(api.New, "B")
	fine(t, "the one below", a)
}

// many tells l so often.
func many(n int, l ...api.Instr) []api.Instr {
	return slices.Repeat(l, n)
}

func TestP14_1AtTheLimits(t *testing.T) {
	one := func(m ...any) api.Archive { return arch(class(api.Plain, "A", "Object", m...)) }
	stack := func(n int) api.Archive {
		return one(method("s", "m()V", 0, append(many(n, num(1)), runV)...))
	}
	fine(t, "a full stack", stack(api.MaxStack))
	checks(t, "one more", stack(api.MaxStack+1), at(0, 0, api.MaxStack), api.ErrStack)
	code := func(n int) api.Archive {
		return one(method("s", "m()V", api.MaxLocals, many(n, runV)...))
	}
	fine(t, "as much code as may be", code(api.MaxCode))
	checks(t, "one more", code(api.MaxCode+1), at(-1, -1, -1), api.ErrForm)
	handlers := func(n int) api.Archive {
		return one(with(method("s", "m()V", 0, runV, in(api.Throw)), slices.Repeat([]api.Handler{{From: 0, To: 2, At: 1, Catch: "Fault"}}, n)...))
	}
	fine(t, "as many handlers", handlers(api.MaxHandlers))
	checks(t, "one more", handlers(api.MaxHandlers+1), at(-1, -1, -1), api.ErrForm)
	methods := func(n int) api.Archive {
		var l []any
		for k := range n {
			l = append(l, method("s", "m"+strconv.Itoa(k)+"()V", 0, runV))
		}
		return one(l...)
	}
	fine(t, "as many methods", methods(api.MaxMethods))
	checks(t, "one more", methods(api.MaxMethods+1), at(-1, -1, -1), api.ErrForm)
	classes := func(n int) api.Archive {
		var l []api.Class
		for k := range n {
			l = append(l, class(api.Plain, "C"+strconv.Itoa(k), "Object"))
		}
		return arch(l...)
	}
	fine(t, "as many classes", classes(api.MaxClasses))
	checks(t, "one more", classes(api.MaxClasses+1), at(-1, -1, -1), api.ErrForm)
}

// As many classes as may be, each below the one ahead of it, with calls of what is far above.
func TestP14_1Far(t *testing.T) {
	a := arch()
	for k := range api.MaxClasses {
		name, super := "C"+strconv.Itoa(k), "C"+strconv.Itoa(k-1)
		if k == 0 {
			super = "Object"
		}
		c := class(api.Plain, name, super, field("f"+strconv.Itoa(k), "L"+name+";"))
		for n := range 10 {
			c.Methods = append(c.Methods, method("", "m"+strconv.Itoa(n)+"(L"+name+";)V", 2, to(api.Load, 1), to(api.Load, 0), mem(api.PutF, "C0", "f0"), of(api.New, name), of(api.New, name), call(api.CallV, "C0", "m0(LC0;)V"), runV))
		}
		a.Classes = append(a.Classes, c)
	}
	fine(t, "far", a)
	last := &a.Classes[api.MaxClasses-1].Methods[9]
	last.Code[4].Class = "Object"
	checks(t, "the last one", a, at(api.MaxClasses-1, 9, 5), api.ErrType)
	if l, ok := verify.Frames(a, 0, 0); l != nil || ok {
		t.Errorf("Frames: %v, %v", l, ok)
	}
}

// As much code as a class may have, all of which asks for its own class: nobody may pay for all of it at each instruction.
func TestP14_1Much(t *testing.T) {
	var l []any
	for k := range api.MaxMethods {
		m := method("s", "m"+strconv.Itoa(k)+"()V", 0, many(api.MaxCode-1, call(api.CallS, "A", "m0()V"))...)
		m.Code = append(m.Code, runV)
		l = append(l, m)
	}
	a := arch(class(api.Plain, "A", "Object", l...))
	fine(t, "much", a)
	a.Classes[0].Methods[99].Code[api.MaxCode-2].Name = "m100"
	checks(t, "much", a, at(0, 99, api.MaxCode-2), api.ErrMissing)
}

// What isn't written so isn't Verified; what is, is as it was.
func TestP14_1Written(t *testing.T) {
	b, e := arc.Read(arc.Put(whole()))
	if e != api.OK {
		t.Fatal(e)
	}
	fine(t, "read", b)
}

func TestLeavesWhatIsHandedIn(t *testing.T) {
	for _, o := range slices.Concat(limited, shaped, flown, []odd{{"fine", func([]api.Class) {}, api.Place{}, api.OK}}) {
		a := o.archive()
		was := arc.Copy(a)
		room := append(a.Classes, class(api.Plain, "Behind", "Gone"))
		a.Classes = room[:len(a.Classes)]
		l := a.Classes[main].Methods
		l = append(l, api.Method{Name: "behind"})
		a.Classes[main].Methods = l[:len(l)-1]
		for k := range a.Classes {
			for n := range a.Classes[k].Methods {
				verify.Frames(a, k, n)
				verify.Entry(a, api.Entry{Class: a.Classes[k].Name, Method: a.Classes[k].Methods[n].Name})
			}
		}
		checks(t, o.what, a, o.p, o.e)
		if !arc.Same(a, was) || room[bad+1].Name != "Behind" || l[len(l)-1].Name != "behind" {
			t.Errorf("%s: changed", o.what)
		}
		checks(t, o.what+", again", a, o.p, o.e)
	}
}

// Nothing is kept: what is told of an archive doesn't hang on what was told of another one, nor of it before.
func TestKeepsNothing(t *testing.T) {
	a := whole()
	fine(t, "whole", a)
	for _, o := range flown {
		b := o.archive()
		checks(t, o.what, b, o.p, o.e)
		fine(t, "whole, again", a)
		b.Classes = whole().Classes
		fine(t, "mended", b)
	}
	a.Classes[leaf].Methods[0].Code[0].Class = "Gone"
	checks(t, "spoilt", a, at(leaf, 0, 0), api.ErrMissing)
}
