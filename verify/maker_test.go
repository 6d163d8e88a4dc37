package verify_test

import (
	"math/rand"
	"slices"

	"bonsai/api"
	"bonsai/desc"
	"bonsai/lattice"
	"bonsai/member"
	"bonsai/shape"
	"bonsai/tree"
)

// maker makes archives whose classes and code go together, but for one thing in odds or so.
type maker struct {
	*rand.Rand
	odds int
	a    api.Archive
	x    *tree.Tree // of a, without code
}

func (r *maker) odd() bool { return r.Intn(r.odds) == 0 }

func pick[T any](r *maker, l ...T) T { return l[r.Intn(len(l))] }

var (
	names = []string{"I", "J", "A", "B", "C", "E", "F"}
	all   = append([]string{"Object", "Fault", "ZeroFault", "NullFault", "Gone"}, names...)
	sorts = []string{"I", "S", "A", "LObject;", "LI;", "LJ;", "LA;", "LB;", "LC;", "LE;", "LFault;"}
	// Of objects, and static ones.
	calls = []string{"m()V", "n(I)I", "o(LA;)LB;", "p(SA)S", "q(LB;)LI;", "r()LE;"}
	firms = []string{"s()V", "t(I)LA;", "u(LC;S)I", "v(A)A", "w(LJ;LE;)V"}
)

func (r *maker) anyType() api.Type { return types(pick(r, sorts...))[0] }

func (r *maker) archive() api.Archive {
	r.a = arch(
		class(api.Interface, "I", "Object"),
		class(api.Interface, "J", "Object"),
		class(pick(r, api.Plain, api.Abstract), "A", "Object"),
		class(pick(r, api.Plain, api.Abstract), "B", "A"),
		class(pick(r, api.Plain, api.Final), "C", pick(r, "A", "B", "Object")),
		class(pick(r, api.Plain, api.Abstract), "E", pick(r, "Fault", "ZeroFault")),
		class(pick(r, api.Plain, api.Final), "F", "E"),
	)
	for k := range r.a.Classes {
		r.class(&r.a.Classes[k], names[:min(k, 2)])
	}
	for k := range r.a.Classes {
		r.mend(k)
	}
	r.x = tree.New(r.a)
	for k := range r.a.Classes {
		for n := range r.a.Classes[k].Methods {
			r.method(r.a.Classes[k].Name, &r.a.Classes[k].Methods[n])
		}
	}
	a := r.a
	r.Shuffle(len(a.Classes), func(i, j int) { a.Classes[i], a.Classes[j] = a.Classes[j], a.Classes[i] })
	return a
}

// class gives c its Ifaces and members, without code.
func (r *maker) class(c *api.Class, ifaces []string) {
	for _, s := range ifaces {
		if r.Intn(2) == 0 {
			c.Ifaces = append(c.Ifaces, s)
		}
	}
	r.spoil(c)
	if c.Kind != api.Interface {
		for _, s := range []string{"f", "g", "h"}[:r.Intn(4)] {
			c.Fields = append(c.Fields, api.Field{Name: s, Type: r.anyType(), Static: r.Intn(2) == 0})
		}
		if r.Intn(3) == 0 {
			c.Methods = append(c.Methods, method("s", "clinit()V", 0))
		}
		for _, k := range r.Perm(len(firms))[:1+r.Intn(3)] {
			c.Methods = append(c.Methods, method("s", firms[k], 0))
		}
	}
	for _, k := range r.Perm(len(calls))[:r.Intn(3)] {
		what := map[int]string{api.Interface: "a", api.Abstract: pick(r, "", "a")}[c.Kind]
		if r.odd() {
			what = pick(r, "", "s", "a")
		}
		c.Methods = append(c.Methods, method(what, calls[k], 0))
	}
}

func (r *maker) spoil(c *api.Class) {
	if r.odd() {
		c.Name = pick(r, append(names, "Object", "Fault", "")...)
	}
	if r.odd() {
		c.Super = pick(r, all...)
	}
	if r.odd() {
		c.Kind = pick(r, api.Plain, api.Abstract, api.Final, api.Interface)
	}
	if r.odd() {
		c.Ifaces = append(c.Ifaces, pick(r, all...))
	}
	if r.odd() {
		c.Fields = append(c.Fields, field("f", pick(r, "I", "LGone;", "LA;")))
	}
}

// hurt does one thing to a that is seldom else.
func (r *maker) hurt(a api.Archive) {
	c := &a.Classes[r.Intn(len(a.Classes))]
	if r.Intn(4) == 0 || len(c.Methods) == 0 {
		c.Name = pick(r, names...)
		return
	}
	m := &c.Methods[r.Intn(len(c.Methods))]
	if r.Intn(4) == 0 {
		m.Static = !m.Static
		return
	}
	for k := range m.Code {
		if m.Code[k].Class != "" && r.Intn(2) == 0 {
			m.Code[k].Class = "Gone"
		}
	}
}

// mend gives a class the methods that it still lacks.
func (r *maker) mend(k int) {
	c := &r.a.Classes[k]
	if c.Kind != api.Plain && c.Kind != api.Final {
		return
	}
	for _, key := range shape.Missing(tree.New(r.a), c.Name) {
		if !r.odd() {
			c.Methods = append(c.Methods, method("", key, 0))
		}
	}
}

// coder writes the code of one method. Each local always holds a value of one type, once it has one: so code may go from any start to any other one.
type coder struct {
	*maker
	m      *api.Method
	locals []api.Type
	starts []int // where nothing is on the Stack
	jumps  []int // whose K isn't known yet
}

func (r *maker) method(class string, m *api.Method) {
	if m.Abstract {
		return
	}
	c := &coder{maker: r, m: m}
	if !m.Static {
		c.locals = append(c.locals, api.Type{Kind: api.Ref, Class: class})
	}
	c.locals = append(c.locals, m.Params...)
	for range r.Intn(4) {
		t := r.anyType()
		c.value(t, 0)
		c.put(to(api.Store, len(c.locals)))
		c.locals = append(c.locals, t)
	}
	m.Locals = len(c.locals) + r.Intn(2) // a last one that holds nothing
	body := len(m.Code)
	for range 1 + r.Intn(7) {
		c.starts = append(c.starts, len(m.Code))
		c.statement()
	}
	c.starts = append(c.starts, len(m.Code))
	c.end()
	for range pick(r, 0, 0, 1, 2) {
		c.handler(body)
	}
	for _, k := range c.jumps {
		m.Code[k].K = pick(r, c.starts...)
	}
	c.spoilCode()
}

func (c *coder) put(l ...api.Instr) {
	c.m.Code = append(c.m.Code, l...)
}

func (c *coder) jump(o int) {
	c.jumps = append(c.jumps, len(c.m.Code))
	c.put(in(o))
}

func (c *coder) end() {
	if c.m.Ret.Kind == api.Void {
		c.put(runV)
		return
	}
	c.value(c.m.Ret, 2)
	c.put(in(api.Ret))
}

// handler catches in some of the code from body on, and goes on at a start.
func (c *coder) handler(body int) {
	n := len(c.m.Code)
	from := body + c.Intn(n-body)
	h := api.Handler{From: from, To: from + 1 + c.Intn(n-from), At: n, Catch: pick(c.maker, "Fault", "Fault", "ZeroFault", "NullFault", "E", "F")}
	if c.odd() {
		h.Catch = pick(c.maker, all...)
	}
	c.m.Handlers = append(c.m.Handlers, h)
	caught := api.Type{Kind: api.Ref, Class: h.Catch}
	if k, ok := c.local(func(t api.Type) bool { return lattice.Fits(c.x, caught, t) }); ok {
		c.put(to(api.Store, k))
	} else {
		c.put(in(api.Pop))
	}
	c.jump(api.Jump)
}

// local tells a local that is so.
func (c *coder) local(is func(api.Type) bool) (int, bool) {
	for _, k := range c.Perm(len(c.locals)) {
		if is(c.locals[k]) {
			return k, true
		}
	}
	return 0, false
}

func (c *coder) statement() {
	if c.odd() {
		c.put(c.anyInstr())
	}
	switch c.Intn(16) {
	case 0, 1, 2:
		if k, ok := c.local(func(api.Type) bool { return true }); ok {
			c.value(c.locals[k], 2)
			c.put(to(api.Store, k))
		}
	case 3:
		c.value(c.anyType(), 2)
		c.put(in(api.Dup), in(api.Pop), in(api.Pop))
	case 4, 5:
		c.write()
	case 6:
		c.values(types("A I I"), 1)
		c.put(in(api.PutA))
	case 7:
		c.value(types("S")[0], 2)
		c.put(in(api.Print))
	case 8:
		c.value(types(pick(c.maker, "A", "LObject;"))[0], 2)
		c.put(in(api.Check))
	case 9, 10, 11:
		c.call(types("V")[0], 1)
	case 12, 13:
		c.value(types("I")[0], 1)
		c.jump(api.JumpZ)
	case 14:
		c.leave()
	case 15:
		c.value(types("LFault;")[0], 2)
		c.put(in(api.Throw))
	}
}

// leave is a way that doesn't go on.
func (c *coder) leave() {
	switch c.Intn(4) {
	case 0:
		c.end()
	case 1:
		c.value(types("I")[0], 1)
		c.put(in(api.Exit))
	default:
		c.jump(api.Jump)
	}
}

func (c *coder) values(l []api.Type, deep int) {
	for _, t := range l {
		c.value(t, deep)
	}
}

// value puts one that fits want on the Stack.
func (c *coder) value(want api.Type, deep int) {
	if c.odd() {
		want = c.anyType()
	}
	if k, ok := c.local(func(t api.Type) bool { return lattice.Fits(c.x, t, want) }); ok && c.Intn(3) == 0 {
		c.put(to(api.Load, k))
		return
	}
	if deep > 0 && c.Intn(3) == 0 && (c.read(want, deep-1) || c.call(want, deep-1)) {
		return
	}
	switch want.Kind {
	case api.Int:
		c.number(deep)
	case api.Str:
		c.text(deep)
	case api.Arr:
		c.array(deep)
	default:
		c.object(want.Class, deep)
	}
}

func (c *coder) number(deep int) {
	if deep == 0 {
		c.put(pick(c.maker, in(api.Read), num(int32(c.Intn(5)-1))))
		return
	}
	x := pick(c.maker, "I I", "I I", "I", "S", "A", "A I", "LObject;", "A LObject;")
	c.values(types(x), deep-1)
	switch x {
	case "I I":
		c.put(in(pick(c.maker, api.Add, api.Sub, api.Mul, api.Div, api.Rem, api.Lt, api.Eq)))
	case "I":
		c.put(in(api.Neg))
	case "S":
		c.put(in(api.Len))
	case "A":
		c.put(in(api.LenA))
	case "A I":
		c.put(in(api.GetA))
	case "LObject;":
		c.put(of(api.Is, pick(c.maker, names...)))
	default:
		c.put(in(api.Same))
	}
}

func (c *coder) text(deep int) {
	switch {
	case deep == 0:
		c.put(str(pick(c.maker, "", "a", "bc")))
	case c.Intn(2) == 0:
		c.value(types("I")[0], deep-1)
		c.put(in(api.Text))
	default:
		c.values(types("S S"), deep-1)
		c.put(in(api.Concat))
	}
}

func (c *coder) array(deep int) {
	if deep == 0 || c.Intn(4) == 0 {
		c.put(in(api.PushN))
		return
	}
	c.value(types("I")[0], deep-1)
	c.put(in(api.NewA))
}

func (c *coder) object(class string, deep int) {
	if deep > 0 && c.Intn(4) == 0 {
		c.value(types("LObject;")[0], deep-1)
		c.put(of(api.Cast, class))
		return
	}
	for _, k := range c.Perm(len(all)) {
		d, _ := c.x.Class(all[k])
		if (d.Kind == api.Plain || d.Kind == api.Final) && c.x.Sub(d.Name, class) {
			c.put(of(api.New, d.Name))
			return
		}
	}
	c.put(in(api.PushN))
}

// read gets a field that fits want, if it comes to one.
func (c *coder) read(want api.Type, deep int) bool {
	for range 6 {
		class, name, static := pick(c.maker, names...), pick(c.maker, "f", "g", "h"), c.Intn(2) == 0
		_, f, ok := member.Field(c.x, class, name, static)
		if !ok || !lattice.Fits(c.x, f.Type, want) {
			continue
		}
		if static {
			c.put(mem(api.GetS, class, name))
			return true
		}
		c.value(api.Type{Kind: api.Ref, Class: class}, deep)
		c.put(mem(api.GetF, class, name))
		return true
	}
	return false
}

// write puts a value into a field, if it comes to one.
func (c *coder) write() {
	for range 6 {
		class, name, static := pick(c.maker, names...), pick(c.maker, "f", "g", "h"), c.Intn(2) == 0
		_, f, ok := member.Field(c.x, class, name, static)
		if !ok {
			continue
		}
		if static {
			c.value(f.Type, 2)
			c.put(mem(api.PutS, class, name))
			return
		}
		c.values([]api.Type{{Kind: api.Ref, Class: class}, f.Type}, 1)
		c.put(mem(api.PutF, class, name))
		return
	}
}

// call calls a method whose Ret fits want (or is Void, as it is), if it comes to one.
func (c *coder) call(want api.Type, deep int) bool {
	for range 6 {
		class, key := pick(c.maker, names...), pick(c.maker, slices.Concat(calls, firms)...)
		i := call(api.CallS, class, key)
		_, m, ok := member.Method(c.x, class, i.Name, i.Desc)
		if !ok || !lattice.Fits(c.x, m.Ret, want) {
			continue
		}
		if !m.Static {
			i.Op = c.callOf(class, m)
			c.value(api.Type{Kind: api.Ref, Class: class}, deep)
		}
		c.values(m.Params, deep)
		c.put(i)
		return true
	}
	return false
}

// callOf tells how an object's m may be called.
func (c *coder) callOf(class string, m api.Method) int {
	d, _ := c.x.Class(class)
	switch {
	case c.odd():
		return pick(c.maker, api.CallV, api.CallI, api.CallS, api.CallX)
	case !m.Abstract && c.Intn(3) == 0:
		return api.CallX
	case d.Kind == api.Interface:
		return api.CallI
	}
	return api.CallV
}

// anyInstr is one that is op.Right.
func (c *coder) anyInstr() api.Instr {
	switch o := 1 + c.Intn(api.Ops-1); o {
	case api.Load, api.Store:
		return to(o, c.Intn(c.m.Locals+2))
	case api.Jump, api.JumpZ:
		return to(o, c.Intn(len(c.m.Code)+3))
	case api.New, api.Cast, api.Is:
		return of(o, pick(c.maker, all...))
	case api.GetF, api.PutF, api.GetS, api.PutS:
		return mem(o, pick(c.maker, all...), pick(c.maker, "f", "g", "h"))
	case api.CallV, api.CallI, api.CallS, api.CallX:
		return call(o, pick(c.maker, all...), pick(c.maker, append(calls, firms...)...))
	default:
		return in(o)
	}
}

// spoilCode makes what can't be.
func (c *coder) spoilCode() {
	m := c.m
	if c.odd() {
		m.Locals -= 1 + c.Intn(3)
	}
	if c.odd() {
		m.Code = m.Code[:c.Intn(len(m.Code))]
	}
	if c.odd() && len(m.Code) > 0 {
		m.Code[c.Intn(len(m.Code))].K = c.Intn(30) - 1
	}
	if c.odd() && len(m.Handlers) > 0 {
		m.Handlers[0].To -= 1 + c.Intn(9)
	}
	if c.odd() {
		m.Abstract = true
	}
	if c.odd() {
		m.Name = pick(c.maker, "s", "m", "clinit", "")
	}
	if desc.Key(*m) == "clinit()V" && c.odd() {
		m.Static = false
	}
}
