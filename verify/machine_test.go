package verify_test

import (
	"fmt"
	"math/rand"
	"slices"
	"strconv"
	"testing"

	"bonsai/api"
	"bonsai/desc"
	"bonsai/flow"
	"bonsai/member"
	"bonsai/tree"
	"bonsai/verify"
)

// value is what code has in its hands: an int, a string, or what refers to a thing (to nothing: null).
type value struct {
	kind int // Int, Str, Ref (arrays, too); 0: a local that holds nothing yet
	n    int32
	s    string
	to   *thing
}

// thing is an object, or an array, which has no class.
type thing struct {
	class string
	slots map[string]value
	ints  []int32
}

// spot is where a method is at.
type spot struct {
	class, method, at int
	locals, stack     []value
	init              bool // was begun ahead of a first use: that comes again behind it
}

// runner does what code says, and panics where what it is told to do can't be done.
type runner struct {
	*rand.Rand
	a       api.Archive
	x       *tree.Tree
	frames  map[[2]int][]api.Frame
	spots   []*spot
	statics map[string]value
	begun   map[string]bool
	did     map[int]int // how many of each op were done to their ends
	caught  int
}

func fail(what string, l ...any) { panic(fmt.Sprintf(what, l...)) }

func zero(t api.Type) value {
	switch t.Kind {
	case api.Int, api.Str:
		return value{kind: t.Kind}
	case api.Arr, api.Ref:
		return value{kind: api.Ref}
	}
	fail("a value of %v", t)
	return value{}
}

// is tells whether v is as it is known.
func (r *runner) is(v value, t api.Type) bool {
	switch t.Kind {
	case api.Top:
		return true
	case api.Null:
		return v.kind == api.Ref && v.to == nil
	case api.Arr:
		return v.kind == api.Ref && (v.to == nil || v.to.class == "")
	case api.Ref:
		return v.kind == api.Ref && (v.to == nil || v.to.class != "" && r.x.Sub(v.to.class, t.Class))
	}
	return v.kind == t.Kind
}

// look holds what there is against what is known there.
func (r *runner) look(s *spot) {
	key := [2]int{s.class, s.method}
	if _, ok := r.frames[key]; !ok {
		l, ok := verify.Frames(r.a, s.class, s.method)
		if !ok {
			fail("no frames")
		}
		r.frames[key] = l
	}
	l := r.frames[key]
	if s.at < 0 || s.at >= len(l) || !l[s.at].Reached {
		fail("nobody was to come here")
	}
	f := l[s.at]
	if !slices.EqualFunc(s.locals, f.Locals, r.is) || !slices.EqualFunc(s.stack, f.Stack, r.is) {
		fail("%v, %v: not %v", s.locals, s.stack, f)
	}
}

func (r *runner) top() *spot { return r.spots[len(r.spots)-1] }

func (r *runner) code() api.Method {
	s := r.top()
	return r.a.Classes[s.class].Methods[s.method]
}

func (r *runner) push(v value) { r.top().stack = append(r.top().stack, v) }

func (r *runner) pop() value {
	s := r.top()
	n := len(s.stack) - 1
	if n < 0 {
		fail("nothing on the stack")
	}
	v := s.stack[n]
	s.stack = s.stack[:n]
	return v
}

func (r *runner) popOf(kind int) value {
	v := r.pop()
	if v.kind != kind {
		fail("%v isn't of %d", v, kind)
	}
	return v
}

func (r *runner) int() int32 { return r.popOf(api.Int).n }

func (r *runner) str() string { return r.popOf(api.Str).s }

// array takes one, or null.
func (r *runner) array() *thing {
	x := r.popOf(api.Ref).to
	if x != nil && x.class != "" {
		fail("an object for an array")
	}
	return x
}

// object takes one that is a class, or null.
func (r *runner) object(class string) *thing {
	x := r.popOf(api.Ref).to
	if x != nil && (x.class == "" || !r.x.Sub(x.class, class)) {
		fail("a %q for a %q", x.class, class)
	}
	return x
}

func (r *runner) pushInt(n int32) { r.push(value{kind: api.Int, n: n}) }

func (r *runner) pushBool(is bool) {
	if is {
		r.pushInt(1)
		return
	}
	r.pushInt(0)
}

func (r *runner) pushStr(s string) { r.push(value{kind: api.Str, s: s[:min(len(s), 99)]}) }

func (r *runner) pushThing(x *thing) { r.push(value{kind: api.Ref, to: x}) }

func (r *runner) newObject(class string) *thing {
	c, ok := r.x.Class(class)
	if !ok || c.Kind != api.Plain && c.Kind != api.Final {
		fail("no objects of %q", class)
	}
	return &thing{class: class, slots: map[string]value{}}
}

// enter begins the method of that class and types with arguments.
func (r *runner) enter(class, name, d string, args []value) *spot {
	i := slices.IndexFunc(r.a.Classes, func(c api.Class) bool { return c.Name == class })
	if i < 0 {
		fail("no %s", class)
	}
	k := slices.IndexFunc(r.a.Classes[i].Methods, func(m api.Method) bool { return desc.Key(m) == name+d })
	if k < 0 {
		fail("no %s in %s", name+d, class)
	}
	m := r.a.Classes[i].Methods[k]
	if m.Abstract || len(m.Code) == 0 || len(args) > m.Locals {
		fail("%s of %s can't be run", name+d, class)
	}
	s := &spot{class: i, method: k, locals: append(args, make([]value, m.Locals-len(args))...)}
	r.spots = append(r.spots, s)
	return s
}

// leave ends the topmost method, with what it tells.
func (r *runner) leave(l ...value) {
	init := r.top().init
	r.spots = r.spots[:len(r.spots)-1]
	if len(r.spots) > 0 && !init {
		r.top().at++
		r.top().stack = append(r.top().stack, l...)
	}
}

// throw goes to where class is caught: false, if it isn't.
func (r *runner) throw(x *thing) {
	if !r.x.Sub(x.class, "Fault") {
		fail("a %q is thrown", x.class)
	}
	for ; len(r.spots) > 0; r.spots = r.spots[:len(r.spots)-1] {
		s, m := r.top(), r.code()
		for _, k := range flow.Handlers(m, s.at) {
			if r.x.Sub(x.class, m.Handlers[k].Catch) {
				s.at, s.stack = m.Handlers[k].At, []value{{kind: api.Ref, to: x}}
				r.caught++
				return
			}
		}
	}
}

func (r *runner) fault(class string) { r.throw(r.newObject(class)) }

// start begins what is run ahead of a class's first use: true, if there is any left.
func (r *runner) start(class string) bool {
	for _, name := range member.Inits(r.x, class) {
		if !r.begun[name] {
			r.begun[name] = true
			r.enter(name, "clinit", "()V", nil).init = true
			return true
		}
	}
	return false
}

// first tells whose first use i is: "" of none.
func (r *runner) first(i api.Instr) string {
	class := ""
	switch i.Op {
	case api.New:
		class = i.Class
	case api.GetS, api.PutS:
		class, _, _ = member.Field(r.x, i.Class, i.Name, true)
	case api.CallS:
		class, _, _ = member.Method(r.x, i.Class, i.Name, i.Desc)
	}
	return class
}

// step does one instruction. A run that has ended stands nowhere.
func (r *runner) step() {
	s := r.top()
	r.look(s)
	i := r.code().Code[s.at]
	if class := r.first(i); class != "" && r.start(class) {
		return
	}
	fault, went := r.do(s, i)
	switch {
	case fault != "":
		r.fault(fault)
		return
	case !went:
		s.at++
	}
	r.did[i.Op]++
}

// do tells the fault that it ends with, or whether it went where it goes by itself.
func (r *runner) do(s *spot, i api.Instr) (string, bool) {
	switch i.Op {
	case api.Load:
		if s.locals[i.K].kind == 0 {
			fail("nothing in local %d", i.K)
		}
		r.push(s.locals[i.K])
	case api.Store:
		s.locals[i.K] = r.pop()
	case api.Pop:
		r.pop()
	case api.Dup:
		v := r.pop()
		r.push(v)
		r.push(v)
	case api.Jump, api.JumpZ:
		if i.Op == api.Jump || r.int() == 0 {
			s.at = i.K
			return "", true
		}
	case api.NewA, api.LenA, api.GetA, api.PutA:
		return r.doArray(i.Op), false
	case api.New, api.Cast, api.Is, api.Same, api.Check:
		return r.doObject(i), false
	case api.GetF, api.PutF, api.GetS, api.PutS:
		return r.doField(i), false
	case api.CallV, api.CallI, api.CallS, api.CallX:
		return r.doCall(i)
	case api.Throw, api.Ret, api.RetV, api.Exit:
		return r.doEnd(i.Op), true
	default:
		return r.doValue(i), false
	}
	return "", false
}

func (r *runner) doValue(i api.Instr) string {
	switch i.Op {
	case api.PushI:
		r.pushInt(i.N)
	case api.PushS:
		r.pushStr(i.S)
	case api.PushN:
		r.pushThing(nil)
	case api.Read:
		r.pushInt(int32(r.Intn(4)))
	case api.Neg:
		r.pushInt(-r.int())
	case api.Concat:
		b, a := r.str(), r.str()
		r.pushStr(a + b)
	case api.Len:
		r.pushInt(int32(len(r.str())))
	case api.Text:
		r.pushStr(strconv.Itoa(int(r.int())))
	case api.Print:
		r.str()
	default:
		return r.doInts(i.Op)
	}
	return ""
}

func (r *runner) doInts(o int) string {
	b, a := r.int(), r.int()
	switch o {
	case api.Add:
		r.pushInt(a + b)
	case api.Sub:
		r.pushInt(a - b)
	case api.Mul:
		r.pushInt(a * b)
	case api.Lt:
		r.pushBool(a < b)
	case api.Eq:
		r.pushBool(a == b)
	case api.Div, api.Rem:
		switch {
		case b == 0:
			return "ZeroFault"
		case o == api.Div:
			r.pushInt(a / b)
		default:
			r.pushInt(a % b)
		}
	default:
		fail("op %d", o)
	}
	return ""
}

func (r *runner) doArray(o int) string {
	if o == api.NewA {
		n := r.int()
		if n < 0 {
			return "SizeFault"
		}
		r.pushThing(&thing{ints: make([]int32, min(n, 50))})
		return ""
	}
	var v, k int32
	if o == api.PutA {
		v = r.int()
	}
	if o != api.LenA {
		k = r.int()
	}
	x := r.array()
	switch {
	case x == nil:
		return "NullFault"
	case o == api.LenA:
		r.pushInt(int32(len(x.ints)))
	case k < 0 || int(k) >= len(x.ints):
		return "BoundsFault"
	case o == api.GetA:
		r.pushInt(x.ints[k])
	default:
		x.ints[k] = v
	}
	return ""
}

func (r *runner) doObject(i api.Instr) string {
	switch i.Op {
	case api.New:
		r.pushThing(r.newObject(i.Class))
	case api.Cast:
		x := r.object("Object")
		if x != nil && !r.x.Sub(x.class, i.Class) {
			return "CastFault"
		}
		r.pushThing(x)
	case api.Is:
		x := r.object("Object")
		r.pushBool(x != nil && r.x.Sub(x.class, i.Class))
	case api.Same:
		r.pushBool(r.popOf(api.Ref).to == r.popOf(api.Ref).to)
	case api.Check:
		if r.popOf(api.Ref).to == nil {
			return "NullFault"
		}
	}
	return ""
}

func (r *runner) doField(i api.Instr) string {
	static := i.Op == api.GetS || i.Op == api.PutS
	class, f, ok := member.Field(r.x, i.Class, i.Name, static)
	if !ok {
		fail("no field %s.%s", i.Class, i.Name)
	}
	var v value
	puts := i.Op == api.PutF || i.Op == api.PutS
	if puts {
		v = r.pop()
		if !r.is(v, f.Type) {
			fail("%v in a field of %v", v, f.Type)
		}
	}
	slots := r.statics
	if !static {
		x := r.object(i.Class)
		if x == nil {
			return "NullFault"
		}
		slots = x.slots
	}
	if puts {
		slots[class+"."+f.Name] = v
		return ""
	}
	v, ok = slots[class+"."+f.Name]
	if !ok {
		v = zero(f.Type)
	}
	r.push(v)
	return ""
}

func (r *runner) doCall(i api.Instr) (string, bool) {
	params, _, ok := desc.Parse(i.Desc)
	if !ok || i.Name == "clinit" {
		fail("a call of %s%s", i.Name, i.Desc)
	}
	args := make([]value, len(params))
	for k := len(params) - 1; k >= 0; k-- {
		if args[k] = r.pop(); !r.is(args[k], params[k]) {
			fail("%v for a %v", args[k], params[k])
		}
	}
	class, m, ok := member.Method(r.x, i.Class, i.Name, i.Desc)
	if i.Op != api.CallS {
		x := r.object(i.Class)
		if x == nil {
			return "NullFault", false
		}
		args = append([]value{{kind: api.Ref, to: x}}, args...)
		if i.Op != api.CallX {
			class, m, ok = member.Virtual(r.x, x.class, i.Name, i.Desc)
		}
	}
	if !ok || m.Static != (i.Op == api.CallS) {
		fail("no %s%s of %s", i.Name, i.Desc, i.Class)
	}
	r.enter(class, i.Name, i.Desc, args)
	return "", true
}

func (r *runner) doEnd(o int) string {
	ret := r.code().Ret
	switch o {
	case api.Throw:
		x := r.object("Fault")
		if x == nil {
			return "NullFault"
		}
		r.throw(x)
	case api.Ret:
		v := r.pop()
		if ret.Kind == api.Void || !r.is(v, ret) {
			fail("%v is told for a %v", v, ret)
		}
		r.leave(v)
	case api.RetV:
		if ret.Kind != api.Void {
			fail("nothing is told for a %v", ret)
		}
		r.leave()
	case api.Exit:
		r.int()
		r.spots = nil
	}
	return ""
}

// some tells a value that fits.
func (r *runner) some(t api.Type) value {
	if t.Kind == api.Ref && r.Intn(4) > 0 {
		for _, k := range r.Perm(len(all)) {
			c, ok := r.x.Class(all[k])
			if ok && (c.Kind == api.Plain || c.Kind == api.Final) && r.x.Sub(c.Name, t.Class) {
				return value{kind: api.Ref, to: r.newObject(c.Name)}
			}
		}
	}
	return zero(t)
}

// run runs one method, of any object and arguments, for some steps.
func (r *runner) run(class string, m api.Method) {
	var args []value
	if !m.Static {
		this := r.some(api.Type{Kind: api.Ref, Class: class})
		if this.to == nil {
			return
		}
		args = append(args, this)
	}
	for _, t := range m.Params {
		args = append(args, r.some(t))
	}
	r.spots, r.statics, r.begun = nil, map[string]value{}, map[string]bool{}
	r.enter(class, m.Name, desc.Of(m.Params, m.Ret), args)
	for range 100 {
		if len(r.spots) == 0 || len(r.spots) > 30 {
			return
		}
		r.step()
	}
}

// Whatever runs of a Verified archive comes only to what is Reached, with what is known there, and does nothing that can't be done.
func TestP14_2AnyArchive(t *testing.T) {
	r := &maker{Rand: rand.New(rand.NewSource(142))}
	did, caught, ran := map[int]int{}, 0, 0
	for k := range 300 {
		r.odds = []int{600, 1000, 4000}[k%3]
		a := r.archive()
		if _, e := verify.Check(a); e != api.OK {
			continue
		}
		m := &runner{Rand: r.Rand, a: a, x: tree.New(a), frames: map[[2]int][]api.Frame{}, did: did}
		each(a, func(i, k int, one api.Method) {
			defer func() {
				if x := recover(); x != nil {
					t.Fatalf("%d, %d: %v: of %v", i, k, x, a)
				}
			}()
			for range 3 {
				if !one.Abstract {
					m.run(a.Classes[i].Name, one)
					ran++
				}
			}
		})
		caught += m.caught
	}
	for o := 1; o < api.Ops; o++ {
		if did[o] < 10 {
			t.Errorf("op %d: done %d times, too few", o, did[o])
		}
	}
	if ran < 3000 || caught < 300 {
		t.Errorf("%d runs, %d caught: too few", ran, caught)
	}
}
