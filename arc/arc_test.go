package arc_test

import (
	"math"
	"math/rand"
	"slices"
	"strconv"
	"strings"

	"bonsai/api"
	"bonsai/arc"
	"bonsai/desc"
	"bonsai/op"
	"bonsai/wire"
)

var (
	tInt  = api.Type{Kind: api.Int}
	tStr  = api.Type{Kind: api.Str}
	tArr  = api.Type{Kind: api.Arr}
	tVoid = api.Type{Kind: api.Void}
)

func ref(class string) api.Type { return api.Type{Kind: api.Ref, Class: class} }

// longest is a name of as many bytes as one may have.
func longest() string { return "n" + strings.Repeat("9", api.MaxName-1) }

// of tells an archive of one class, with what may be written of it.
func of(methods ...api.Method) api.Archive {
	return api.Archive{Classes: []api.Class{{Name: "C", Super: "Object", Kind: api.Plain, Methods: methods}}}
}

// right tells an instruction of o that is right.
func right(o int) api.Instr {
	i := api.Instr{Op: o}
	switch op.Uses(o) {
	case op.Number:
		i.N = int32(-7 * o)
	case op.Words:
		i.S = "some words"
	case op.Place:
		i.K = 10 * o
	case op.Member:
		i.Class, i.Name = "D", "f"
	case op.Method:
		i.Class, i.Name, i.Desc = "D", "m", "(I)LD;"
	case op.Class:
		i.Class = "E"
	}
	return i
}

// sample has something of all that there is.
func sample() api.Archive {
	var code []api.Instr
	for o := 1; o < api.Ops; o++ {
		code = append(code, right(o))
	}
	return api.Archive{Classes: []api.Class{
		{Name: "C", Super: "Object", Ifaces: []string{"Q", "P"}, Kind: api.Final,
			Fields: []api.Field{{Name: "f", Type: tInt}, {Name: "g", Type: ref("D"), Static: true}, {Name: "h", Type: tArr}},
			Methods: []api.Method{
				{Name: "m", Params: []api.Type{tInt, ref("C"), tStr}, Ret: ref("D"), Locals: 7, Code: code, Handlers: []api.Handler{{From: 1, To: 300, At: 2, Catch: "Fault"}, {From: 0, To: 2, At: 40, Catch: "C"}}},
				{Name: "clinit", Ret: tVoid, Static: true, Code: []api.Instr{{Op: api.RetV}}},
			}},
		{Name: "P", Super: "Object", Kind: api.Interface, Methods: []api.Method{{Name: "m", Params: []api.Type{tArr}, Ret: tInt, Abstract: true}}},
		{Name: "D", Super: "C", Kind: api.Abstract, Methods: []api.Method{{Name: "both", Ret: tStr, Static: true, Abstract: true, Locals: api.MaxLocals}}},
		{Name: "E", Super: "D", Kind: api.Plain},
	}}
}

// numbered tells so many texts, all unlike, of letters and digits.
func numbered(prefix string, n int) []string {
	var l []string
	for i := range n {
		l = append(l, prefix+strconv.Itoa(i))
	}
	return l
}

// pushes tells code that uses just these texts.
func pushes(texts []string) []api.Instr {
	var code []api.Instr
	for _, s := range texts {
		code = append(code, api.Instr{Op: api.PushS, S: s})
	}
	return code
}

// full has just MaxPool unlike texts, none of which its second class has alone.
func full() api.Archive {
	a := of(api.Method{Name: "m", Ret: tVoid, Code: pushes([]string{"m"})})
	a.Classes = append(of().Classes, a.Classes...)
	l := []string{"known", "Lknown;", "()Lknown;", "(Lknown;)V"}
	l = append(l, numbered("", api.MaxPool-len(l)-len([]string{"C", "Object", "m", "()V"}))...)
	for part := range slices.Chunk(l, api.MaxCode) {
		a.Classes[0].Methods = append(a.Classes[0].Methods, api.Method{Name: "m", Ret: tVoid, Code: pushes(part)})
	}
	return a
}

// encoder writes as the chapter has it, whatever may be written, by a list of texts that is handed to it.
type encoder struct {
	texts []string
	more  bool // texts that aren't in the list are put behind it
	b     []byte
}

func (e *encoder) nums(l ...int) {
	for _, n := range l {
		for ; n >= 128; n /= 128 {
			e.b = append(e.b, byte(n%128+128))
		}
		e.b = append(e.b, byte(n))
	}
}

func (e *encoder) text(l ...string) {
	for _, s := range l {
		i := slices.Index(e.texts, s)
		if i < 0 && e.more {
			i = len(e.texts)
			e.texts = append(e.texts, s)
		}
		e.b = append(e.b, byte(i), byte(i/256))
	}
}

func (e *encoder) class(c api.Class) {
	e.text(c.Name, c.Super)
	e.nums(len(c.Ifaces))
	e.text(c.Ifaces...)
	e.nums(c.Kind, len(c.Fields))
	for _, f := range c.Fields {
		e.text(f.Name, desc.Type(f.Type))
		e.nums(map[bool]int{true: 1}[f.Static])
	}
	e.nums(len(c.Methods))
	for _, m := range c.Methods {
		e.method(m)
	}
}

func (e *encoder) method(m api.Method) {
	e.text(m.Name, desc.Of(m.Params, m.Ret))
	e.nums(map[bool]int{true: 1}[m.Static]+map[bool]int{true: 2}[m.Abstract], m.Locals, len(m.Code))
	for _, i := range m.Code {
		e.nums(i.Op)
		switch op.Uses(i.Op) {
		case op.Number:
			if i.N < 0 {
				e.nums(-2*int(i.N) - 1)
			} else {
				e.nums(2 * int(i.N))
			}
		case op.Words:
			e.text(i.S)
		case op.Place:
			e.nums(i.K)
		case op.Member:
			e.text(i.Class, i.Name)
		case op.Method:
			e.text(i.Class, i.Name, i.Desc)
		case op.Class:
			e.text(i.Class)
		}
	}
	e.nums(len(m.Handlers))
	for _, h := range m.Handlers {
		e.nums(h.From, h.To, h.At)
		e.text(h.Catch)
	}
}

// all tells the bytes of a.
func (e *encoder) all(a api.Archive) []byte {
	e.nums(len(a.Classes))
	for _, c := range a.Classes {
		e.class(c)
	}
	head := encoder{b: []byte("BON1")}
	head.nums(len(e.texts))
	for _, s := range e.texts {
		head.nums(len(s))
		head.b = append(head.b, s...)
	}
	return append(head.b, e.b...)
}

// encoded tells how a is written, also where it can't be.
func encoded(a api.Archive) []byte {
	return (&encoder{more: true}).all(a)
}

// withTexts tells how a is written by just these texts, in that order.
func withTexts(a api.Archive, texts ...string) []byte {
	return (&encoder{texts: slices.Clone(texts)}).all(a)
}

// textsOf tells the texts of a, each once, in the order in which they are written.
func textsOf(a api.Archive) []string {
	e := &encoder{more: true}
	e.all(a)
	return e.texts
}

// scratch makes archives that can be written, by numbers that are the same each time.
type scratch struct{ *rand.Rand }

func newScratch(seed int64) scratch { return scratch{rand.New(rand.NewSource(seed))} }

func (r scratch) pick(l ...string) string { return l[r.Intn(len(l))] }

func (r scratch) name() string {
	return r.pick("a", "b", "C", "D", "Object", "Fault", "I", "S", "V", "x_1", longest())
}

func (r scratch) words() string {
	return r.pick("", "a", "I", "()V", "\x00\xff", "BON1", "é", strings.Repeat("w", r.Intn(api.MaxText+1)))
}

func (r scratch) value() api.Type {
	return []api.Type{tInt, tStr, tArr, ref(r.name())}[r.Intn(4)]
}

func (r scratch) params() []api.Type {
	var l []api.Type
	for range r.Intn(api.MaxParams + 1) {
		l = append(l, r.value())
	}
	return l
}

func (r scratch) ret() api.Type {
	if r.Intn(3) == 0 {
		return tVoid
	}
	return r.value()
}

func (r scratch) instr() api.Instr {
	i := api.Instr{Op: 1 + r.Intn(api.Ops-1)}
	switch op.Uses(i.Op) {
	case op.Number:
		i.N = []int32{0, 1, -1, 63, -64, 64, math.MaxInt32, math.MinInt32, int32(r.Uint32())}[r.Intn(9)]
	case op.Words:
		i.S = r.words()
	case op.Place:
		i.K = r.Intn(api.MaxCode + 1)
	case op.Member:
		i.Class, i.Name = r.name(), r.name()
	case op.Method:
		i.Class, i.Name, i.Desc = r.name(), r.name(), desc.Of(r.params(), r.ret())
	case op.Class:
		i.Class = r.name()
	}
	return i
}

func (r scratch) method() api.Method {
	m := api.Method{Name: r.name(), Params: r.params(), Ret: r.ret(), Static: r.Intn(2) == 0, Abstract: r.Intn(3) == 0, Locals: r.Intn(api.MaxLocals + 1)}
	for range r.Intn(9) {
		m.Code = append(m.Code, r.instr())
	}
	for range r.Intn(3) {
		m.Handlers = append(m.Handlers, api.Handler{From: r.Intn(api.MaxCode + 1), To: r.Intn(api.MaxCode + 1), At: r.Intn(api.MaxCode + 1), Catch: r.name()})
	}
	return m
}

func (r scratch) archive() api.Archive {
	var a api.Archive
	for range r.Intn(5) {
		c := api.Class{Name: r.name(), Super: r.name(), Kind: 1 + r.Intn(api.Interface)}
		for range r.Intn(3) {
			c.Ifaces = append(c.Ifaces, r.name())
		}
		for range r.Intn(4) {
			c.Fields = append(c.Fields, api.Field{Name: r.name(), Type: r.value(), Static: r.Intn(2) == 0})
		}
		for range r.Intn(4) {
			c.Methods = append(c.Methods, r.method())
		}
		a.Classes = append(a.Classes, c)
	}
	return a
}

// fault is what the decoder is at.
type fault struct{ e api.Errno }

// decoder reads as the chapter has it, and stops at the first fault.
type decoder struct {
	r     *wire.Reader
	texts []string
}

func (d *decoder) sure() {
	if e := d.r.Err(); e != api.OK {
		panic(fault{e})
	}
}

func (d *decoder) num(most int) int {
	n := d.r.Num(most)
	d.sure()
	return n
}

func (d *decoder) text() string {
	n := d.r.Two(math.MaxInt)
	d.sure()
	if n >= len(d.texts) {
		panic(fault{api.ErrLimit})
	}
	return d.texts[n]
}

func (d *decoder) class() api.Class {
	c := api.Class{Name: d.text(), Super: d.text()}
	for range d.num(api.MaxIfaces) {
		c.Ifaces = append(c.Ifaces, d.text())
	}
	c.Kind = d.num(api.Interface)
	for range d.num(api.MaxFields) {
		f := api.Field{Name: d.text()}
		f.Type, _ = desc.One(d.text())
		f.Static = d.num(1) == 1
		c.Fields = append(c.Fields, f)
	}
	for range d.num(api.MaxMethods) {
		c.Methods = append(c.Methods, d.method())
	}
	return c
}

func (d *decoder) method() api.Method {
	m := api.Method{Name: d.text()}
	m.Params, m.Ret, _ = desc.Parse(d.text())
	bits := d.num(3)
	m.Static, m.Abstract, m.Locals = bits%2 == 1, bits >= 2, d.num(api.MaxLocals)
	for range d.num(api.MaxCode) {
		i := api.Instr{Op: d.num(api.Ops - 1)}
		switch op.Uses(i.Op) {
		case op.Number:
			i.N = d.r.Int()
			d.sure()
		case op.Words:
			i.S = d.text()
		case op.Place:
			i.K = d.num(api.MaxCode)
		case op.Member:
			i.Class = d.text()
			i.Name = d.text()
		case op.Method:
			i.Class = d.text()
			i.Name = d.text()
			i.Desc = d.text()
		case op.Class:
			i.Class = d.text()
		}
		m.Code = append(m.Code, i)
	}
	for range d.num(api.MaxHandlers) {
		h := api.Handler{From: d.num(api.MaxCode)}
		h.To = d.num(api.MaxCode)
		h.At = d.num(api.MaxCode)
		h.Catch = d.text()
		m.Handlers = append(m.Handlers, h)
	}
	return m
}

// decoded tells what b says, as the chapter has it.
func decoded(b []byte) (a api.Archive, e api.Errno) {
	defer func() {
		if f, ok := recover().(fault); ok {
			a, e = api.Archive{}, f.e
		}
	}()
	if len(b) < 4 || string(b[:4]) != "BON1" {
		return a, api.ErrForm
	}
	d := &decoder{r: wire.New(b[4:])}
	for range d.num(api.MaxPool) {
		d.texts = append(d.texts, d.r.Text(api.MaxText))
		d.sure()
	}
	for range d.num(api.MaxClasses) {
		a.Classes = append(a.Classes, d.class())
	}
	if !d.r.Done() || !arc.Right(a) {
		return api.Archive{}, api.ErrForm
	}
	return a, api.OK
}
