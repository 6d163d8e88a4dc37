package arc

import (
	"bonsai/api"
	"bonsai/desc"
	"bonsai/op"
	"bonsai/pool"
	"bonsai/wire"
)

// writer has what is written so far.
type writer struct {
	texts *pool.Pool
	b     []byte // what stands behind the texts
}

// written tells all of a; false, if it can't be written.
func written(a api.Archive) (*writer, bool) {
	if !formed(a) {
		return nil, false
	}
	w := &writer{texts: pool.New()}
	putList(w, a.Classes, (*writer).class)
	if w.texts.Len() > api.MaxPool {
		return nil, false
	}
	return w, true
}

// putList writes how many there are, and each of them.
func putList[T any](w *writer, l []T, put func(*writer, T)) {
	w.nums(len(l))
	putAll(w, l, put)
}

// putAll writes the first one, and then all behind it. It goes no deeper than MaxCode: what is formed has no longer lists.
func putAll[T any](w *writer, l []T, put func(*writer, T)) {
	if len(l) == 0 {
		return
	}
	put(w, l[0])
	putAll(w, l[1:], put)
}

func (w *writer) class(c api.Class) {
	w.text(c.Name)
	w.text(c.Super)
	putList(w, c.Ifaces, (*writer).text)
	w.nums(c.Kind)
	putList(w, c.Fields, (*writer).field)
	putList(w, c.Methods, (*writer).method)
}

func (w *writer) field(f api.Field) {
	w.text(f.Name)
	w.text(desc.Type(f.Type))
	w.nums(bit(f.Static, static))
}

func (w *writer) method(m api.Method) {
	w.text(m.Name)
	w.text(desc.Of(m.Params, m.Ret))
	w.nums(bit(m.Static, static)|bit(m.Abstract, abstract), m.Locals)
	putList(w, m.Code, (*writer).instr)
	putList(w, m.Handlers, (*writer).handler)
}

func (w *writer) instr(i api.Instr) {
	w.nums(i.Op)
	switch op.Uses(i.Op) {
	case op.Number:
		w.b = append(w.b, wire.Int(nil, i.N)...)
	case op.Words:
		w.text(i.S)
	case op.Place:
		w.nums(i.K)
	case op.Member:
		w.text(i.Class)
		w.text(i.Name)
	case op.Method:
		w.text(i.Class)
		w.text(i.Name)
		w.text(i.Desc)
	case op.Class:
		w.text(i.Class)
	}
}

func (w *writer) handler(h api.Handler) {
	w.nums(h.From, h.To, h.At)
	w.text(h.Catch)
}

// nums writes each of l. (Of nil, not of w.b: wire copies what it puts a number behind.)
func (w *writer) nums(l ...int) {
	w.b = append(w.b, wire.Num(nil, l...)...)
}

// text writes the number of s.
func (w *writer) text(s string) {
	w.b = append(w.b, wire.Two(nil, w.texts.Put(s))...)
}

func bit(is bool, b int) int {
	if is {
		return b
	}
	return 0
}
