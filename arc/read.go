package arc

import (
	"bonsai/api"
	"bonsai/desc"
	"bonsai/op"
	"bonsai/pool"
	"bonsai/wire"
)

// source is where an archive is read from, behind its texts. What it takes at an error, or behind it, means nothing.
type source struct {
	r      *wire.Reader
	texts  *pool.Pool
	beyond bool // there was a number of no text, and no error of r ahead of it
}

// err tells the first error.
func (s *source) err() api.Errno {
	if s.beyond {
		return api.ErrLimit
	}
	return s.r.Err()
}

// list takes how many there are, and each of them.
func list[T any](s *source, most int, take func(*source) T) []T {
	return behind(s, nil, s.r.Num(most), take)
}

// behind takes n more behind those that are there: one, and then the others behind that. It goes no deeper than MaxCode, which no list's most is above.
func behind[T any](s *source, l []T, n int, take func(*source) T) []T {
	if n == 0 || s.err() != api.OK {
		return l
	}
	return behind(s, append(l, take(s)), n-1, take)
}

// The calls in what is written out below stand in the order of the bytes, which is the one in which they are made.

func (s *source) class() api.Class {
	return api.Class{
		Name:    s.text(),
		Super:   s.text(),
		Ifaces:  list(s, api.MaxIfaces, (*source).text),
		Kind:    s.r.Num(api.Interface),
		Fields:  list(s, api.MaxFields, (*source).field),
		Methods: list(s, api.MaxMethods, (*source).method),
	}
}

func (s *source) field() api.Field {
	name := s.text()
	// Of a text that is none it tells a type that isn't Right: so the archive isn't, either.
	t, _ := desc.One(s.text())
	return api.Field{Name: name, Type: t, Static: s.r.Num(static) == static}
}

func (s *source) method() api.Method {
	name := s.text()
	params, ret, _ := desc.Parse(s.text()) // of a text that is none as above
	is := s.r.Num(static | abstract)
	return api.Method{
		Name:     name,
		Params:   params,
		Ret:      ret,
		Static:   is&static != 0,
		Abstract: is&abstract != 0,
		Locals:   s.r.Num(api.MaxLocals),
		Code:     list(s, api.MaxCode, (*source).instr),
		Handlers: list(s, api.MaxHandlers, (*source).handler),
	}
}

func (s *source) instr() api.Instr {
	i := api.Instr{Op: s.r.Num(api.Ops - 1)}
	switch op.Uses(i.Op) {
	case op.Number:
		i.N = s.r.Int()
	case op.Words:
		i.S = s.text()
	case op.Place:
		i.K = s.r.Num(api.MaxCode)
	case op.Member:
		i.Class, i.Name = s.text(), s.text()
	case op.Method:
		i.Class, i.Name, i.Desc = s.text(), s.text(), s.text()
	case op.Class:
		i.Class = s.text()
	}
	return i
}

func (s *source) handler() api.Handler {
	return api.Handler{
		From:  s.r.Num(api.MaxCode),
		To:    s.r.Num(api.MaxCode),
		At:    s.r.Num(api.MaxCode),
		Catch: s.text(),
	}
}

// text takes the number of a text.
func (s *source) text() string {
	t, known := s.texts.At(s.r.Two(s.texts.Len() - 1))
	// Two takes a 0 also where there are no texts at all.
	if !known && s.r.Err() == api.OK {
		s.beyond = true
	}
	return t
}
