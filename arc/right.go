package arc

import (
	"bonsai/api"
	"bonsai/desc"
	"bonsai/op"
)

// formed tells whether a can be written, however many texts that takes.
func formed(a api.Archive) bool {
	return all(a.Classes, api.MaxClasses, formedClass)
}

// all tells whether l has at most most, each of which may be so.
func all[T any](l []T, most int, may func(T) bool) bool {
	if len(l) > most {
		return false
	}
	for _, x := range l {
		if !may(x) {
			return false
		}
	}
	return true
}

func formedClass(c api.Class) bool {
	return desc.Name(c.Name) && desc.Name(c.Super) &&
		all(c.Ifaces, api.MaxIfaces, desc.Name) &&
		api.Plain <= c.Kind && c.Kind <= api.Interface &&
		all(c.Fields, api.MaxFields, formedField) &&
		all(c.Methods, api.MaxMethods, formedMethod)
}

func formedField(f api.Field) bool {
	return desc.Name(f.Name) && holds(f.Type)
}

func formedMethod(m api.Method) bool {
	return desc.Name(m.Name) &&
		all(m.Params, api.MaxParams, holds) && desc.Right(m.Ret) &&
		upTo(m.Locals, api.MaxLocals) &&
		all(m.Code, api.MaxCode, op.Right) &&
		all(m.Handlers, api.MaxHandlers, formedHandler)
}

func formedHandler(h api.Handler) bool {
	return upTo(h.From, api.MaxCode) && upTo(h.To, api.MaxCode) && upTo(h.At, api.MaxCode) && desc.Name(h.Catch)
}

// holds tells whether there may be a value of t.
func holds(t api.Type) bool {
	return desc.Right(t) && t.Kind != api.Void
}

func upTo(n, most int) bool {
	return 0 <= n && n <= most
}
