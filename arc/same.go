package arc

import (
	"slices"

	"bonsai/api"
	"bonsai/desc"
	"bonsai/op"
)

// Same tells whether a and b are alike, also where they can't be written.
func Same(a, b api.Archive) bool {
	return slices.EqualFunc(a.Classes, b.Classes, sameClass)
}

func sameClass(a, b api.Class) bool {
	return a.Name == b.Name && a.Super == b.Super && a.Kind == b.Kind &&
		slices.Equal(a.Ifaces, b.Ifaces) &&
		slices.Equal(a.Fields, b.Fields) &&
		slices.EqualFunc(a.Methods, b.Methods, sameMethod)
}

func sameMethod(a, b api.Method) bool {
	return a.Name == b.Name && a.Ret == b.Ret && desc.Same(a.Params, b.Params) &&
		a.Static == b.Static && a.Abstract == b.Abstract && a.Locals == b.Locals &&
		slices.EqualFunc(a.Code, b.Code, op.Same) &&
		slices.Equal(a.Handlers, b.Handlers)
}

// Copy tells a in new memory. (Its texts are shared: nobody can change one.)
func Copy(a api.Archive) api.Archive {
	classes := append([]api.Class(nil), a.Classes...)
	for i, c := range classes {
		classes[i] = copyClass(c)
	}
	return api.Archive{Classes: classes}
}

func copyClass(c api.Class) api.Class {
	c.Ifaces = append([]string(nil), c.Ifaces...)
	c.Fields = append([]api.Field(nil), c.Fields...)
	c.Methods = append([]api.Method(nil), c.Methods...)
	for i, m := range c.Methods {
		c.Methods[i] = copyMethod(m)
	}
	return c
}

func copyMethod(m api.Method) api.Method {
	m.Params = append([]api.Type(nil), m.Params...)
	m.Code = append([]api.Instr(nil), m.Code...)
	m.Handlers = append([]api.Handler(nil), m.Handlers...)
	return m
}
