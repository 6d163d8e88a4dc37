package tree

import "bonsai/api"

// copyClass tells c in new memory. (Its texts are shared: nobody can change one.)
func copyClass(c api.Class) api.Class {
	c.Ifaces = copyList(c.Ifaces)
	c.Fields = copyList(c.Fields)
	c.Methods = copyList(c.Methods)
	for k, m := range c.Methods {
		c.Methods[k] = copyMethod(m)
	}
	return c
}

func copyMethod(m api.Method) api.Method {
	m.Params = copyList(m.Params)
	m.Code = copyList(m.Code)
	m.Handlers = copyList(m.Handlers)
	return m
}

func copyList[T any](l []T) []T {
	return append([]T(nil), l...)
}
