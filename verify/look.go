package verify

import (
	"bonsai/api"
	"bonsai/flow"
	"bonsai/tree"
)

// checkFlow tells the first place at which a method goes wrong, and why. Of a's form, and of how its classes go together, nothing is wrong.
func checkFlow(a api.Archive) (api.Place, api.Errno) {
	t := outside(a)
	for i, c := range a.Classes {
		for k, m := range c.Methods {
			if m.Abstract {
				continue
			}
			if _, at, e := flow.Infer(t, c.Name, m); e != api.OK {
				return api.Place{Class: i, Method: k, At: at}, e
			}
		}
	}
	return api.Place{}, api.OK
}

// outside tells the tree of a's classes as others see them, without code: no method's flow asks for what another one does, and a tree copies a class, its code too, whenever it is asked.
func outside(a api.Archive) *tree.Tree {
	classes := append([]api.Class(nil), a.Classes...)
	for k := range classes {
		methods := append([]api.Method(nil), classes[k].Methods...)
		for n := range methods {
			methods[n].Code, methods[n].Handlers = nil, nil
		}
		classes[k].Methods = methods
	}
	return tree.New(api.Archive{Classes: classes})
}

// runs tells whether a has a method there, one that isn't Abstract.
func runs(a api.Archive, class, method int) bool {
	if !within(class, len(a.Classes)) {
		return false
	}
	l := a.Classes[class].Methods
	return within(method, len(l)) && !l[method].Abstract
}

func within(k, n int) bool {
	return 0 <= k && k < n
}
