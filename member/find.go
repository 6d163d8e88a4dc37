package member

import (
	"slices"

	"bonsai/api"
	"bonsai/desc"
	"bonsai/tree"
)

// first tells the first of classes that has such a member, and the first one that it has.
func first[M any](t *tree.Tree, classes []string, of func(api.Class) []M, is func(M) bool) (string, M, bool) {
	for _, name := range classes {
		c, _ := t.Class(name)
		if k := slices.IndexFunc(of(c), is); k >= 0 {
			return name, of(c)[k], true
		}
	}
	var none M
	return "", none, false
}

func fields(c api.Class) []api.Field { return c.Fields }

func methods(c api.Class) []api.Method { return c.Methods }

// named tells whether m has that name and those types. Each by itself: a name that may not be could have a part of d in it.
func named(m api.Method, name, d string) bool {
	return m.Name == name && desc.Of(m.Params, m.Ret) == d
}

func isStatic(f api.Field) bool { return f.Static }

func isInit(m api.Method) bool { return named(m, api.Clinit, "()V") }

// chain tells the Chain of class: of no tree nothing.
func chain(t *tree.Tree, class string) []string {
	if t == nil {
		return nil
	}
	return t.Chain(class)
}

// ifaces tells the Ifaces of class: of no tree nothing.
func ifaces(t *tree.Tree, class string) []string {
	if t == nil {
		return nil
	}
	return t.Ifaces(class)
}

// down tells the Chain of class from its end on.
func down(t *tree.Tree, class string) []string {
	l := chain(t, class)
	slices.Reverse(l)
	return l
}
