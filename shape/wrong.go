package shape

import (
	"slices"

	"bonsai/api"
	"bonsai/desc"
)

// wrong tells the first thing that is wrong with c, which is the tree's class of its name.
func (l *look) wrong(c api.Class) api.Errno {
	switch {
	case l.wrongSuper(c), l.wrongIfaces(c), l.tree.Loops(c.Name):
		return api.ErrSuper
	case l.wrongFields(c), l.wrongMethods(c):
		return api.ErrMember
	case l.wrongOverride(c):
		return api.ErrOverride
	case l.wrongAbstract(c):
		return api.ErrAbstract
	}
	return api.OK
}

func (l *look) wrongSuper(c api.Class) bool {
	if c.Kind == api.Interface && c.Super != api.Object {
		return true
	}
	kind := l.face(c.Super).kind
	return !l.tree.Known(c.Super) || kind == api.Interface || kind == api.Final
}

func (l *look) wrongIfaces(c api.Class) bool {
	strange := func(name string) bool {
		return !l.tree.Known(name) || l.face(name).kind != api.Interface
	}
	itself := func(name string) string { return name }
	return slices.ContainsFunc(c.Ifaces, strange) || twice(c.Ifaces, itself)
}

func (l *look) wrongFields(c api.Class) bool {
	if c.Kind == api.Interface && len(c.Fields) > 0 {
		return true
	}
	strange := func(f api.Field) bool { return l.strange(f.Type) }
	name := func(f api.Field) string { return f.Name }
	return slices.ContainsFunc(c.Fields, strange) || twice(c.Fields, name)
}

func (l *look) wrongMethods(c api.Class) bool {
	wrong := func(m api.Method) bool {
		return wrongMethod(c.Kind, m) || l.strange(m.Ret) || slices.ContainsFunc(m.Params, l.strange)
	}
	return slices.ContainsFunc(c.Methods, wrong) || twice(c.Methods, desc.Key)
}

// wrongMethod tells whether no class of that kind may have m, whatever else it has.
func wrongMethod(kind int, m api.Method) bool {
	switch {
	case kind == api.Interface && (m.Static || !m.Abstract):
		return true
	case m.Abstract && (m.Static || kind != api.Abstract && kind != api.Interface):
		return true
	case m.Name == api.Clinit:
		return m.Abstract || !m.Static || desc.Of(m.Params, m.Ret) != "()V"
	}
	return false
}

// strange tells whether t names a class that there isn't.
func (l *look) strange(t api.Type) bool {
	return t.Kind == api.Ref && !l.tree.Known(t.Class)
}

// wrongOverride tells whether a method of c and one that it stands for are unlike: the one static, the other one not.
func (l *look) wrongOverride(c api.Class) bool {
	own := map[string]sign{}
	for _, s := range l.face(c.Name).methods {
		own[s.key] = s
	}
	unlike := func(s sign) bool {
		o, ok := own[s.key]
		return ok && o.static != s.static
	}
	// c itself is in its Chain: no Key is twice in it, so that it isn't unlike itself.
	for _, name := range slices.Concat(l.tree.Chain(c.Name), l.tree.Ifaces(c.Name)) {
		if slices.ContainsFunc(l.face(name).methods, unlike) {
			return true
		}
	}
	return false
}

func (l *look) wrongAbstract(c api.Class) bool {
	return (c.Kind == api.Plain || c.Kind == api.Final) && len(l.missing(c.Name)) > 0
}

// twice tells whether two of l are alike in what key tells of them.
func twice[T any](l []T, key func(T) string) bool {
	in := map[string]struct{}{}
	for _, x := range l {
		in[key(x)] = struct{}{}
	}
	return len(in) < len(l)
}
