package tree

import (
	"bonsai/api"
	"bonsai/set"
)

// Builtin tells whether there is a class of that name in every archive.
func Builtin(name string) bool {
	_, ok := builtin(name)
	return ok
}

// builtin tells the class that is there of itself under that name.
func builtin(name string) (api.Class, bool) {
	super := ""
	switch name {
	case api.Object:
	case api.Fault:
		super = api.Object
	case api.NullFault, api.BoundsFault, api.CastFault, api.ZeroFault, api.SizeFault:
		super = api.Fault
	default:
		return api.Class{}, false
	}
	return api.Class{Name: name, Super: super, Kind: api.Plain}, true
}

// find tells the class of that name. What hangs on it is the tree's own: only a copy may be handed out.
func (t *Tree) find(name string) (api.Class, bool) {
	if c, ok := builtin(name); ok {
		return c, true
	}
	if k, ok := t.places[name]; ok {
		return t.classes[k], true
	}
	return api.Class{}, false
}

// own tells the Ifaces that name's class itself has: the tree's own list.
func (t *Tree) own(name string) []string {
	c, _ := t.find(name)
	return c.Ifaces
}

func (t *Tree) isIface(name string) bool {
	c, _ := t.find(name)
	return c.Kind == api.Interface
}

// chain tells name's Chain, and whether it ended at a class that is in it already.
func (t *Tree) chain(name string) ([]string, bool) {
	var l []string
	in := set.New[string]()
	for t.Known(name) && in.Add(name) {
		l = append(l, name)
		name = t.Super(name)
	}
	return l, in.Has(name)
}

// closed tells each of l that is Known, and behind it likewise what it has as Ifaces, each once.
func (t *Tree) closed(l []string) []string {
	var out []string
	in := set.New[string]()
	// A list, not calls in calls: nobody says how deep Ifaces go.
	for left := behind(nil, l); len(left) > 0; {
		last := len(left) - 1
		name := left[last]
		left = left[:last]
		if t.Known(name) && in.Add(name) {
			out = append(out, name)
			left = behind(left, t.own(name))
		}
	}
	return out
}

// behind puts l behind what is left, so that l's first one comes last.
func behind(left, l []string) []string {
	for k := len(l) - 1; k >= 0; k-- {
		left = append(left, l[k])
	}
	return left
}
