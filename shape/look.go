package shape

import (
	"slices"
	"strings"

	"bonsai/api"
	"bonsai/desc"
	"bonsai/tree"
)

// look is what one call has seen of a tree. The tree copies a class, its code too, whenever it is asked: here it is asked once for each.
type look struct {
	tree  *tree.Tree
	faces map[string]face
}

// face is what others see of a class.
type face struct {
	kind    int
	methods []sign
}

// sign is a method without its code.
type sign struct {
	call             call
	key              string
	static, abstract bool
}

// call is how a method is asked for. A Key isn't enough: of names that may not be two unlike calls can have the same one.
type call struct{ name, types string }

func newLook(t *tree.Tree) *look {
	return &look{tree: t, faces: map[string]face{}}
}

// face tells what there is to be seen of the class of that name: of none, nothing.
func (l *look) face(name string) face {
	f, ok := l.faces[name]
	if !ok {
		c, _ := l.tree.Class(name)
		f = faceOf(c)
		l.faces[name] = f
	}
	return f
}

func faceOf(c api.Class) face {
	f := face{kind: c.Kind}
	for _, m := range c.Methods {
		f.methods = append(f.methods, sign{
			call:     call{name: m.Name, types: desc.Of(m.Params, m.Ret)},
			key:      desc.Key(m),
			static:   m.Static,
			abstract: m.Abstract,
		})
	}
	return f
}

// missing tells the Keys of Abstract methods that nothing stands for: rising, each once.
func (l *look) missing(class string) []string {
	chain := l.tree.Chain(class)
	left := map[call]sign{}
	for _, name := range slices.Concat(chain, l.tree.Ifaces(class)) {
		for _, s := range l.face(name).methods {
			if s.abstract {
				left[s.call] = s
			}
		}
	}
	// Those for which member.Virtual tells one: method by method it would go up the whole Chain each time.
	for _, name := range chain {
		for _, s := range l.face(name).methods {
			if !s.static && !s.abstract {
				delete(left, s.call)
			}
		}
	}
	return keys(left)
}

func keys(m map[call]sign) []string {
	var l []string
	for _, s := range m {
		l = append(l, s.key)
	}
	slices.SortFunc(l, strings.Compare)
	return slices.Compact(l)
}
