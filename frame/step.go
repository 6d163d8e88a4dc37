package frame

import (
	"bonsai/api"
	"bonsai/lattice"
	"bonsai/op"
	"bonsai/tree"
)

// change is what an instruction does to a Stack: what it takes, from the top on down, and what it leaves.
type change struct {
	takes, leaves []api.Type
	wrong         api.Errno // of the instruction itself, whatever the values are; takes are as many, for all that
}

// Step tells what is known behind i, an instruction of m, where f is known ahead of it.
func Step(t *tree.Tree, m api.Method, f api.Frame, i api.Instr) (api.Frame, api.Errno) {
	if !f.Reached || !op.Right(i) || !finds(f, i) {
		return api.Frame{}, api.ErrCode
	}
	if t == nil {
		t = tree.New(api.Archive{})
	}
	c := changeOf(t, m, f, i)
	stays := len(f.Stack) - len(c.takes)
	switch {
	case stays < 0:
		return api.Frame{}, api.ErrStack
	case c.wrong != api.OK:
		return api.Frame{}, c.wrong
	case !held(t, i.Op, f.Stack[stays:], c.takes):
		return api.Frame{}, api.ErrType
	case stays+len(c.leaves) > api.MaxStack:
		return api.Frame{}, api.ErrStack
	}
	out := copyFrame(f)
	if i.Op == api.Store {
		out.Locals[i.K] = f.Stack[stays]
	}
	out.Stack = append(out.Stack[:stays], c.leaves...)
	return out, api.OK
}

// finds tells whether f has the local that i names.
func finds(f api.Frame, i api.Instr) bool {
	switch i.Op {
	case api.Load, api.Store:
		return i.K < len(f.Locals)
	}
	return true
}

// held tells whether values, the last of which is on top, are as they are wanted.
func held(t *tree.Tree, o int, values, wanted []api.Type) bool {
	for k, want := range wanted {
		if !holds(t, o, values[len(values)-1-k], want) {
			return false
		}
	}
	return true
}

// holds tells whether o may take a value known as v where a want stands.
func holds(t *tree.Tree, o int, v, want api.Type) bool {
	switch o {
	case api.Pop, api.Dup:
		return true
	case api.Store:
		return v.Kind != api.Top
	case api.Same, api.Check:
		return lattice.Refers(v)
	}
	return lattice.Fits(t, v, want)
}
