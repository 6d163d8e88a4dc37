package frame

import (
	"bonsai/api"
	"bonsai/desc"
	"bonsai/member"
	"bonsai/op"
	"bonsai/tree"
)

// changeOf tells what i does, in m, where f is known ahead of it.
func changeOf(t *tree.Tree, m api.Method, f api.Frame, i api.Instr) change {
	switch op.Uses(i.Op) {
	case op.Class:
		return ofClass(t, i)
	case op.Member:
		return ofField(t, i)
	case op.Method:
		return ofCall(t, i)
	}
	switch i.Op {
	case api.Load:
		return load(f.Locals[i.K])
	case api.Dup:
		return dup(f.Stack)
	case api.Ret, api.RetV:
		return ends(m.Ret, i.Op)
	}
	return fixed(i.Op)
}

// fixed tells the change of an op that does the same wherever it stands. Top is a value that Fits isn't asked of: see holds.
func fixed(o int) change {
	switch o {
	case api.PushI, api.Read:
		return change{leaves: kinds(api.Int)}
	case api.PushS:
		return change{leaves: kinds(api.Str)}
	case api.PushN:
		return change{leaves: kinds(api.Null)}
	case api.Store, api.Pop, api.Check:
		return change{takes: kinds(api.Top)}
	case api.Add, api.Sub, api.Mul, api.Div, api.Rem, api.Lt, api.Eq:
		return change{takes: kinds(api.Int, api.Int), leaves: kinds(api.Int)}
	case api.Neg:
		return change{takes: kinds(api.Int), leaves: kinds(api.Int)}
	case api.Concat:
		return change{takes: kinds(api.Str, api.Str), leaves: kinds(api.Str)}
	case api.Len:
		return change{takes: kinds(api.Str), leaves: kinds(api.Int)}
	case api.Text:
		return change{takes: kinds(api.Int), leaves: kinds(api.Str)}
	case api.NewA:
		return change{takes: kinds(api.Int), leaves: kinds(api.Arr)}
	case api.LenA:
		return change{takes: kinds(api.Arr), leaves: kinds(api.Int)}
	case api.GetA:
		return change{takes: kinds(api.Int, api.Arr), leaves: kinds(api.Int)}
	case api.PutA:
		return change{takes: kinds(api.Int, api.Int, api.Arr)}
	case api.Same:
		return change{takes: kinds(api.Top, api.Top), leaves: kinds(api.Int)}
	case api.Throw:
		return change{takes: []api.Type{ref(api.Fault)}}
	case api.Print:
		return change{takes: kinds(api.Str)}
	case api.JumpZ, api.Exit:
		return change{takes: kinds(api.Int)}
	}
	return change{} // Jump
}

func load(local api.Type) change {
	if local.Kind == api.Top {
		return change{wrong: api.ErrType}
	}
	return change{leaves: []api.Type{local}}
}

func dup(stack []api.Type) change {
	c := change{takes: kinds(api.Top)}
	if n := len(stack); n > 0 {
		c.leaves = []api.Type{stack[n-1], stack[n-1]}
	}
	return c
}

// ends tells the change of Ret, RetV in a method that tells a ret.
func ends(ret api.Type, o int) change {
	var c change
	if o == api.Ret {
		c.takes = []api.Type{ret}
	}
	if (o == api.Ret) == (ret.Kind == api.Void) {
		c.wrong = api.ErrCode
	}
	return c
}

func ofClass(t *tree.Tree, i api.Instr) change {
	object := []api.Type{ref(api.Object)}
	switch {
	case i.Op == api.New:
		return change{leaves: []api.Type{ref(i.Class)}, wrong: wrongNew(t, i.Class)}
	case !t.Known(i.Class):
		return change{takes: object, wrong: api.ErrMissing}
	case i.Op == api.Cast:
		return change{takes: object, leaves: []api.Type{ref(i.Class)}}
	}
	return change{takes: object, leaves: kinds(api.Int)} // Is
}

func wrongNew(t *tree.Tree, class string) api.Errno {
	c, ok := t.Class(class)
	switch {
	case !ok:
		return api.ErrMissing
	case c.Kind != api.Plain && c.Kind != api.Final:
		return api.ErrCode
	}
	return api.OK
}

func ofField(t *tree.Tree, i api.Instr) change {
	static := i.Op == api.GetS || i.Op == api.PutS
	_, f, ok := member.Field(t, i.Class, i.Name, static)
	var c change
	if !ok {
		c.wrong = api.ErrMissing
	}
	if i.Op == api.PutF || i.Op == api.PutS {
		c.takes = append(c.takes, f.Type)
	} else {
		c.leaves = append(c.leaves, f.Type)
	}
	if !static {
		c.takes = append(c.takes, ref(i.Class))
	}
	return c
}

// ofCall has the types of the Desc: they are told ahead of whether there is such a method.
func ofCall(t *tree.Tree, i api.Instr) change {
	params, ret, _ := desc.Parse(i.Desc)
	c := change{wrong: wrongCall(t, i)}
	for k := len(params) - 1; k >= 0; k-- {
		c.takes = append(c.takes, params[k])
	}
	if i.Op != api.CallS {
		c.takes = append(c.takes, ref(i.Class))
	}
	if ret.Kind != api.Void {
		c.leaves = append(c.leaves, ret)
	}
	return c
}

func wrongCall(t *tree.Tree, i api.Instr) api.Errno {
	_, m, ok := member.Method(t, i.Class, i.Name, i.Desc)
	switch {
	case !ok:
		return api.ErrMissing
	case i.Name == api.Clinit, m.Static != (i.Op == api.CallS):
		return api.ErrCode
	case i.Op == api.CallV && isIface(t, i.Class), i.Op == api.CallI && !isIface(t, i.Class):
		return api.ErrCode
	case i.Op == api.CallX && m.Abstract:
		return api.ErrCode
	}
	return api.OK
}

func isIface(t *tree.Tree, class string) bool {
	c, _ := t.Class(class)
	return c.Kind == api.Interface
}
