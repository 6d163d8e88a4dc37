package frame_test

import (
	"math/rand"
	"slices"
	"strings"
	"testing"

	"bonsai/api"
	"bonsai/desc"
	"bonsai/frame"
	"bonsai/lattice"
	"bonsai/member"
	"bonsai/op"
	"bonsai/tree"
)

// table is the chapter's, its columns as texts: what is taken from the top on down, what is left.
// Beside types: C a Ref of Class, F the field's type, P the params, Q the Ret (if not Void), M that of the method it stands in, K the local;
// "any", "known", "refers" are what is asked of a value by itself; "it" is what was taken.
var table = map[int][2]string{
	api.PushI: {"", "I"}, api.PushS: {"", "S"}, api.PushN: {"", "N"},
	api.Load: {"", "K"}, api.Store: {"known", ""},
	api.Pop: {"any", ""}, api.Dup: {"any", "it it"},
	api.Add: {"I I", "I"}, api.Sub: {"I I", "I"}, api.Mul: {"I I", "I"}, api.Div: {"I I", "I"}, api.Rem: {"I I", "I"}, api.Lt: {"I I", "I"}, api.Eq: {"I I", "I"}, api.Neg: {"I", "I"},
	api.Concat: {"S S", "S"}, api.Len: {"S", "I"}, api.Text: {"I", "S"},
	api.Jump: {"", ""}, api.JumpZ: {"I", ""},
	api.NewA: {"I", "A"}, api.LenA: {"A", "I"}, api.GetA: {"I A", "I"}, api.PutA: {"I I A", ""},
	api.New: {"", "C"}, api.GetF: {"C", "F"}, api.PutF: {"F C", ""}, api.GetS: {"", "F"}, api.PutS: {"F", ""},
	api.Cast: {":Object", "C"}, api.Is: {":Object", "I"}, api.Same: {"refers refers", "I"}, api.Check: {"refers", ""},
	api.CallV: {"P C", "Q"}, api.CallI: {"P C", "Q"}, api.CallX: {"P C", "Q"}, api.CallS: {"P", "Q"},
	api.Throw: {":Fault", ""}, api.Ret: {"M", ""}, api.RetV: {"", ""},
	api.Print: {"S", ""}, api.Read: {"", "I"}, api.Exit: {"I", ""},
}

// ruled is what the table says of one step.
type ruled struct {
	x *tree.Tree
	m api.Method
	f api.Frame
	i api.Instr
}

// wanted tells the types that a column's word stands for.
func (r ruled) wanted(word string) []api.Type {
	switch word {
	case "C":
		return []api.Type{{Kind: api.Ref, Class: r.i.Class}}
	case "F":
		_, f, _ := member.Field(r.x, r.i.Class, r.i.Name, r.i.Op == api.GetS || r.i.Op == api.PutS)
		return []api.Type{f.Type}
	case "P":
		l, _, _ := desc.Parse(r.i.Desc)
		slices.Reverse(l)
		return l
	case "Q":
		if _, ret, _ := desc.Parse(r.i.Desc); ret.Kind != api.Void {
			return []api.Type{ret}
		}
		return nil
	case "M":
		return []api.Type{r.m.Ret}
	case "K":
		return []api.Type{r.f.Locals[r.i.K]}
	case "it":
		return r.f.Stack[len(r.f.Stack)-1:]
	case "any", "known", "refers":
		return make([]api.Type, 1)
	}
	return []api.Type{one(word)}
}

func (r ruled) fits(word string, v, want api.Type) bool {
	switch word {
	case "any":
		return true
	case "known":
		return v.Kind != api.Top
	case "refers":
		return v.Kind == api.Arr || v.Kind == api.Ref || v.Kind == api.Null
	}
	return lattice.Fits(r.x, v, want)
}

// column is the last one of the table, and what stands below it.
func (r ruled) column() api.Errno {
	c, known := r.x.Class(r.i.Class)
	_, m, there := member.Method(r.x, r.i.Class, r.i.Name, r.i.Desc)
	_, _, slot := member.Field(r.x, r.i.Class, r.i.Name, false)
	_, _, static := member.Field(r.x, r.i.Class, r.i.Name, true)
	missing, wrong := false, false
	switch r.i.Op {
	case api.New:
		missing, wrong = !known, c.Kind == api.Abstract || c.Kind == api.Interface
	case api.GetF, api.PutF:
		missing = !slot
	case api.GetS, api.PutS:
		missing = !static
	case api.Cast, api.Is:
		missing = !known
	case api.CallV:
		missing, wrong = !there, m.Static || c.Kind == api.Interface || m.Name == "clinit"
	case api.CallI:
		missing, wrong = !there, m.Static || c.Kind != api.Interface || m.Name == "clinit"
	case api.CallX:
		missing, wrong = !there, m.Static || m.Abstract || m.Name == "clinit"
	case api.CallS:
		missing, wrong = !there, !m.Static || m.Name == "clinit"
	case api.Ret:
		wrong = r.m.Ret.Kind == api.Void
	case api.RetV:
		wrong = r.m.Ret.Kind != api.Void
	}
	if missing {
		return api.ErrMissing
	}
	if wrong {
		return api.ErrCode
	}
	return api.OK
}

func (r ruled) step() (api.Frame, api.Errno) {
	isLocal := r.i.Op == api.Load || r.i.Op == api.Store
	if !r.f.Reached || !op.Right(r.i) || isLocal && r.i.K >= len(r.f.Locals) {
		return api.Frame{}, api.ErrCode
	}
	row := table[r.i.Op]
	var words []string
	var wanted []api.Type
	for _, word := range strings.Fields(row[0]) {
		for _, want := range r.wanted(word) {
			words, wanted = append(words, word), append(wanted, want)
		}
	}
	if len(r.f.Stack) < len(wanted) {
		return api.Frame{}, api.ErrStack
	}
	if e := r.column(); e != api.OK {
		return api.Frame{}, e
	}
	out := api.Frame{Reached: true, Locals: slices.Clone(r.f.Locals), Stack: slices.Clone(r.f.Stack)}
	for k, want := range wanted {
		top := out.Stack[len(out.Stack)-1]
		if !r.fits(words[k], top, want) {
			return api.Frame{}, api.ErrType
		}
		out.Stack = out.Stack[:len(out.Stack)-1]
		if r.i.Op == api.Store {
			out.Locals[r.i.K] = top
		}
	}
	if r.i.Op == api.Load && r.f.Locals[r.i.K].Kind == api.Top {
		return api.Frame{}, api.ErrType
	}
	for _, word := range strings.Fields(row[1]) {
		out.Stack = append(out.Stack, r.wanted(word)...)
	}
	if len(out.Stack) > api.MaxStack {
		return api.Frame{}, api.ErrStack
	}
	return out, api.OK
}

// held asks Step for what the table says, and tells what that is.
func (r ruled) held(t *testing.T) (api.Frame, api.Errno) {
	t.Helper()
	want, e := r.step()
	step(t, r.x, r.m, r.f, r.i, want, e)
	return want, e
}

// asks are instructions of each op: what there is, what there isn't, and what may not be so.
func asks() []api.Instr {
	var l []api.Instr
	for o := range api.Ops {
		switch op.Uses(o) {
		case op.None:
			l = append(l, in(o))
		case op.Number:
			l = append(l, api.Instr{Op: o, N: 3})
		case op.Words:
			l = append(l, api.Instr{Op: o, S: "s"})
		case op.Place:
			l = append(l, local(o, 0), local(o, 1), local(o, 2), local(o, 3))
		case op.Member:
			for _, m := range []string{"A.i", "A.b", "B.i", "D.a", "A.s", "B.r", "D.j", "A.x", "I.i", "Object.i", "gone.i"} {
				c, name, _ := strings.Cut(m, ".")
				l = append(l, mem(o, c, name))
			}
		case op.Class:
			for _, c := range []string{"A", "B", "D", "E", "I", "J", "Object", "Fault", "ZeroFault", "gone"} {
				l = append(l, of(o, c))
			}
		case op.Method:
			for _, m := range []string{
				"A.m()V", "D.m()V", "A.n(ISLA;)LB;", "D.n(ISLA;)LB;", "A.o()I", "B.o()I", "A.s(ILJ;A)S", "D.s(ILJ;A)S", "B.v()V", "A.clinit()V", "B.clinit()V", "A.w(IIIIIIII)I",
				"I.i(I)I", "A.i(I)I", "D.i(I)I", "J.j()V", "I.j()V", "A.j()V", "B.j()V", "A.x()V", "A.m()I", "Object.m()V", "gone.m(I)V", "gone.clinit()V",
			} {
				c, rest, _ := strings.Cut(m, ".")
				at := strings.Index(rest, "(")
				l = append(l, call(o, c, rest[:at], rest[at:]))
			}
		}
	}
	return append(l, api.Instr{Op: api.Pop, K: 1}, local(api.Load, -1), in(-5), of(api.New, ""), call(api.CallS, "A", "v", "()"))
}

// values are types of each kind, odd ones among them.
var values = append(types("I S A V N T :A :B :D :E :I :J :Object :Fault :ZeroFault :gone"), api.Type{}, api.Type{Kind: api.Int, Class: "A"}, api.Type{Kind: api.Top, Class: "A"}, api.Type{Kind: api.Null, Class: "A"})

// All instructions, on all Stacks of at most two values, and a third one below.
func TestP12_2AllShortStacks(t *testing.T) {
	x, m := wood(), tells("A")
	count := map[api.Errno]int{}
	stacks := [][]api.Type{nil}
	for _, a := range values {
		stacks = append(stacks, []api.Type{a})
		for _, b := range values {
			stacks = append(stacks, []api.Type{a, b}, []api.Type{one("N"), a, b})
		}
	}
	for _, i := range asks() {
		for _, s := range stacks {
			f := api.Frame{Reached: true, Locals: types("S T :D"), Stack: s}
			_, e := ruled{x, m, f, i}.held(t)
			count[e]++
		}
		if t.Failed() {
			t.FailNow()
		}
	}
	for _, e := range []api.Errno{api.OK, api.ErrStack, api.ErrMissing, api.ErrCode, api.ErrType} {
		if count[e] < 4000 {
			t.Errorf("of %d: %d, too few", e, count[e])
		}
	}
}

// anyFrame has on its Stack, mostly, what i takes, or what fits there.
func anyFrame(r *rand.Rand, x *tree.Tree, m api.Method, i api.Instr) api.Frame {
	some := func() api.Type { return values[r.Intn(len(values))] }
	f := api.Frame{Reached: r.Intn(20) > 0, Locals: []api.Type{some(), some(), some()}}
	n := r.Intn(4)
	if r.Intn(3) == 0 {
		n = api.MaxStack - 12 + r.Intn(16)
	}
	for range n {
		f.Stack = append(f.Stack, some())
	}
	var wanted []api.Type
	for _, word := range strings.Fields(table[i.Op][0]) {
		wanted = append(wanted, ruled{x: x, m: m, i: i}.wanted(word)...)
	}
	slices.Reverse(wanted)
	for _, want := range wanted {
		v := some()
		for range 30 {
			if lattice.Fits(x, v, want) || want == (api.Type{}) {
				break
			}
			v = some()
		}
		if r.Intn(30) > 0 {
			f.Stack = append(f.Stack, v)
		}
	}
	return f
}

func TestP12_2AnyFrame(t *testing.T) {
	x, l := wood(), asks()
	r := rand.New(rand.NewSource(12))
	passed, count := map[int]int{}, map[api.Errno]int{}
	for range 100000 {
		i := l[r.Intn(len(l))]
		m := api.Method{Ret: values[r.Intn(len(values))]}
		if r.Intn(3) == 0 {
			m = tells("V")
		}
		_, e := ruled{x, m, anyFrame(r, x, m, i), i}.held(t)
		if count[e]++; e == api.OK {
			passed[i.Op]++
		}
		if t.Failed() {
			t.FailNow()
		}
	}
	for o := 1; o < api.Ops; o++ {
		if passed[o] < 50 {
			t.Errorf("%s passed %d times, too few", op.Name(o), passed[o])
		}
	}
	for _, e := range []api.Errno{api.ErrStack, api.ErrMissing, api.ErrCode, api.ErrType} {
		if count[e] < 2000 {
			t.Errorf("of %d: %d, too few", e, count[e])
		}
	}
}

// below tells whether all that b says of values holds of those of a.
func below(x *tree.Tree, a, b api.Frame) bool {
	holds := func(a, b []api.Type) bool {
		return slices.EqualFunc(a, b, func(a, b api.Type) bool { return b.Kind == api.Top || lattice.Fits(x, a, b) })
	}
	return holds(a.Locals, b.Locals) && holds(a.Stack, b.Stack)
}

// tame are what a verifier knows of values.
var tame = types("I S A N T :A :B :D :E :I :J :Object :Fault :ZeroFault")

// What holds ahead of an instruction holds behind it, whichever way one came: what goes on where two ways meet goes on along each of them, and leaves what was said there.
func TestP12_3AheadAndBehind(t *testing.T) {
	x, l := wood(), asks()
	r := rand.New(rand.NewSource(123))
	unlike, passed := 0, 0
	for range 60000 {
		i := l[r.Intn(len(l))]
		m := api.Method{Ret: tame[r.Intn(len(tame))]}
		a := anyFrame(r, x, m, i)
		b := api.Frame{Reached: true, Locals: slices.Clone(a.Locals), Stack: slices.Clone(a.Stack)}
		a.Reached = true
		for _, f := range []api.Frame{a, b} {
			for _, l := range [][]api.Type{f.Locals, f.Stack} {
				for k := range l {
					if !slices.Contains(tame, l[k]) || r.Intn(4) == 0 {
						l[k] = tame[r.Intn(len(tame))]
					}
				}
			}
		}
		both, e := frame.Join(x, a, b)
		if e != api.OK || !below(x, a, both) || !below(x, b, both) {
			t.Fatalf("Join of %v, %v: %v, %d", a, b, both, e)
		}
		behind, e := frame.Step(x, m, both, i)
		if e != api.OK {
			continue
		}
		for _, f := range []api.Frame{a, b} {
			got, e := frame.Step(x, m, f, i)
			if e != api.OK || !got.Reached || !below(x, got, behind) {
				t.Fatalf("Step of %v, %v: %v, %d; of %v: %v", f, i, got, e, both, behind)
			}
		}
		if passed++; !frame.Same(a, b) {
			unlike++
		}
	}
	if passed < 5000 || unlike < 2000 {
		t.Errorf("too few: %d, %d", passed, unlike)
	}
}

// A way through a method, from its Entry on: what is known behind one instruction is known ahead of the next one.
func TestP12_3AWay(t *testing.T) {
	x := wood()
	m := api.Method{Name: "x", Params: types("I :B"), Ret: one("S"), Locals: 5}
	f := frame.Entry("A", m)
	for _, l := range []struct {
		i             api.Instr
		locals, stack string
	}{
		{local(api.Load, 2), ":A I :B T T", ":B"},
		{mem(api.GetF, "B", "i"), ":A I :B T T", "S"},
		{local(api.Store, 3), ":A I :B S T", ""},
		{local(api.Load, 1), ":A I :B S T", "I"},
		{in(api.NewA), ":A I :B S T", "A"},
		{local(api.Store, 4), ":A I :B S A", ""},
		{local(api.Load, 0), ":A I :B S A", ":A"},
		{local(api.Load, 1), ":A I :B S A", ":A I"},
		{local(api.Load, 3), ":A I :B S A", ":A I S"},
		{in(api.PushN), ":A I :B S A", ":A I S N"},
		{call(api.CallV, "A", "n", "(ISLA;)LB;"), ":A I :B S A", ":B"},
		{local(api.Store, 0), ":B I :B S A", ""},
		{local(api.Load, 3), ":B I :B S A", "S"},
		{in(api.Ret), ":B I :B S A", ""},
	} {
		step(t, x, m, f, l.i, at(l.locals, l.stack), api.OK)
		f, _ = frame.Step(x, m, f, l.i)
	}
	// A fault that is caught there: the Locals are known on, of the Stack the fault alone.
	if got := frame.Caught(f, "E"); !alike(got, at(":B I :B S A", ":E")) {
		t.Errorf("Caught: %v", got)
	}
}
