package frame_test

import (
	"strings"
	"testing"

	"bonsai/api"
	"bonsai/frame"
	"bonsai/tree"
)

func in(o int) api.Instr { return api.Instr{Op: o} }

func local(o, k int) api.Instr { return api.Instr{Op: o, K: k} }

func of(o int, class string) api.Instr { return api.Instr{Op: o, Class: class} }

func mem(o int, class, name string) api.Instr { return api.Instr{Op: o, Class: class, Name: name} }

func call(o int, class, name, d string) api.Instr {
	return api.Instr{Op: o, Class: class, Name: name, Desc: d}
}

// tells is a method that tells a ret.
func tells(ret string) api.Method { return api.Method{Name: "x", Ret: one(ret)} }

// goes asks for the Stack behind i; the Locals stay.
func goes(t *testing.T, i api.Instr, stack, want string) {
	t.Helper()
	step(t, wood(), tells("V"), at("I T :B", stack), i, at("I T :B", want), api.OK)
}

func fails(t *testing.T, i api.Instr, want api.Errno, stacks ...string) {
	t.Helper()
	for _, stack := range stacks {
		step(t, wood(), tells("V"), at("I T :B", stack), i, api.Frame{}, want)
	}
}

func step(t *testing.T, x *tree.Tree, m api.Method, f api.Frame, i api.Instr, want api.Frame, e api.Errno) {
	t.Helper()
	got, err := frame.Step(x, m, f, i)
	if err != e || !alike(got, want) || e != api.OK && !zero(got) {
		t.Errorf("Step of %v, %v: %v, %d, not %v, %d", f, i, got, err, want, e)
	}
}

func TestP12_2Push(t *testing.T) {
	for _, below := range []string{"", "S", ":A T N"} {
		goes(t, api.Instr{Op: api.PushI, N: -7}, below, below+" I")
		goes(t, api.Instr{Op: api.PushS, S: "\xff"}, below, below+" S")
		goes(t, in(api.PushN), below, below+" N")
		goes(t, in(api.Read), below, below+" I")
		goes(t, local(api.Jump, 2000), below, below)
	}
}

func TestP12_2Locals(t *testing.T) {
	goes(t, local(api.Load, 0), "S", "S I")
	goes(t, local(api.Load, 2), "", ":B")
	fails(t, local(api.Load, 1), api.ErrType, "", "I")
	fails(t, local(api.Load, 3), api.ErrCode, "", "I")
	fails(t, local(api.Store, 3), api.ErrCode, "", "I", "T")
	fails(t, local(api.Store, 0), api.ErrStack, "")
	fails(t, local(api.Store, 0), api.ErrType, "T", "I T")
	for _, v := range []string{"I", "S", "A", "N", ":A", ":gone", "V"} {
		step(t, wood(), tells("V"), at("I T :B", "T "+v), local(api.Store, 1), at("I "+v+" :B", "T"), api.OK)
		step(t, wood(), tells("V"), at("I T :B", v), local(api.Store, 2), at("I T "+v, ""), api.OK)
		step(t, wood(), tells("V"), at(v, ""), local(api.Load, 0), at(v, v), api.OK)
	}
	step(t, wood(), tells("V"), at("", ""), local(api.Load, 0), api.Frame{}, api.ErrCode)
	// Top is by its Kind, and what has none is none.
	odd := api.Frame{Reached: true, Locals: []api.Type{{Kind: api.Top, Class: "A"}, {}}}
	step(t, wood(), tells("V"), odd, local(api.Load, 0), api.Frame{}, api.ErrType)
	step(t, wood(), tells("V"), odd, local(api.Load, 1), api.Frame{Reached: true, Locals: odd.Locals, Stack: []api.Type{{}}}, api.OK)
	// As many Locals as the frame has, not the method.
	many := strings.Repeat("I ", 300)
	step(t, wood(), api.Method{Locals: 1}, at(many, ""), local(api.Load, 299), at(many, "I"), api.OK)
}

func TestP12_2AnyValue(t *testing.T) {
	for _, v := range []string{"I", "S", "A", "N", "T", ":A", ":gone", "V"} {
		goes(t, in(api.Pop), "S "+v, "S")
		goes(t, in(api.Dup), "S "+v, "S "+v+" "+v)
	}
	fails(t, in(api.Pop), api.ErrStack, "")
	fails(t, in(api.Dup), api.ErrStack, "")
}

func TestP12_2Numbers(t *testing.T) {
	for _, o := range []int{api.Add, api.Sub, api.Mul, api.Div, api.Rem, api.Lt, api.Eq} {
		goes(t, in(o), "I I", "I")
		goes(t, in(o), "S I I", "S I")
		fails(t, in(o), api.ErrStack, "", "I", "S")
		fails(t, in(o), api.ErrType, "I S", "S I", "T I", "I T", "I N", "I I A", ":B I")
	}
	goes(t, in(api.Neg), "S I", "S I")
	fails(t, in(api.Neg), api.ErrStack, "")
	fails(t, in(api.Neg), api.ErrType, "S", "I T", "N")
	goes(t, local(api.JumpZ, 0), "S I", "S")
	fails(t, local(api.JumpZ, 0), api.ErrStack, "")
	fails(t, local(api.JumpZ, 0), api.ErrType, "S", "I N", "T")
	goes(t, in(api.Exit), "S I", "S")
	fails(t, in(api.Exit), api.ErrStack, "")
	fails(t, in(api.Exit), api.ErrType, "S", "I N", "T")
}

func TestP12_2Texts(t *testing.T) {
	goes(t, in(api.Concat), "I S S", "I S")
	fails(t, in(api.Concat), api.ErrStack, "", "S")
	fails(t, in(api.Concat), api.ErrType, "S I", "I S", "S N", "T S", "I I")
	goes(t, in(api.Len), "S S", "S I")
	fails(t, in(api.Len), api.ErrStack, "")
	fails(t, in(api.Len), api.ErrType, "I", "S A", "N", "T")
	goes(t, in(api.Text), "I I", "I S")
	fails(t, in(api.Text), api.ErrStack, "")
	fails(t, in(api.Text), api.ErrType, "S", "I N", "T")
	goes(t, in(api.Print), "I S", "I")
	fails(t, in(api.Print), api.ErrStack, "")
	fails(t, in(api.Print), api.ErrType, "I", "S N", "T")
}

func TestP12_2Arrays(t *testing.T) {
	goes(t, in(api.NewA), "S I", "S A")
	fails(t, in(api.NewA), api.ErrStack, "")
	fails(t, in(api.NewA), api.ErrType, "S", "N", "T", "A")
	goes(t, in(api.LenA), "S A", "S I")
	goes(t, in(api.LenA), "N", "I")
	fails(t, in(api.LenA), api.ErrStack, "")
	fails(t, in(api.LenA), api.ErrType, "S", "I", "T", ":Object")
	goes(t, in(api.GetA), "S A I", "S I")
	goes(t, in(api.GetA), "N I", "I")
	fails(t, in(api.GetA), api.ErrStack, "", "I", "A")
	fails(t, in(api.GetA), api.ErrType, "I A", "A N", "A T", "I I", ":Object I")
	goes(t, in(api.PutA), "S A I I", "S")
	goes(t, in(api.PutA), "N I I", "")
	fails(t, in(api.PutA), api.ErrStack, "", "I", "I I", "A I")
	fails(t, in(api.PutA), api.ErrType, "I I A", "I A I", "A I S", "A S I", "I I I", ":B I I", "T I I", "A A I I A")
}

func TestP12_2New(t *testing.T) {
	for _, c := range []string{"B", "D", "E", "Object", "Fault", "SizeFault"} {
		goes(t, of(api.New, c), "I", "I :"+c)
	}
	fails(t, of(api.New, "A"), api.ErrCode, "", "I")
	fails(t, of(api.New, "I"), api.ErrCode, "", "I")
	fails(t, of(api.New, "gone"), api.ErrMissing, "", "I")
	odd := tree.New(api.Archive{Classes: []api.Class{{Name: "K"}, {Name: "L", Kind: 5}}})
	step(t, odd, tells("V"), at("", ""), of(api.New, "K"), api.Frame{}, api.ErrCode)
	step(t, odd, tells("V"), at("", ""), of(api.New, "L"), api.Frame{}, api.ErrCode)
}

func TestP12_2CastIs(t *testing.T) {
	for _, c := range []string{"A", "B", "I", "E", "Object", "NullFault"} {
		for _, v := range []string{"N", ":Object", ":A", ":D", ":E", ":J", ":Fault"} {
			goes(t, of(api.Cast, c), "I "+v, "I :"+c)
			goes(t, of(api.Is, c), "I "+v, "I I")
		}
	}
	for _, o := range []int{api.Cast, api.Is} {
		fails(t, of(o, "A"), api.ErrStack, "")
		fails(t, of(o, "A"), api.ErrType, "I", "S", "A", "T", ":A A", ":gone")
		fails(t, of(o, "gone"), api.ErrStack, "")
		fails(t, of(o, "gone"), api.ErrMissing, ":A", "I", ":gone")
	}
}

func TestP12_2Fields(t *testing.T) {
	goes(t, mem(api.GetF, "A", "i"), "S :A", "S I")
	goes(t, mem(api.GetF, "A", "i"), ":D", "I")
	goes(t, mem(api.GetF, "B", "i"), ":B", "S") // the nearest one
	goes(t, mem(api.GetF, "D", "b"), ":D", ":B")
	goes(t, mem(api.GetF, "D", "a"), "N", "A")
	fails(t, mem(api.GetF, "B", "b"), api.ErrType, ":A", "I", "T", "A", ":I", ":Object")
	fails(t, mem(api.GetF, "B", "b"), api.ErrStack, "")
	goes(t, mem(api.PutF, "A", "i"), "S :B I", "S")
	goes(t, mem(api.PutF, "B", "i"), ":D S", "")
	goes(t, mem(api.PutF, "D", "b"), "N N", "")
	goes(t, mem(api.PutF, "A", "b"), ":A :D", "")
	fails(t, mem(api.PutF, "A", "b"), api.ErrType, ":A :A", ":I :D", ":D :B I", ":B :A", "I N", "T :D", ":A T")
	fails(t, mem(api.PutF, "A", "i"), api.ErrStack, "", "I", ":A")
	goes(t, mem(api.GetS, "A", "s"), "I", "I S")
	goes(t, mem(api.GetS, "D", "r"), "", ":A")
	goes(t, mem(api.GetS, "B", "j"), "", ":I")
	goes(t, mem(api.PutS, "D", "s"), "I S", "I")
	goes(t, mem(api.PutS, "A", "r"), ":A :D", ":A")
	goes(t, mem(api.PutS, "B", "j"), "N", "")
	fails(t, mem(api.PutS, "B", "j"), api.ErrType, "I", ":J", "A", ":Object")
	fails(t, mem(api.PutS, "A", "s"), api.ErrStack, "")
	for _, c := range [][2]string{{"A", "s"}, {"A", "x"}, {"Object", "i"}, {"gone", "i"}, {"I", "i"}, {"NullFault", "i"}} {
		fails(t, mem(api.GetF, c[0], c[1]), api.ErrMissing, ":A", "I")
		fails(t, mem(api.PutF, c[0], c[1]), api.ErrMissing, ":A I", "I I", "T T")
		fails(t, mem(api.GetF, c[0], c[1]), api.ErrStack, "")
		fails(t, mem(api.PutF, c[0], c[1]), api.ErrStack, "", "I")
	}
	for _, c := range [][2]string{{"A", "i"}, {"A", "j"}, {"Object", "s"}, {"gone", "s"}, {"I", "s"}} {
		fails(t, mem(api.GetS, c[0], c[1]), api.ErrMissing, "", "I")
		fails(t, mem(api.PutS, c[0], c[1]), api.ErrMissing, "S", "I", "T")
		fails(t, mem(api.PutS, c[0], c[1]), api.ErrStack, "")
	}
}

func TestP12_2SameCheck(t *testing.T) {
	refer := []string{"A", "N", ":A", ":J", ":Object", ":gone"}
	for _, a := range refer {
		goes(t, in(api.Check), "I "+a, "I")
		for _, b := range refer {
			goes(t, in(api.Same), "S "+a+" "+b, "S I")
		}
		for _, b := range []string{"I", "S", "T", "V"} {
			fails(t, in(api.Same), api.ErrType, a+" "+b, b+" "+a)
			fails(t, in(api.Check), api.ErrType, a+" "+b)
		}
	}
	fails(t, in(api.Check), api.ErrStack, "")
	fails(t, in(api.Same), api.ErrStack, "", "N", "I")
}

func TestP12_2Calls(t *testing.T) {
	for _, o := range []int{api.CallV, api.CallX} {
		goes(t, call(o, "A", "m", "()V"), "I :A", "I")
		goes(t, call(o, "A", "m", "()V"), "N", "")
		goes(t, call(o, "D", "n", "(ISLA;)LB;"), "S :D I S :B", "S :B")
		goes(t, call(o, "A", "n", "(ISLA;)LB;"), ":B I S N", ":B")
		goes(t, call(o, "D", "o", "()I"), ":D", "I")
		goes(t, call(o, "B", "i", "(I)I"), ":B I", "I")
		fails(t, call(o, "D", "m", "()V"), api.ErrType, ":B", "I", "T", "A", ":Object")
		fails(t, call(o, "D", "m", "()V"), api.ErrStack, "")
		fails(t, call(o, "A", "n", "(ISLA;)LB;"), api.ErrStack, "", ":A", ":A I", ":A I S", "T T T")
		fails(t, call(o, "A", "n", "(ISLA;)LB;"), api.ErrType, ":A S I :A", ":A I S S", ":A I I :A", "I I S :A", ":I I S :A", ":A I S :I", ":A :A I S", ":A I S T")
	}
	goes(t, call(api.CallV, "A", "o", "()I"), ":A", "I") // Abstract
	goes(t, call(api.CallV, "A", "i", "(I)I"), ":A I", "I")
	fails(t, call(api.CallX, "A", "o", "()I"), api.ErrCode, ":A", "I")
	fails(t, call(api.CallX, "A", "i", "(I)I"), api.ErrCode, ":A I")
	goes(t, call(api.CallI, "I", "i", "(I)I"), "S :I I", "S I")
	goes(t, call(api.CallI, "I", "i", "(I)I"), ":B I", "I")
	goes(t, call(api.CallI, "I", "j", "()V"), ":D", "")
	goes(t, call(api.CallI, "J", "j", "()V"), "N", "")
	fails(t, call(api.CallI, "I", "i", "(I)I"), api.ErrStack, "", "I")
	fails(t, call(api.CallI, "I", "i", "(I)I"), api.ErrType, ":J I", ":I S", "A I", ":Object I", "I I")
	fails(t, call(api.CallI, "B", "i", "(I)I"), api.ErrCode, ":B I", "I I")
	fails(t, call(api.CallI, "A", "m", "()V"), api.ErrCode, ":A")
	fails(t, call(api.CallV, "I", "i", "(I)I"), api.ErrCode, ":I I", "I I")
	fails(t, call(api.CallV, "I", "j", "()V"), api.ErrCode, ":I")
	fails(t, call(api.CallX, "I", "i", "(I)I"), api.ErrCode, ":I I")
}

func TestP12_2CallS(t *testing.T) {
	goes(t, call(api.CallS, "A", "v", "()V"), "I", "I")
	goes(t, call(api.CallS, "D", "v", "()V"), "", "")
	goes(t, call(api.CallS, "B", "s", "(ILJ;A)S"), "S I :D A", "S S")
	goes(t, call(api.CallS, "A", "s", "(ILJ;A)S"), "I N N", "S")
	goes(t, call(api.CallS, "A", "w", "(IIIIIIII)I"), "S"+strings.Repeat(" I", 8), "S I")
	fails(t, call(api.CallS, "A", "w", "(IIIIIIII)I"), api.ErrStack, strings.Repeat(" I", 7))
	fails(t, call(api.CallS, "A", "s", "(ILJ;A)S"), api.ErrStack, "", "I", "I N")
	fails(t, call(api.CallS, "A", "s", "(ILJ;A)S"), api.ErrType, "A N I", "N N N", "I :Object A", "I :J I", "I A A", "I N N I")
	fails(t, call(api.CallS, "A", "m", "()V"), api.ErrCode, "", ":A")
	fails(t, call(api.CallS, "I", "i", "(I)I"), api.ErrCode, "I", "S", ":I I")
	for _, o := range []int{api.CallV, api.CallX, api.CallI} {
		fails(t, call(o, "A", "v", "()V"), api.ErrCode, ":A", "I")
		fails(t, call(o, "A", "s", "(ILJ;A)S"), api.ErrCode, ":A I N N")
	}
}

// Static is held apart from Interface: where an Interface has what it may not.
func TestP12_2OddCalls(t *testing.T) {
	x := tree.New(api.Archive{Classes: []api.Class{{Name: "K", Super: "Object", Kind: api.Interface, Methods: []api.Method{
		method("s", "", "V", true, false), method("m", "", "V", false, false), method("t", "", "V", true, true),
	}}, {Name: "C", Super: "Object", Kind: api.Plain, Methods: []api.Method{method("t", "", "V", true, true)}}}})
	void := tells("V")
	step(t, x, void, at("", ":K"), call(api.CallI, "K", "s", "()V"), api.Frame{}, api.ErrCode)
	step(t, x, void, at("", ":K"), call(api.CallX, "K", "s", "()V"), api.Frame{}, api.ErrCode)
	step(t, x, void, at("", ":K"), call(api.CallS, "K", "s", "()V"), at("", ":K"), api.OK)
	step(t, x, void, at("", ":K"), call(api.CallS, "K", "t", "()V"), at("", ":K"), api.OK)
	step(t, x, void, at("", ":K"), call(api.CallI, "K", "m", "()V"), at("", ""), api.OK)
	step(t, x, void, at("", ":K"), call(api.CallX, "K", "m", "()V"), at("", ""), api.OK)
	step(t, x, void, at("", ":K"), call(api.CallV, "K", "m", "()V"), api.Frame{}, api.ErrCode)
	step(t, x, void, at("", ":C"), call(api.CallS, "C", "t", "()V"), at("", ":C"), api.OK)
	step(t, x, void, at("", ":C"), call(api.CallV, "C", "t", "()V"), api.Frame{}, api.ErrCode)
}

func TestP12_2CallsOfNone(t *testing.T) {
	for _, o := range []int{api.CallV, api.CallI, api.CallX, api.CallS} {
		for _, i := range []api.Instr{
			call(o, "gone", "m", "()V"), call(o, "A", "x", "()V"), call(o, "A", "m", "()I"), call(o, "Object", "m", "()V"), call(o, "I", "m", "()V"), call(o, "A", "i", "()V"), call(o, "gone", "clinit", "()V"), call(o, "Object", "clinit", "()V"), call(o, "A", "clinit", "()I"),
		} {
			fails(t, i, api.ErrMissing, "I", ":A", "T")
		}
		fails(t, call(o, "A", "m", "(IS)V"), api.ErrMissing, ":A S I", "T T T")
		fails(t, call(o, "gone", "m", "(IS)V"), api.ErrStack, "", "I")
	}
	fails(t, call(api.CallV, "A", "m", "(IS)V"), api.ErrStack, "", ":A", ":A I")
	fails(t, call(api.CallS, "A", "m", "(IS)V"), api.ErrStack, "", "I")
	fails(t, call(api.CallS, "A", "m", "(IS)V"), api.ErrMissing, "I S")
}

func TestP12_2Clinit(t *testing.T) {
	for _, c := range []string{"A", "B", "D"} {
		for _, o := range []int{api.CallV, api.CallI, api.CallX, api.CallS} {
			fails(t, call(o, c, "clinit", "()V"), api.ErrCode, ":A", "I")
		}
		fails(t, call(api.CallS, c, "clinit", "()V"), api.ErrCode, "")
		fails(t, call(api.CallX, c, "clinit", "()V"), api.ErrStack, "")
	}
	// By its name, whatever it takes and tells, and whether it may be so or not.
	x := tree.New(api.Archive{Classes: []api.Class{{Name: "C", Super: "Object", Kind: api.Plain, Methods: []api.Method{method("clinit", "I", "I", false, false)}}}})
	for _, o := range []int{api.CallV, api.CallX} {
		step(t, x, tells("V"), at("", ":C I"), call(o, "C", "clinit", "(I)I"), api.Frame{}, api.ErrCode)
	}
}

func TestP12_2Throw(t *testing.T) {
	for _, v := range []string{":Fault", ":NullFault", ":E", "N"} {
		goes(t, in(api.Throw), "I "+v, "I")
	}
	fails(t, in(api.Throw), api.ErrStack, "")
	fails(t, in(api.Throw), api.ErrType, "I", "T", "A", ":Object", ":A", ":gone")
}

func TestP12_2Ret(t *testing.T) {
	x := wood()
	for _, l := range [][2]string{{"I", "I"}, {"S", "S"}, {"A", "A"}, {"A", "N"}, {":A", ":D"}, {":A", "N"}, {":I", ":B"}, {":Object", ":I"}} {
		step(t, x, tells(l[0]), at("I", "S "+l[1]), in(api.Ret), at("I", "S"), api.OK)
		step(t, x, tells(l[0]), at("I", l[1]), in(api.RetV), api.Frame{}, api.ErrCode)
		step(t, x, tells(l[0]), at("I", ""), in(api.RetV), api.Frame{}, api.ErrCode)
		step(t, x, tells(l[0]), at("I", ""), in(api.Ret), api.Frame{}, api.ErrStack)
	}
	for _, l := range [][2]string{{"I", "S"}, {"S", "N"}, {"A", ":Object"}, {":B", ":A"}, {":Object", "A"}, {":A", "T"}, {"I", "T"}, {"T", "T"}} {
		step(t, x, tells(l[0]), at("I", "S "+l[1]), in(api.Ret), api.Frame{}, api.ErrType)
	}
	for _, s := range []string{"I", "S V", "T"} {
		step(t, x, tells("V"), at("I", s), in(api.Ret), api.Frame{}, api.ErrCode)
		step(t, x, tells("V"), at("I", s), in(api.RetV), at("I", s), api.OK)
	}
	step(t, x, tells("V"), at("I", ""), in(api.Ret), api.Frame{}, api.ErrStack) // one value, whatever m's Ret is
	step(t, x, tells("V"), at("I", ""), in(api.RetV), at("I", ""), api.OK)
	// Void is by its Kind.
	void := api.Method{Ret: api.Type{Kind: api.Void, Class: "A"}}
	step(t, x, void, at("", "I"), in(api.RetV), at("", "I"), api.OK)
	step(t, x, void, at("", "I"), in(api.Ret), api.Frame{}, api.ErrCode)
	step(t, x, api.Method{}, at("", "I"), in(api.RetV), api.Frame{}, api.ErrCode)
	step(t, x, api.Method{}, at("", "I"), in(api.Ret), api.Frame{}, api.ErrType)
}

// What m has beside its Ret is nothing to a Step.
func TestP12_2AnyMethod(t *testing.T) {
	for _, m := range []api.Method{{}, {Static: true, Ret: one("V")}, {Abstract: true, Locals: -1, Ret: one(":A")}, {Name: "clinit", Params: types("I"), Code: []api.Instr{in(api.Pop)}}} {
		step(t, wood(), m, at("I", "I I"), in(api.Add), at("I", "I"), api.OK)
		step(t, wood(), m, at("I", "I"), local(api.Jump, 9), at("I", "I"), api.OK)
		step(t, wood(), m, at("I", "S"), local(api.Store, 0), at("S", ""), api.OK)
	}
}

// Arguments that may not be come ahead of all else.
func TestP12_2NotReached(t *testing.T) {
	for o := range api.Ops {
		for _, f := range []api.Frame{{}, never("I", ""), never("I I I", "I I I"), never("", "T")} {
			step(t, wood(), tells("I"), f, in(o), api.Frame{}, api.ErrCode)
			step(t, wood(), tells("V"), f, api.Instr{Op: o, Class: "gone", Name: "m", Desc: "()V"}, api.Frame{}, api.ErrCode)
		}
	}
	step(t, wood(), tells("V"), never("I", "T"), local(api.Load, 0), api.Frame{}, api.ErrCode)
	step(t, wood(), tells("V"), never("", ""), of(api.New, "gone"), api.Frame{}, api.ErrCode)
}

func TestP12_2NotRight(t *testing.T) {
	wrong := []api.Instr{
		in(0), in(-1), in(api.Ops), in(1 << 40), local(api.Load, -1), local(api.Store, -1), local(api.Store, api.MaxCode+1), local(api.Jump, -1), local(api.JumpZ, api.MaxCode+1),
		{Op: api.PushS, S: strings.Repeat("a", api.MaxText+1)}, {Op: api.PushN, N: 1}, {Op: api.Pop, K: 1}, {Op: api.Dup, S: "a"}, {Op: api.Add, Class: "A"}, {Op: api.RetV, Name: "m"}, {Op: api.PushI, Desc: "()V"},
		of(api.New, ""), of(api.Cast, "1"), of(api.Is, "a b"), {Op: api.New, Class: "B", Name: "m"}, mem(api.GetF, "A", ""), mem(api.PutS, "", "s"), {Op: api.GetS, Class: "A", Name: "s", Desc: "()V"},
		call(api.CallV, "A", "m", ""), call(api.CallS, "A", "v", "()"), call(api.CallX, "A", "m", "(V)V"), call(api.CallI, "", "i", "(I)I"), call(api.CallS, "A", "w", "(IIIIIIIII)I"), {Op: api.CallV, Class: "A", Name: "m", Desc: "()V", K: 1},
	}
	for _, i := range wrong {
		fails(t, i, api.ErrCode, "", "I", ":A", "T T T", "I I I", strings.Repeat("I ", api.MaxStack+9))
	}
}

// Where several errors apply: too few, missing, ErrCode, types, too many.
func TestP12_2Order(t *testing.T) {
	full := strings.Repeat("I ", api.MaxStack)
	fails(t, mem(api.PutF, "A", "x"), api.ErrStack, "T")
	fails(t, call(api.CallV, "I", "i", "(I)I"), api.ErrStack, "T")
	fails(t, call(api.CallV, "I", "gone", "(I)I"), api.ErrMissing, "T T")
	fails(t, call(api.CallV, "I", "i", "(I)I"), api.ErrCode, "T T", full+full)
	fails(t, of(api.New, "gone"), api.ErrMissing, full)
	fails(t, of(api.New, "A"), api.ErrCode, full)
	fails(t, mem(api.GetS, "A", "x"), api.ErrMissing, full)
	fails(t, local(api.Load, 1), api.ErrType, full)
	fails(t, local(api.Load, 9), api.ErrCode, full)
	fails(t, in(api.Neg), api.ErrType, full+"I S")
	fails(t, in(api.Neg), api.ErrStack, full+"S I")
	fails(t, in(api.Ret), api.ErrStack, "")
	fails(t, in(api.Ret), api.ErrCode, "T", full+"T T")
	step(t, wood(), tells("I"), at("", full+"I"), in(api.RetV), api.Frame{}, api.ErrCode)
	fails(t, in(api.RetV), api.ErrStack, full+"I")
}

// A Stack behind it of MaxStack may be, and not one of one more, whatever was ahead.
func TestP12_2MaxStack(t *testing.T) {
	below := func(n int, top string) string { return strings.Repeat("I ", n) + top }
	most := api.MaxStack
	for _, i := range []api.Instr{in(api.PushI), in(api.Read), local(api.Load, 0), in(api.Dup)} {
		goes(t, i, below(most-1, ""), below(most, ""))
		fails(t, i, api.ErrStack, below(most, ""), below(most+1, ""))
	}
	goes(t, of(api.New, "B"), below(most-1, ""), below(most-1, ":B"))
	fails(t, of(api.New, "B"), api.ErrStack, below(most, ""))
	goes(t, mem(api.GetS, "A", "s"), below(most-1, ""), below(most-1, "S"))
	fails(t, mem(api.GetS, "A", "s"), api.ErrStack, below(most, ""))
	goes(t, in(api.Add), below(most+1, ""), below(most, ""))
	fails(t, in(api.Add), api.ErrStack, below(most+2, ""))
	goes(t, in(api.Pop), below(most+1, ""), below(most, ""))
	fails(t, in(api.Pop), api.ErrStack, below(most+2, ""))
	goes(t, local(api.Jump, 0), below(most, ""), below(most, ""))
	fails(t, local(api.Jump, 0), api.ErrStack, below(most+1, ""))
	goes(t, call(api.CallS, "A", "v", "()V"), below(most, ""), below(most, ""))
	fails(t, call(api.CallS, "A", "v", "()V"), api.ErrStack, below(most+1, ""))
	goes(t, call(api.CallS, "A", "w", "(IIIIIIII)I"), below(most+7, ""), below(most, ""))
	fails(t, call(api.CallS, "A", "w", "(IIIIIIII)I"), api.ErrStack, below(most+8, ""))
	goes(t, in(api.RetV), below(most, ""), below(most, ""))
	step(t, wood(), tells("I"), at("", below(most+1, "")), in(api.Ret), at("", below(most, "")), api.OK)
	step(t, wood(), tells("I"), at("", below(most+2, "")), in(api.Ret), api.Frame{}, api.ErrStack)
}

// A tree nil is one of no classes: those that are there of themselves are.
func TestP12_2TreeNil(t *testing.T) {
	for _, x := range []*tree.Tree{nil, tree.New(api.Archive{})} {
		v := tells("V")
		step(t, x, v, at("", ""), of(api.New, "Fault"), at("", ":Fault"), api.OK)
		step(t, x, v, at("", ""), of(api.New, "B"), api.Frame{}, api.ErrMissing)
		step(t, x, v, at("", "N"), of(api.Cast, "Object"), at("", ":Object"), api.OK)
		step(t, x, v, at("", ":Fault"), of(api.Is, "NullFault"), at("", "I"), api.OK)
		step(t, x, v, at("", ":A"), of(api.Is, "NullFault"), api.Frame{}, api.ErrType)
		step(t, x, v, at("", "N"), of(api.Cast, "B"), api.Frame{}, api.ErrMissing)
		step(t, x, v, at("", "N"), mem(api.GetF, "Object", "i"), api.Frame{}, api.ErrMissing)
		step(t, x, v, at("", "N"), mem(api.PutS, "A", "s"), api.Frame{}, api.ErrMissing)
		for _, o := range []int{api.CallV, api.CallI, api.CallX, api.CallS} {
			step(t, x, v, at("", "N"), call(o, "A", "m", "()V"), api.Frame{}, api.ErrMissing)
		}
		step(t, x, v, at("", ":ZeroFault"), in(api.Throw), at("", ""), api.OK)
		step(t, x, tells(":Fault"), at("", ":ZeroFault"), in(api.Ret), at("", ""), api.OK)
		step(t, x, tells(":A"), at("", ":A"), in(api.Ret), at("", ""), api.OK)
	}
}
