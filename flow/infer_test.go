package flow_test

import (
	"slices"
	"strings"
	"testing"

	"bonsai/api"
	"bonsai/arc"
	"bonsai/flow"
	"bonsai/tree"
)

// kindOf: how these tests write the types that have no Class.
var kindOf = map[string]int{"I": api.Int, "S": api.Str, "A": api.Arr, "V": api.Void, "N": api.Null, "T": api.Top}

// one is a type of its text: a letter of kindOf, or the name of a class behind ":".
func one(s string) api.Type {
	if class, ok := strings.CutPrefix(s, ":"); ok {
		return api.Type{Kind: api.Ref, Class: class}
	}
	k, ok := kindOf[s]
	if !ok {
		panic("no type: " + s)
	}
	return api.Type{Kind: k}
}

func types(s string) []api.Type {
	var l []api.Type
	for _, x := range strings.Fields(s) {
		l = append(l, one(x))
	}
	return l
}

// known is a frame of its text: Locals, "|", the Stack; "-" where nobody comes.
func known(s string) api.Frame {
	locals, stack, ok := strings.Cut(s, "|")
	if !ok {
		return api.Frame{}
	}
	return api.Frame{Reached: true, Locals: types(locals), Stack: types(stack)}
}

func alike(a, b api.Frame) bool {
	return a.Reached == b.Reached && slices.Equal(a.Locals, b.Locals) && slices.Equal(a.Stack, b.Stack)
}

// some are classes that go together: B and C below A; F below E, a fault; J an Interface of B, C.
func some() api.Archive {
	take := api.Method{Name: "take", Params: types(":A"), Ret: one("V"), Static: true}
	far := api.Method{Name: "far", Ret: one("I")}
	return api.Archive{Classes: []api.Class{
		{Name: "A", Super: "Object", Kind: api.Plain, Fields: []api.Field{{Name: "n", Type: one(":A")}}, Methods: []api.Method{take, far}},
		{Name: "B", Super: "A", Kind: api.Plain, Ifaces: []string{"J"}},
		{Name: "C", Super: "A", Kind: api.Plain, Ifaces: []string{"J"}},
		{Name: "E", Super: "Fault", Kind: api.Plain, Ifaces: []string{"J"}},
		{Name: "F", Super: "E", Kind: api.Plain},
		{Name: "J", Super: "Object", Kind: api.Interface},
	}}
}

func wood() *tree.Tree { return tree.New(some()) }

// tells asks for the frames of a method of A, in the order of its code.
func tells(t *testing.T, m api.Method, want ...string) {
	t.Helper()
	got, at, e := flow.Infer(wood(), "A", m)
	if at != 0 || e != api.OK || len(got) != len(want) {
		t.Fatalf("Infer of %v: %v, %d, %d", m, got, at, e)
	}
	for k, s := range want {
		if !alike(got[k], known(s)) {
			t.Errorf("Infer of %v: %v at %d, not %q", m, got[k], k, s)
		}
	}
}

func fails(t *testing.T, m api.Method, at int, e api.Errno) {
	t.Helper()
	failsIn(t, wood(), m, at, e)
}

func failsIn(t *testing.T, x *tree.Tree, m api.Method, at int, e api.Errno) {
	t.Helper()
	if l, k, err := flow.Infer(x, "A", m); l != nil || k != at || err != e {
		t.Errorf("Infer of %v: %v, %d, %d, not %d, %d", m, l, k, err, at, e)
	}
}

func TestP13_2One(t *testing.T) {
	tells(t, static(0, in(api.RetV)), "|")
	tells(t, static(2, in(api.RetV)), "T T|")
	tells(t, api.Method{Ret: one("V"), Locals: 1, Code: []api.Instr{in(api.RetV)}}, ":A|")
	tells(t, api.Method{Params: types("I :B"), Ret: one("V"), Locals: 5, Code: []api.Instr{in(api.RetV)}}, ":A I :B T T|")
}

func TestP13_2Line(t *testing.T) {
	m := static(2, in(api.Read), to(api.Store, 0), of(api.New, "B"), in(api.Dup), to(api.Store, 1), mem(api.GetF, "A", "n"), call(api.CallS, "A", "take", "(LA;)V"), to(api.Load, 0), in(api.Exit))
	tells(t, m, "T T|", "T T|I", "I T|", "I T|:B", "I T|:B :B", "I :B|:B", "I :B|:A", "I :B|", "I :B|I")
}

// Nobody comes behind an end: nothing is known there, and nothing is asked.
func TestP13_2NotReached(t *testing.T) {
	tells(t, static(1, in(api.RetV), in(api.Pop), to(api.Load, 0), of(api.New, "gone"), in(api.Ret)), "T|", "-", "-", "-", "-")
	tells(t, static(0, to(api.Jump, 2), in(api.Add), in(api.PushN), in(api.Throw), to(api.Jump, 1)), "|", "-", "|", "|N", "-")
	tells(t, static(0, in(api.Read), in(api.Exit), in(api.RetV)), "|", "|I", "-")
}

func TestP13_2TwoWays(t *testing.T) {
	m := static(3, in(api.Read), to(api.JumpZ, 6),
		of(api.New, "B"), to(api.Store, 0), in(api.PushN), to(api.Jump, 9),
		of(api.New, "C"), to(api.Store, 0), of(api.New, "E"),
		to(api.Store, 1), to(api.Load, 0), in(api.Pop), in(api.RetV))
	tells(t, m, "T T T|", "T T T|I",
		"T T T|", "T T T|:B", ":B T T|", ":B T T|N",
		"T T T|", "T T T|:C", ":C T T|",
		":A T T|:E", ":A :E T|", ":A :E T|:A", ":A :E T|")
	m.Code[8] = in(api.Read)
	fails(t, m, 9, api.ErrType) // a Top is stored
	m.Code[9] = in(api.Pop)
	tells(t, m, "T T T|", "T T T|I",
		"T T T|", "T T T|:B", ":B T T|", ":B T T|N",
		"T T T|", "T T T|:C", ":C T T|",
		":A T T|T", ":A T T|", ":A T T|:A", ":A T T|")
}

// What a loop brings back is known from its beginning on, once it has come round.
func TestP13_2Loop(t *testing.T) {
	m := static(1, of(api.New, "B"), to(api.Store, 0),
		to(api.Load, 0), in(api.Pop), in(api.Read), to(api.JumpZ, 9),
		of(api.New, "C"), to(api.Store, 0), to(api.Jump, 2),
		in(api.RetV))
	tells(t, m, "T|", "T|:B",
		":A|", ":A|:A", ":A|", ":A|I",
		":A|", ":A|:C", ":C|",
		":A|")
	m.Code[3] = mem(api.GetF, "B", "n")
	m.Code = slices.Insert(m.Code, 4, in(api.Pop))
	m.Code[6].K, m.Code[9].K = 10, 2
	fails(t, m, 3, api.ErrType) // the second time
}

func TestP13_2Self(t *testing.T) {
	tells(t, static(0, to(api.Jump, 0)), "|")
	tells(t, static(1, in(api.PushN), to(api.Store, 0), in(api.Read), to(api.JumpZ, 2), to(api.Jump, 0)), "T|", "T|N", "N|", "N|I", "N|")
	fails(t, static(0, in(api.PushN), to(api.Jump, 0)), 1, api.ErrStack)
	fails(t, static(0, in(api.Read), to(api.JumpZ, 1), in(api.RetV)), 1, api.ErrStack)
}

func TestP13_2Caught(t *testing.T) {
	m := static(2, in(api.Read), to(api.Store, 0), in(api.PushN), to(api.Store, 1), in(api.RetV), in(api.Throw))
	tells(t, with(m, api.Handler{From: 0, To: 5, At: 5, Catch: "F"}), "T T|", "T T|I", "I T|", "I T|N", "I N|", "T T|:F")
	tells(t, with(m, api.Handler{From: 2, To: 5, At: 5, Catch: "Fault"}), "T T|", "T T|I", "I T|", "I T|N", "I N|", "I T|:Fault")
	tells(t, with(m, api.Handler{From: 4, To: 5, At: 5, Catch: "E"}), "T T|", "T T|I", "I T|", "I T|N", "I N|", "I N|:E")
	tells(t, with(m, api.Handler{From: 5, To: 6, At: 5, Catch: "E"}), "T T|", "T T|I", "I T|", "I T|N", "I N|", "-") // nobody throws there
	tells(t, with(m, api.Handler{From: 2, To: 4, At: 5, Catch: "E"}, api.Handler{From: 0, To: 2, At: 5, Catch: "NullFault"}), "T T|", "T T|I", "I T|", "I T|N", "I N|", "T T|:Fault")
	two := with(m, api.Handler{From: 0, To: 2, At: 5, Catch: "E"}, api.Handler{From: 3, To: 4, At: 6, Catch: "F"})
	two.Code = append(slices.Clone(two.Code), in(api.Pop), in(api.RetV))
	tells(t, two, "T T|", "T T|I", "I T|", "I T|N", "I N|", "T T|:E", "I T|:F", "I T|")
}

// A handler may stand within what it is of: what it does is caught by it as well.
func TestP13_2CaughtAgain(t *testing.T) {
	m := with(static(1, in(api.PushN), to(api.Store, 0), in(api.RetV), to(api.Store, 0), in(api.RetV)), api.Handler{From: 1, To: 5, At: 3, Catch: "E"})
	tells(t, m, "T|", "T|N", "N|", "T|:E", ":E|")
	m.Handlers[0].From = 2
	tells(t, m, "T|", "T|N", "N|", ":E|:E", ":E|")
	m.Code[2] = in(api.Read)
	fails(t, m, 3, api.ErrType) // an int or an E is stored
	m.Code[2] = to(api.Jump, 3)
	fails(t, m, 2, api.ErrStack) // with nothing on its Stack, where an E was caught
}

func TestP13_2Refused(t *testing.T) {
	odd := []api.Handler{{From: 0, To: 1, At: 0, Catch: "gone"}}
	fails(t, api.Method{Abstract: true}, -1, api.ErrCode)
	fails(t, api.Method{Abstract: true, Code: []api.Instr{in(api.RetV)}}, -1, api.ErrCode)
	fails(t, api.Method{Abstract: true, Handlers: odd}, -1, api.ErrCode)
	fails(t, api.Method{}, -1, api.ErrCode)
	fails(t, api.Method{Code: []api.Instr{in(api.RetV)}}, -1, api.ErrCode) // no local for its object
	fails(t, static(-1, in(api.RetV)), -1, api.ErrCode)
	fails(t, static(1, to(api.Load, 1), in(api.RetV)), -1, api.ErrCode)
	fails(t, static(1, in(api.RetV), to(api.Store, -1), in(api.RetV)), -1, api.ErrCode)
	fails(t, static(0, in(api.RetV), to(api.Jump, 2)), -1, api.ErrCode)
	fails(t, static(0, to(api.JumpZ, -1), in(api.RetV)), -1, api.ErrCode)
	fails(t, static(0, in(api.RetV), in(api.PushN)), -1, api.ErrCode)
	fails(t, with(static(0, in(api.PushN)), odd...), -1, api.ErrCode)
	for _, h := range []api.Handler{{From: 0, To: 2}, {From: 1, To: 1}, {From: -1, To: 1}, {From: 0, To: 1, At: 1}, {From: 0, To: 1, At: -1}} {
		h.Catch = "Fault"
		fails(t, with(static(0, in(api.RetV)), h), -1, api.ErrCode)
	}
}

func TestP13_2Catch(t *testing.T) {
	m := static(0, in(api.RetV), in(api.Throw))
	of := func(l ...string) api.Method {
		m := m
		for _, c := range l {
			m = with(m, api.Handler{From: 0, To: 1, At: 1, Catch: c})
		}
		return m
	}
	for _, c := range []string{"Fault", "NullFault", "BoundsFault", "CastFault", "ZeroFault", "SizeFault", "E", "F"} {
		tells(t, of(c), "|", "|:"+c)
	}
	fails(t, of("gone"), -1, api.ErrMissing)
	fails(t, of(""), -1, api.ErrMissing)
	for _, c := range []string{"Object", "A", "B", "J"} {
		fails(t, of(c), -1, api.ErrType)
	}
	fails(t, of("E", "A", "gone"), -1, api.ErrType)
	fails(t, of("E", "gone", "A"), -1, api.ErrMissing)
	// Also where nobody comes to what it is of, and ahead of all that is wrong in the code.
	late := static(0, in(api.Pop), in(api.RetV))
	fails(t, with(late, api.Handler{From: 1, To: 2, At: 0, Catch: "A"}), -1, api.ErrType)
	fails(t, with(late, api.Handler{From: 1, To: 2, At: 0, Catch: "gone"}), -1, api.ErrMissing)
	fails(t, with(late, api.Handler{From: 1, To: 2, At: 0, Catch: "E"}), 0, api.ErrStack)
}

// A place is that of the instruction that was taken up: the one that comes, not the one that it comes to.
func TestP13_2Place(t *testing.T) {
	fails(t, static(0, in(api.PushN), in(api.Neg), in(api.RetV)), 1, api.ErrType)
	fails(t, static(0, in(api.PushN), of(api.New, "gone"), in(api.RetV)), 1, api.ErrMissing)
	fails(t, static(0, in(api.PushN), of(api.New, "J"), in(api.RetV)), 1, api.ErrCode)
	fails(t, static(0, in(api.PushN), in(api.Ret)), 1, api.ErrCode)
	fails(t, static(0, in(api.PushN), api.Instr{Op: api.Pop, N: 1}, in(api.RetV)), 1, api.ErrCode) // not op.Right
	fails(t, static(0, in(api.PushN), in(0), in(api.RetV)), 1, api.ErrCode)
	fails(t, static(0, in(api.Read), to(api.JumpZ, 3), in(api.PushN), in(api.RetV)), 2, api.ErrStack)
	fails(t, static(0, in(api.Read), to(api.JumpZ, 4), in(api.PushN), to(api.Jump, 4), in(api.RetV)), 3, api.ErrStack)
}

// Whose frame has changed is taken up in the order of the code, however they changed.
func TestP13_2Least(t *testing.T) {
	// 4 changes ahead of 2 and 3, but 3 is taken up first.
	fails(t, static(0, in(api.Read), to(api.JumpZ, 4), in(api.PushN), in(api.Neg), in(api.Pop), in(api.RetV)), 3, api.ErrType)
	fails(t, static(0, in(api.Read), to(api.JumpZ, 4), in(api.Read), in(api.Exit), in(api.Pop), in(api.RetV)), 4, api.ErrStack)
	// What comes back is taken up again ahead of what is further on: 1 before 6.
	back := static(1, in(api.PushN), to(api.Store, 0), in(api.Read), to(api.JumpZ, 6), in(api.Read), to(api.Jump, 8), in(api.Pop), in(api.RetV), to(api.Store, 0), to(api.Jump, 2))
	fails(t, back, 6, api.ErrStack)
	// 2 is taken up with null, and again with an int, ahead of 9, which fails as well.
	again := static(1, in(api.PushN), to(api.Store, 0), to(api.Load, 0), in(api.Check), in(api.Read), to(api.JumpZ, 9), in(api.Read), to(api.Store, 0), to(api.Jump, 2), in(api.Pop), in(api.RetV))
	fails(t, again, 2, api.ErrType)
}

// Of one that is taken up: its Handlers, in order; what it does; where it goes, in order.
func TestP13_2FirstError(t *testing.T) {
	// 4 is come to with nothing on its Stack; so it can't catch what 2 throws.
	m := static(0, in(api.Read), to(api.JumpZ, 4), in(api.Pop), in(api.RetV), in(api.RetV))
	fails(t, m, 2, api.ErrStack)
	m.Code[2] = of(api.New, "gone")
	fails(t, m, 2, api.ErrMissing)
	fails(t, with(m, api.Handler{From: 2, To: 3, At: 4, Catch: "E"}), 2, api.ErrStack)
	fails(t, with(m, api.Handler{From: 2, To: 3, At: 3, Catch: "E"}, api.Handler{From: 2, To: 3, At: 4, Catch: "E"}), 2, api.ErrStack)
	fails(t, with(m, api.Handler{From: 3, To: 4, At: 4, Catch: "E"}), 2, api.ErrMissing)
	// Also ahead of an error of Step: the second handler brings to 3 what can't be joined.
	m.Code[2] = in(api.Neg)
	fails(t, with(m, api.Handler{From: 2, To: 3, At: 4, Catch: "E"}), 2, api.ErrStack)
	// A frame is as it was when it was taken up: 3 catches itself, and goes on with an int.
	self := with(static(0, in(api.Read), to(api.JumpZ, 4), in(api.Read), in(api.Neg), in(api.RetV)), api.Handler{From: 3, To: 4, At: 3, Catch: "E"})
	fails(t, self, 3, api.ErrStack)
	self.Code[4] = in(api.Pop)
	self.Code = append(self.Code, in(api.RetV))
	self.Code[1] = in(api.Pop)
	fails(t, self, 3, api.ErrType)
}

// A tree nil is one of no classes; so is an odd one taken as it is.
func TestP13_2Trees(t *testing.T) {
	m := with(static(0, of(api.New, "Fault"), in(api.Throw), in(api.Throw)), api.Handler{From: 0, To: 2, At: 2, Catch: "SizeFault"})
	l, at, e := flow.Infer(nil, "A", m)
	if len(l) != 3 || at != 0 || e != api.OK || !alike(l[2], known("|:SizeFault")) {
		t.Errorf("Infer of no tree: %v, %d, %d", l, at, e)
	}
	failsIn(t, nil, with(m, api.Handler{From: 0, To: 1, At: 2, Catch: "E"}), -1, api.ErrMissing)
	failsIn(t, nil, static(0, of(api.New, "A"), in(api.RetV)), 0, api.ErrMissing)
	ring := tree.New(api.Archive{Classes: []api.Class{{Name: "A", Super: "B", Kind: api.Plain}, {Name: "B", Super: "A", Kind: api.Plain}}})
	turns := static(2, of(api.New, "A"), to(api.Store, 0), of(api.New, "B"), to(api.Store, 1), to(api.Load, 0), to(api.Load, 1), to(api.Store, 0), to(api.Store, 1), to(api.Jump, 4))
	if l, at, e := flow.Infer(ring, "A", turns); len(l) != 9 || at != 0 || e != api.OK {
		t.Errorf("Infer of a ring: %v, %d, %d", l, at, e)
	}
}

// Many: one local changes after the other, and each change goes round.
func TestP13_2Many(t *testing.T) {
	m := static(api.MaxLocals)
	for k := range api.MaxLocals {
		m.Code = append(m.Code, in(api.PushN), to(api.Store, k))
	}
	top := len(m.Code)
	for k := range 20 {
		skip := len(m.Code) + 6
		m.Code = append(m.Code, in(api.Read), to(api.JumpZ, skip), of(api.New, "B"), to(api.Store, k), in(api.Read), to(api.JumpZ, top))
	}
	m.Code = append(m.Code, in(api.RetV), in(api.Throw))
	end := len(m.Code) - 1
	for range api.MaxHandlers {
		m = with(m, api.Handler{From: top, To: end, At: end, Catch: "E"})
	}
	l, at, e := flow.Infer(wood(), "A", m)
	if at != 0 || e != api.OK {
		t.Fatalf("Infer: %d, %d", at, e)
	}
	all := strings.Repeat(":B ", 20) + strings.Repeat("N ", api.MaxLocals-20)
	if !alike(l[top], known(all+"|")) || !alike(l[end], known(all+"|:E")) {
		t.Errorf("Infer: %v at the top, %v at the end", l[top], l[end])
	}
}

func TestLeavesWhatIsHandedIn(t *testing.T) {
	m := with(static(2, in(api.PushN), to(api.Store, 0), in(api.RetV), in(api.Throw)), api.Handler{From: 0, To: 3, At: 3, Catch: "E"})
	m.Params = types(":A")
	m.Code = append(m.Code, in(api.Pop))[:4]
	m.Handlers = append(m.Handlers, api.Handler{From: 7})[:1]
	m.Params = append(m.Params, one("T"))[:1]
	was := arc.Copy(api.Archive{Classes: []api.Class{{Methods: []api.Method{m}}}})
	x := wood()
	l, _, _ := flow.Infer(x, "A", m)
	flow.Next(m, 1)
	flow.Handlers(m, 1)
	for _, f := range l {
		wipe(f.Locals)
		wipe(f.Stack)
	}
	if !arc.Same(was, api.Archive{Classes: []api.Class{{Methods: []api.Method{m}}}}) {
		t.Errorf("Infer has changed what it was handed")
	}
	if m.Code[:5][4] != in(api.Pop) || m.Handlers[:2][1].From != 7 || m.Params[:2][1] != one("T") {
		t.Errorf("Infer has changed what is behind what it was handed")
	}
	again, _, _ := flow.Infer(x, "A", m)
	for k, s := range []string{":A T|", ":A T|N", "N T|", ":A T|:E"} {
		if !alike(again[k], known(s)) {
			t.Errorf("Infer again: %v at %d", again[k], k)
		}
	}
}

// wipe writes all over l, the room behind it included.
func wipe(l []api.Type) {
	l = l[:cap(l)]
	for k := range l {
		l[k] = api.Type{Kind: 99}
	}
}

func TestSharesNothing(t *testing.T) {
	m := with(static(2, in(api.Read), to(api.JumpZ, 3), in(api.PushN), to(api.Jump, 6), in(api.Throw), in(api.RetV), in(api.Pop), in(api.RetV)), api.Handler{From: 0, To: 4, At: 4, Catch: "E"}, api.Handler{From: 0, To: 2, At: 4, Catch: "E"})
	m.Code[1].K = 2
	for k := range m.Code {
		l, _, e := flow.Infer(wood(), "A", m)
		was, _, _ := flow.Infer(wood(), "A", m)
		if e != api.OK {
			t.Fatal(e)
		}
		wipe(l[k].Locals)
		wipe(l[k].Stack)
		for j := range m.Code {
			if j != k && !alike(l[j], was[j]) {
				t.Errorf("the frames at %d and %d share", k, j)
			}
		}
	}
}
