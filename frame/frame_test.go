package frame_test

import (
	"slices"
	"strings"
	"testing"

	"bonsai/api"
	"bonsai/frame"
	"bonsai/lattice"
	"bonsai/op"
	"bonsai/tree"
)

// kindOf: how these tests write the types that have no Class.
var kindOf = map[string]int{"I": api.Int, "S": api.Str, "A": api.Arr, "V": api.Void, "N": api.Null, "T": api.Top}

// one is a type of its text: a letter of kindOf, or the name of a class behind ":".
func one(s string) api.Type {
	if class, ok := strings.CutPrefix(s, ":"); ok {
		return api.Type{Kind: api.Ref, Class: class}
	}
	k, ok := kindOf[s]
	if !ok {
		panic("no type: " + s)
	}
	return api.Type{Kind: k}
}

// types are those of a text, the last one on top.
func types(s string) []api.Type {
	var l []api.Type
	for _, x := range strings.Fields(s) {
		l = append(l, one(x))
	}
	return l
}

// at is a frame that is Reached.
func at(locals, stack string) api.Frame {
	return api.Frame{Reached: true, Locals: types(locals), Stack: types(stack)}
}

func never(locals, stack string) api.Frame {
	return api.Frame{Locals: types(locals), Stack: types(stack)}
}

func alike(a, b api.Frame) bool {
	return a.Reached == b.Reached && slices.Equal(a.Locals, b.Locals) && slices.Equal(a.Stack, b.Stack)
}

func zero(f api.Frame) bool {
	return !f.Reached && f.Locals == nil && f.Stack == nil
}

func method(name, params, ret string, static, abstract bool) api.Method {
	return api.Method{Name: name, Params: types(params), Ret: one(ret), Static: static, Abstract: abstract}
}

func field(name, of string, static bool) api.Field {
	return api.Field{Name: name, Type: one(of), Static: static}
}

// some are classes that go together: A above B above D; an Interface I of A, J above I; E a fault.
func some() api.Archive {
	return api.Archive{Classes: []api.Class{
		{Name: "A", Super: "Object", Kind: api.Abstract, Ifaces: []string{"I"},
			Fields: []api.Field{field("i", "I", false), field("b", ":B", false), field("s", "S", true), field("r", ":A", true), field("a", "A", false)},
			Methods: []api.Method{
				method("m", "", "V", false, false), method("n", "I S :A", ":B", false, false), method("o", "", "I", false, true),
				method("s", "I :J A", "S", true, false), method("v", "", "V", true, false), method("clinit", "", "V", true, false),
				method("w", "I I I I I I I I", "I", true, false),
			}},
		{Name: "B", Super: "A", Kind: api.Plain, Fields: []api.Field{field("i", "S", false), field("j", ":I", true)},
			Methods: []api.Method{method("o", "", "I", false, false), method("i", "I", "I", false, false), method("j", "", "V", false, false)}},
		{Name: "D", Super: "B", Kind: api.Final, Methods: []api.Method{method("m", "", "V", false, false)}},
		{Name: "E", Super: "ZeroFault", Kind: api.Plain},
		{Name: "I", Super: "Object", Kind: api.Interface, Ifaces: []string{"J"}, Methods: []api.Method{method("i", "I", "I", false, true)}},
		{Name: "J", Super: "Object", Kind: api.Interface, Methods: []api.Method{method("j", "", "V", false, true)}},
	}}
}

func wood() *tree.Tree { return tree.New(some()) }

func entry(t *testing.T, class string, m api.Method, want string) {
	t.Helper()
	if got := frame.Entry(class, m); !alike(got, at(want, "")) {
		t.Errorf("Entry of %q, %v: %v, not %q", class, m, got, want)
	}
}

func TestP12_1Entry(t *testing.T) {
	entry(t, "A", api.Method{}, "")
	entry(t, "A", api.Method{Locals: 1}, ":A")
	entry(t, "A", api.Method{Static: true}, "")
	entry(t, "A", api.Method{Static: true, Locals: 2}, "T T")
	entry(t, "A", api.Method{Params: types("I :B A"), Locals: 4}, ":A I :B A")
	entry(t, "B", api.Method{Params: types("I :B A"), Locals: 6}, ":B I :B A T T")
	entry(t, "B", api.Method{Params: types("S S"), Locals: 2, Static: true}, "S S")
	entry(t, "B", api.Method{Params: types("S"), Locals: 2, Static: true, Ret: one("I")}, "S T")
	full := api.Method{Params: types("I S A :A I S A :I"), Locals: api.MaxLocals}
	entry(t, "I", full, ":I I S A :A I S A :I"+strings.Repeat(" T", api.MaxLocals-9))
	full.Locals++
	entry(t, "gone", full, ":gone I S A :A I S A :I"+strings.Repeat(" T", api.MaxLocals-8))
}

// What the method has beside its types is nothing to it.
func TestP12_1EntryOfAnyMethod(t *testing.T) {
	m := api.Method{Name: "clinit", Params: types("I"), Locals: 3, Abstract: true, Code: []api.Instr{{Op: api.Load, K: 7}}, Handlers: []api.Handler{{At: 9}}}
	entry(t, "", m, ": I T")
	m.Static = true
	entry(t, "", m, "I T T")
	odd := api.Method{Params: []api.Type{{}, {Kind: api.Int, Class: "A"}, {Kind: -1}}, Locals: 5}
	got := frame.Entry("A", odd)
	if want := slices.Concat(types(":A"), odd.Params, types("T")); !slices.Equal(got.Locals, want) {
		t.Errorf("Entry: %v, not %v", got.Locals, want)
	}
}

// As many as m's Locals, also where these are fewer than what a call fills.
func TestP12_1EntryOfFewLocals(t *testing.T) {
	m := api.Method{Params: types("I S A")}
	for k, want := range []string{"", ":A", ":A I", ":A I S", ":A I S A", ":A I S A T"} {
		m.Locals = k
		entry(t, "A", m, want)
	}
	for _, n := range []int{-1, -200, -1 << 62} {
		m.Locals = n
		entry(t, "A", m, "")
	}
}

func TestP12_1Same(t *testing.T) {
	l := []api.Frame{
		{}, {Reached: true}, at("I", ""), at("", "I"), never("I", ""), never("", "I"), at("I S", ""), at("S I", ""), at("I S", "N"), at("I", "S N"),
		at("I S", "T"), at("I S", ":A"), at("I S", ":B"), at("I S", "N N"), never("I S", "N"), at(":A S", "N"),
		{Reached: true, Locals: []api.Type{{Kind: api.Int, Class: "A"}}},
	}
	for i, a := range l {
		for k, b := range l {
			if got := frame.Same(a, b); got != (i == k) {
				t.Errorf("Same of %v, %v: %t", a, b, got)
			}
		}
	}
	none := api.Frame{Reached: true, Locals: []api.Type{}, Stack: []api.Type{}}
	if !frame.Same(none, at("", "")) || !frame.Same(at("", ""), none) {
		t.Error("Same of nil lists and empty ones")
	}
	if !frame.Same(at("I :A", "N S"), at("I :A", "N S")) {
		t.Error("Same of two alike")
	}
}

func joined(t *testing.T, x *tree.Tree, a, b, want api.Frame) {
	t.Helper()
	if got, e := frame.Join(x, a, b); e != api.OK || !alike(got, want) {
		t.Errorf("Join of %v, %v: %v, %d, not %v", a, b, got, e, want)
	}
}

func notJoined(t *testing.T, a, b api.Frame, want api.Errno) {
	t.Helper()
	if got, e := frame.Join(wood(), a, b); e != want || !zero(got) {
		t.Errorf("Join of %v, %v: %v, %d, not %d", a, b, got, e, want)
	}
}

func TestP12_1JoinOfOneNotReached(t *testing.T) {
	x := wood()
	for _, n := range []api.Frame{{}, never("I S", ""), never("I", "S S"), never(":A", "I"), never("", "I")} {
		for _, f := range []api.Frame{at("", ""), at("I S", ""), at("I :A T", "S N"), at(":A", ":B"), {Reached: true, Locals: []api.Type{{Kind: 99}}}} {
			joined(t, x, n, f, f)
			joined(t, x, f, n, f)
			joined(t, nil, n, f, f)
		}
	}
	// Of two that aren't: the second one.
	joined(t, x, never("I", "S"), never("S S", ""), never("S S", ""))
	joined(t, x, never("S S", ""), never("I", "S"), never("I", "S"))
	joined(t, x, never("I", "S"), never("I", "A"), never("I", "A"))
	joined(t, x, never("I", "S"), api.Frame{}, api.Frame{})
	joined(t, x, api.Frame{}, api.Frame{}, api.Frame{})
}

func TestP12_1Join(t *testing.T) {
	x := wood()
	joined(t, x, at("", ""), at("", ""), at("", ""))
	joined(t, x, at("I I", "S"), at("I S", "S"), at("I T", "S"))
	joined(t, x, at("I", "S I"), at("I", "S S"), at("I", "S T"))
	joined(t, x, at(":B N A T", ":D N"), at(":A :B N I", ":B A"), at(":A :B A T", ":B A"))
	joined(t, x, at(":D", ":E"), at(":A", ":B"), at(":A", ":Object"))
	joined(t, x, at(":A :I :E", ""), at(":I :I :NullFault", ""), at(":Object :I :Fault", ""))
	joined(t, x, at(":A N", ""), at("A :gone", ""), at("T :gone", ""))
	joined(t, nil, at(":SizeFault N :B", "I"), at(":E :B :B", "S"), at(":Object :B :B", "T"))
	joined(t, nil, at("", ":SizeFault"), at("", ":ZeroFault"), at("", ":Fault"))
	full := strings.Repeat(" I", 300)
	joined(t, x, at(full, full+" S"), at(full, full+" A"), at(full, full+" T"))
}

// Each value stands at the place of its two, and each of them as lattice has it.
func TestP12_1JoinOfAllTypes(t *testing.T) {
	x := wood()
	var a, b, want []api.Type
	for _, p := range types("I S A V N T :A :B :D :E :I :J :Object :Fault :gone :") {
		for _, q := range types("I S A V N T :A :B :D :E :I :J :Object :Fault :gone :") {
			a, b, want = append(a, p), append(b, q), append(want, lattice.Join(x, p, q))
		}
	}
	joined(t, x, api.Frame{Reached: true, Locals: a, Stack: b}, api.Frame{Reached: true, Locals: b, Stack: b}, api.Frame{Reached: true, Locals: want, Stack: b})
	joined(t, x, api.Frame{Reached: true, Locals: a, Stack: a}, api.Frame{Reached: true, Locals: a, Stack: b}, api.Frame{Reached: true, Locals: a, Stack: want})
}

// Join hangs on the order of its two where the lattice does.
func TestP12_1JoinOrder(t *testing.T) {
	class := func(name, super string) api.Class { return api.Class{Name: name, Super: super, Kind: api.Plain} }
	x := tree.New(api.Archive{Classes: []api.Class{class("C", "D"), class("D", "E"), class("E", "C"), class("F", "D")}})
	joined(t, x, at(":F", ":C"), at(":C", ":F"), at(":D", ":C"))
	joined(t, x, at(":C", ":F"), at(":F", ":C"), at(":C", ":D"))
}

func TestP12_1JoinOfUnlikeMany(t *testing.T) {
	for _, l := range [][2]string{{"", "I"}, {"I", "I I"}, {"N", ""}, {"I S A", "I S"}, {strings.Repeat("I ", 199), strings.Repeat("I ", 200)}} {
		for _, k := range []int{0, 1} {
			notJoined(t, at("I", l[k]), at("I", l[1-k]), api.ErrStack)
			notJoined(t, at(l[k], "I"), at(l[1-k], "I"), api.ErrCode)
			notJoined(t, at(l[k], l[k]), at(l[1-k], l[1-k]), api.ErrStack) // named first
			notJoined(t, at(l[k], l[1-k]), at(l[1-k], l[k]), api.ErrStack)
		}
	}
	notJoined(t, at("I", "S"), at("S", "S S"), api.ErrStack)
	notJoined(t, at("I S", ""), at("I", ""), api.ErrCode)
}

func TestP12_1Caught(t *testing.T) {
	for _, f := range []api.Frame{at("", ""), at("I :A T", ""), at("N", "I S A"), never("", ""), never("I S", "N"), at("", strings.Repeat("I ", api.MaxStack))} {
		for _, catch := range []string{"Fault", "E", "gone", "", "Object", "A b"} {
			want := api.Frame{Reached: f.Reached, Locals: f.Locals, Stack: []api.Type{{Kind: api.Ref, Class: catch}}}
			if got := frame.Caught(f, catch); !alike(got, want) {
				t.Errorf("Caught of %v, %q: %v", f, catch, got)
			}
		}
	}
}

// roomy is f with lists that have spare room.
func roomy(f api.Frame) api.Frame {
	f.Locals = append(make([]api.Type, 0, 50), f.Locals...)
	f.Stack = append(make([]api.Type, 0, 50), f.Stack...)
	return f
}

func stays(t *testing.T, what string, f, was api.Frame) {
	t.Helper()
	room := func(l []api.Type) bool {
		return !slices.ContainsFunc(l[len(l):50], func(x api.Type) bool { return x != api.Type{} })
	}
	if !alike(f, was) || !room(f.Locals) || !room(f.Stack) {
		t.Errorf("%s: changed: %v of %v", what, f, was)
	}
}

func scrawl(f api.Frame) {
	for _, l := range [][]api.Type{f.Locals, f.Stack} {
		l = l[:cap(l)]
		for k := range l {
			l[k] = one(":scrawl")
		}
	}
}

// DOC.md, rule 3: what is handed in is neither changed nor kept, its spare room included; what is answered is new memory, and no two lists of it share any.
func TestHandedInStays(t *testing.T) {
	x := wood()
	f, n := at("I :A S", ":A I S"), never("I I I", "I")
	calls := map[string]func(f, n api.Frame) api.Frame{
		"Caught": func(f, n api.Frame) api.Frame { return frame.Caught(f, "E") },
		"Join 1": func(f, n api.Frame) api.Frame { g, _ := frame.Join(x, f, n); return g },
		"Join 2": func(f, n api.Frame) api.Frame { g, _ := frame.Join(x, n, f); return g },
		"Join 3": func(f, n api.Frame) api.Frame { g, _ := frame.Join(x, f, f); return g },
		"Join 4": func(f, n api.Frame) api.Frame { g, _ := frame.Join(x, n, n); return g },
		"Same":   func(f, n api.Frame) api.Frame { frame.Same(f, n); return api.Frame{} },
	}
	for _, i := range []api.Instr{{Op: api.PushI}, {Op: api.Store, K: 2}, {Op: api.Load, K: 1}, {Op: api.Dup}, {Op: api.Pop}, {Op: api.Len}, {Op: api.Jump}, {Op: api.CallV, Class: "A", Name: "n", Desc: "(ISLA;)LB;"}, {Op: api.Exit}} {
		calls["Step "+op.Name(i.Op)] = func(f, n api.Frame) api.Frame { g, _ := frame.Step(x, api.Method{}, f, i); return g }
	}
	for what, do := range calls {
		a, b := roomy(f), roomy(n)
		got := do(a, b)
		stays(t, what, a, f)
		stays(t, what, b, n)
		want := do(f, n)
		scrawl(a)
		scrawl(b)
		if !alike(got, want) {
			t.Errorf("%s: kept: %v, not %v", what, got, want)
		}
		locals := slices.Clone(got.Locals)
		scrawl(api.Frame{Stack: got.Stack})
		if !slices.Equal(got.Locals, locals) {
			t.Errorf("%s: its lists share", what)
		}
		scrawl(got)
		if again := do(f, n); !alike(again, want) {
			t.Errorf("%s: shared: %v, not %v", what, again, want)
		}
	}
}

func TestEntryIsNew(t *testing.T) {
	params := append(make([]api.Type, 0, 9), types("I S")...)
	m := api.Method{Params: params, Locals: 2, Static: true}
	a, b := frame.Entry("A", m), frame.Entry("A", m)
	scrawl(a)
	if !slices.Equal(params[:9], append(types("I S"), make([]api.Type, 7)...)) || !alike(b, at("I S", "")) {
		t.Errorf("shared: %v, %v", params[:9], b)
	}
	scrawl(api.Frame{Stack: params})
	if !alike(b, at("I S", "")) {
		t.Errorf("kept: %v", b)
	}
}
