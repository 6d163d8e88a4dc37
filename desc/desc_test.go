package desc_test

import (
	"math"
	"slices"
	"strings"
	"testing"

	"bonsai/api"
	"bonsai/desc"
)

var (
	tInt  = api.Type{Kind: api.Int}
	tStr  = api.Type{Kind: api.Str}
	tArr  = api.Type{Kind: api.Arr}
	tVoid = api.Type{Kind: api.Void}
	tNull = api.Type{Kind: api.Null}
	tTop  = api.Type{Kind: api.Top}
)

func ref(class string) api.Type { return api.Type{Kind: api.Ref, Class: class} }

// longest is a name of as many bytes as one may have.
func longest() string { return "n" + strings.Repeat("9", api.MaxName-1) }

func TestP2_1Name(t *testing.T) {
	for _, s := range []string{"a", "z", "A", "Z", "Object", "a_", "a__b", "a0", "z9", "A_9z", "clinit", longest()} {
		if !desc.Name(s) {
			t.Errorf("Name(%q): false", s)
		}
	}
	for _, s := range []string{"", "_", "_a", "0", "9a", longest() + "9", strings.Repeat("a", 100000), " ", "a ", " a", "a.b", "a;", ";", "a/b", "a-b", "a$", "(", "a\x00", "a\n", "é", "aé", "a\xff", "\xff", "αβ", "a٣", "ａ"} {
		if desc.Name(s) {
			t.Errorf("Name(%q): true", s)
		}
	}
}

// Each byte by itself, as the first one and behind a letter.
func TestP2_1NameBytes(t *testing.T) {
	const letters = "abcdefghijklmnopqrstuvwxyzABCDEFGHIJKLMNOPQRSTUVWXYZ"
	for c := range 256 {
		s := string([]byte{byte(c)})
		if got, want := desc.Name(s), strings.Contains(letters, s); got != want {
			t.Errorf("Name(%q): %t", s, got)
		}
		for _, x := range []string{"a" + s, "a" + s + "b"} {
			if got, want := desc.Name(x), strings.Contains(letters+"0123456789_", s); got != want {
				t.Errorf("Name(%q): %t", x, got)
			}
		}
	}
}

func rights() []api.Type {
	return []api.Type{tInt, tStr, tArr, tVoid, ref("a"), ref("I"), ref("L"), ref("Object"), ref("A_9z"), ref(longest())}
}

// wrongs are of no archive; some of them have the Type of a Right one nevertheless.
func wrongs() []api.Type {
	return []api.Type{
		{}, tNull, tTop, {Kind: -1}, {Kind: api.Top + 1}, {Kind: math.MaxInt}, {Kind: math.MinInt}, {Class: "a"},
		{Kind: api.Int, Class: "a"}, {Kind: api.Str, Class: "a"}, {Kind: api.Arr, Class: "a"}, {Kind: api.Void, Class: "a"}, {Kind: api.Int, Class: " "},
		{Kind: api.Null, Class: "a"}, {Kind: api.Top, Class: "a"},
		ref(""), ref("9"), ref("_a"), ref("a;"), ref("a;I"), ref("é"), ref(longest() + "9"),
	}
}

func TestP2_1Right(t *testing.T) {
	for _, x := range rights() {
		if !desc.Right(x) {
			t.Errorf("Right(%v): false", x)
		}
	}
	for _, x := range wrongs() {
		if desc.Right(x) {
			t.Errorf("Right(%v): true", x)
		}
	}
}

func TestP2_1Type(t *testing.T) {
	for _, x := range []struct {
		t    api.Type
		want string
	}{
		{tInt, "I"},
		{tStr, "S"},
		{tArr, "A"},
		{tVoid, "V"},
		{ref("a"), "La;"},
		{ref("Object"), "LObject;"},
		{ref(""), "L;"},
		{ref("a;b"), "La;b;"},
		{ref("\xff"), "L\xff;"},
		{ref(strings.Repeat("x", 1000)), "L" + strings.Repeat("x", 1000) + ";"},
		{api.Type{Kind: api.Int, Class: "a"}, "I"},
		{api.Type{Kind: api.Str, Class: "a"}, "S"},
		{api.Type{Kind: api.Arr, Class: "a"}, "A"},
		{api.Type{Kind: api.Void, Class: "a"}, "V"},
		{api.Type{}, ""},
		{tNull, ""},
		{tTop, ""},
		{api.Type{Kind: api.Null, Class: "a"}, ""},
		{api.Type{Kind: api.Top, Class: "a"}, ""},
		{api.Type{Kind: api.Top + 1, Class: "a"}, ""},
		{api.Type{Kind: -1}, ""},
		{api.Type{Kind: math.MaxInt}, ""},
		{api.Type{Kind: math.MinInt}, ""},
	} {
		if got := desc.Type(x.t); got != x.want {
			t.Errorf("Type(%v): %q, not %q", x.t, got, x.want)
		}
	}
}

func TestP2_1One(t *testing.T) {
	for _, x := range rights() {
		if got, ok := desc.One(desc.Type(x)); got != x || !ok {
			t.Errorf("One(%q): %v, %t", desc.Type(x), got, ok)
		}
	}
	for _, s := range []string{"", "i", "N", "T", "X", "II", "IS", "VV", " I", "I ", "I;", "L", ";", "L;", "LI", "La", "La;;", "La;b;", "La;I", "ILa;", "LLa", "L9;", "L_a;", "La b;", "Lé;", "La\xff;", "L" + longest() + "9;", "L" + strings.Repeat("a", 100000) + ";", "(I)", "()V", "\x00", "\xff"} {
		if got, ok := desc.One(s); got != (api.Type{}) || ok {
			t.Errorf("One(%q): %v, %t", s, got, ok)
		}
	}
}

func TestP2_1Of(t *testing.T) {
	for _, x := range []struct {
		params []api.Type
		ret    api.Type
		want   string
	}{
		{nil, tVoid, "()V"},
		{[]api.Type{}, tVoid, "()V"},
		{[]api.Type{tInt, tStr}, tVoid, "(IS)V"},
		{[]api.Type{tStr, tInt}, tArr, "(SI)A"},
		{[]api.Type{ref("a"), tArr, ref("B")}, ref("Object"), "(La;ALB;)LObject;"},
		{[]api.Type{tVoid, tVoid}, tInt, "(VV)I"},
		{[]api.Type{tNull, tInt, {}, tTop}, tTop, "(I)"},
		{[]api.Type{{Kind: api.Int, Class: "x"}, ref("a;")}, api.Type{Kind: api.Void, Class: "x"}, "(ILa;;)V"},
		{nil, api.Type{}, "()"},
		{slices.Repeat([]api.Type{tInt}, 300), tInt, "(" + strings.Repeat("I", 300) + ")I"},
	} {
		if got := desc.Of(x.params, x.ret); got != x.want {
			t.Errorf("Of(%v, %v): %q, not %q", x.params, x.ret, got, x.want)
		}
	}
}

func TestP2_1Parse(t *testing.T) {
	full := slices.Repeat([]api.Type{ref(longest())}, api.MaxParams)
	for _, x := range []struct {
		s      string
		params []api.Type
		ret    api.Type
	}{
		{"()V", nil, tVoid},
		{"()I", nil, tInt},
		{"()La;", nil, ref("a")},
		{"(IS)V", []api.Type{tInt, tStr}, tVoid},
		{"(La;ALB;)LObject;", []api.Type{ref("a"), tArr, ref("B")}, ref("Object")},
		{"(LI;I)S", []api.Type{ref("I"), tInt}, tStr},
		{"(LV;)A", []api.Type{ref("V")}, tArr},
		{"(IIIIIIII)I", slices.Repeat([]api.Type{tInt}, api.MaxParams), tInt},
		{desc.Of(full, full[0]), full, full[0]},
	} {
		params, ret, ok := desc.Parse(x.s)
		if !slices.Equal(params, x.params) || ret != x.ret || !ok {
			t.Errorf("Parse(%q): %v, %v, %t", x.s, params, ret, ok)
		}
	}
	for _, s := range []string{
		"", "(", ")", "()", "V", "I", "(V", ")V", "((", "((I)V", "(()V", "())V", "()()V", "(I)", "(I", "(IV", "IV", "I)V", "(I)VV", "(I)II", "()V ", " ()V", "( )V", "(I,S)V", "(I;)V",
		"(V)V", "(IV)I", "(VI)I", "(N)V", "(T)V", "()N", "()T", "(X)V", "()X", "()(", "())",
		"(IIIIIIIII)I", "(" + strings.Repeat("La;", api.MaxParams+1) + ")V", "(" + strings.Repeat("I", 100000) + ")V", "(IIIIIIIIV)I",
		"(L)V", "(L;)V", "(La)V", "(La;;)V", "(La;b;)V", "(L9;)V", "()L", "()L;", "()La", "()La;;", "()La;I", "(L" + longest() + "9;)V", "()L" + longest() + "9;", "(La)I;)V", "(La(;)V", "(Lé;)V", "(\xff)V", "a()V",
	} {
		if params, ret, ok := desc.Parse(s); len(params) != 0 || ret != (api.Type{}) || ok {
			t.Errorf("Parse(%q): %v, %v, %t", s, params, ret, ok)
		}
	}
}

// texts tells all texts of these letters that have at most so many.
func texts(letters string, most int) []string {
	out, begin := []string{""}, 0
	for range most {
		end := len(out)
		for _, s := range out[begin:end] {
			for _, c := range letters {
				out = append(out, s+string(c))
			}
		}
		begin = end
	}
	return out
}

type sig struct {
	params []api.Type
	ret    api.Type
}

// sigs tells all right ones whose Of has at most so many bytes, of those letters alone that the test asks for.
func sigs(most int) map[string]sig {
	kinds := []api.Type{tInt, tVoid}
	for _, class := range texts("ILV", most-len("()L;"))[1:] {
		kinds = append(kinds, ref(class))
	}
	out := map[string]sig{}
	var fill func(params []api.Type)
	fill = func(params []api.Type) {
		for _, x := range kinds {
			if s := desc.Of(params, x); len(s) <= most {
				out[s] = sig{params, x}
			}
			if more := append(slices.Clone(params), x); x != tVoid && len(desc.Of(more, tInt)) <= most {
				fill(more)
			}
		}
	}
	fill(nil)
	return out
}

// Of all short texts those are taken, and no others, that are the Of of right types.
func TestP2_1ParseOfAll(t *testing.T) {
	const most = 7
	want := sigs(most)
	for _, s := range texts("()ILV;", most) {
		x, right := want[s]
		if params, ret, ok := desc.Parse(s); !slices.Equal(params, x.params) || ret != x.ret || ok != right {
			t.Errorf("Parse(%q): %v, %v, %t", s, params, ret, ok)
		}
	}
}

func TestP2_1Key(t *testing.T) {
	for _, x := range []struct {
		m    api.Method
		want string
	}{
		{api.Method{}, "()"},
		{api.Method{Name: "clinit", Ret: tVoid}, "clinit()V"},
		{api.Method{Name: "m", Params: []api.Type{tInt, ref("C")}, Ret: tStr}, "m(ILC;)S"},
		{api.Method{Name: "", Params: []api.Type{tVoid}, Ret: tNull}, "(V)"},
		{api.Method{Name: "\xff (", Ret: tArr}, "\xff (()A"},
	} {
		if got := desc.Key(x.m); got != x.want {
			t.Errorf("Key(%v): %q, not %q", x.m, got, x.want)
		}
	}
}

func TestP2_1Same(t *testing.T) {
	lists := [][]api.Type{
		{}, {tInt}, {tStr}, {ref("a")}, {ref("b")}, {ref("")}, {{}}, {tNull}, {tTop}, {{Kind: api.Int, Class: "a"}}, {{Kind: api.Null, Class: "a"}},
		{tInt, tInt}, {tInt, tStr}, {tStr, tInt}, {ref("a"), ref("b")}, {ref("b"), ref("a")}, {tInt, tInt, tInt}, {tNull, tNull},
		slices.Repeat([]api.Type{tInt}, 300),
	}
	for i, a := range lists {
		for j, b := range lists {
			if got := desc.Same(a, slices.Clone(b)); got != (i == j) {
				t.Errorf("Same(%v, %v): %t", a, b, got)
			}
		}
	}
	if !desc.Same(nil, []api.Type{}) || !desc.Same([]api.Type{}, nil) || !desc.Same(nil, nil) || desc.Same(nil, []api.Type{{}}) {
		t.Error("Same of nil")
	}
}

// A method is its name and its types: its Key tells it from each other one, and hangs on nothing else of it.
func TestP2_2Key(t *testing.T) {
	lists := [][]api.Type{nil, {tInt}, {tStr}, {tArr}, {ref("a")}, {ref("b")}, {ref("I")}, {tInt, tInt}, {tInt, ref("a")}, {ref("a"), tInt}}
	of := map[string]api.Method{}
	for _, name := range []string{"a", "b", "aI", "ab", "a_", "I", "clinit"} {
		for _, params := range lists {
			for _, ret := range rights() {
				m := api.Method{Name: name, Params: params, Ret: ret}
				k := desc.Key(m)
				if o, ok := of[k]; ok {
					t.Errorf("%v and %v are both %q", o, m, k)
				}
				of[k] = m
				m.Static, m.Abstract, m.Locals = true, true, 9
				m.Code, m.Handlers = []api.Instr{{Op: api.RetV}}, []api.Handler{{Catch: "a"}}
				if got := desc.Key(m); got != k {
					t.Errorf("Key of what else is unlike: %q, not %q", got, k)
				}
				back, r, ok := desc.Parse(strings.TrimPrefix(k, name))
				if !desc.Same(back, params) || r != ret || !ok {
					t.Errorf("Parse behind the name of %q: %v, %v, %t", k, back, r, ok)
				}
			}
		}
	}
}

// DOC.md's rule 3: what is handed in isn't changed, and what is answered is new memory.
func TestListsAreTheCallers(t *testing.T) {
	room := []api.Type{tInt, ref("a"), tStr, tArr}
	given := slices.Clone(room)
	desc.Of(room[:2], room[2])
	desc.Key(api.Method{Name: "m", Params: room[:2], Ret: room[2]})
	desc.Same(room[:2], room[2:])
	if !slices.Equal(room, given) {
		t.Errorf("what was handed in is now %v", room)
	}
	a, _, _ := desc.Parse("(ILa;)V")
	a[0], a[1] = tTop, tTop
	if b, _, ok := desc.Parse("(ILa;)V"); !slices.Equal(b, []api.Type{tInt, ref("a")}) || !ok {
		t.Errorf("Parse again: %v, %t", b, ok)
	}
}
