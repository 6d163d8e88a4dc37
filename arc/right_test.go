package arc_test

import (
	"math"
	"slices"
	"strings"
	"testing"

	"bonsai/api"
	"bonsai/arc"
	"bonsai/op"
)

// changed tells the sample behind a change of its first class, and of that one's first method.
func changed(change func(*api.Class, *api.Method)) api.Archive {
	a := sample()
	change(&a.Classes[0], &a.Classes[0].Methods[0])
	return a
}

// badNames may not be names.
func badNames() []string {
	return []string{"", "9", "_a", "a b", "a;", "LC;", "é", "\xff", "a\x00", longest() + "9", strings.Repeat("a", 100000)}
}

// asks asks Right, and whether Put thinks so, too.
func asks(t *testing.T, what string, a api.Archive, want bool) {
	t.Helper()
	if got := arc.Right(a); got != want {
		t.Errorf("%s: Right: %t", what, got)
	}
	if got := arc.Put(a); (len(got) > 0) != want {
		t.Errorf("%s: Put tells %d bytes", what, len(got))
	}
}

func TestP5_1Right(t *testing.T) {
	asks(t, "none", api.Archive{}, true)
	asks(t, "no classes", api.Archive{Classes: []api.Class{}}, true)
	asks(t, "the sample", sample(), true)
	asks(t, "a zero class", api.Archive{Classes: make([]api.Class, 1)}, false)
	asks(t, "a zero method", of(api.Method{}), false)
	asks(t, "a method without all that", of(api.Method{Name: "m", Ret: tVoid}), true)
}

// Whether what is written means something is others' business.
func TestP5_1RightMeansNothing(t *testing.T) {
	m := api.Method{Name: "m", Ret: tVoid, Static: true, Abstract: true, Code: []api.Instr{{Op: api.Add}, {Op: api.Load, K: api.MaxCode}}, Handlers: []api.Handler{{From: 9, To: 3, At: api.MaxCode, Catch: "Nobody"}}}
	c := api.Class{Name: "C", Super: "C", Ifaces: []string{"C", "C"}, Kind: api.Interface, Fields: []api.Field{{Name: "f", Type: ref("Nobody")}, {Name: "f", Type: tInt}}, Methods: []api.Method{m, m}}
	asks(t, "nonsense", api.Archive{Classes: []api.Class{c, c, {Name: "Object", Super: "Fault", Kind: api.Plain}}}, true)
}

func TestP5_1RightNames(t *testing.T) {
	for what, change := range map[string]func(*api.Class, *api.Method, string){
		"the Name of a class":  func(c *api.Class, m *api.Method, s string) { c.Name = s },
		"a Super":              func(c *api.Class, m *api.Method, s string) { c.Super = s },
		"an Iface":             func(c *api.Class, m *api.Method, s string) { c.Ifaces[1] = s },
		"the Name of a field":  func(c *api.Class, m *api.Method, s string) { c.Fields[2].Name = s },
		"a field's Class":      func(c *api.Class, m *api.Method, s string) { c.Fields[1].Type.Class = s },
		"the Name of a method": func(c *api.Class, m *api.Method, s string) { m.Name = s },
		"a param's Class":      func(c *api.Class, m *api.Method, s string) { m.Params[1].Class = s },
		"a Ret's Class":        func(c *api.Class, m *api.Method, s string) { m.Ret.Class = s },
		"an instruction's":     func(c *api.Class, m *api.Method, s string) { m.Code[api.New-1].Class = s },
		"a Catch":              func(c *api.Class, m *api.Method, s string) { m.Handlers[1].Catch = s },
	} {
		for _, s := range []string{"a", "Object", "A_9z", longest()} {
			asks(t, what+" "+s, changed(func(c *api.Class, m *api.Method) { change(c, m, s) }), true)
		}
		for _, s := range badNames() {
			asks(t, what+" "+s[:min(len(s), 90)], changed(func(c *api.Class, m *api.Method) { change(c, m, s) }), false)
		}
	}
}

func TestP5_1RightTypes(t *testing.T) {
	wrong := []api.Type{{}, {Kind: api.Null}, {Kind: api.Top}, {Kind: -1}, {Kind: api.Top + 1}, {Kind: math.MaxInt}, {Kind: api.Int, Class: "C"}, {Kind: api.Str, Class: "C"}, {Kind: api.Arr, Class: "C"}, {Kind: api.Void, Class: "C"}, {Class: "C"}, ref(""), ref("9"), ref("a;")}
	values := []api.Type{tInt, tStr, tArr, ref("a"), ref("Nobody")}
	for what, x := range map[string]struct {
		put  func(*api.Class, *api.Method, api.Type)
		void bool
	}{
		"a field's":      {func(c *api.Class, m *api.Method, x api.Type) { c.Fields[1].Type = x }, false},
		"a param's":      {func(c *api.Class, m *api.Method, x api.Type) { m.Params[0] = x }, false},
		"the last one's": {func(c *api.Class, m *api.Method, x api.Type) { m.Params[2] = x }, false},
		"a Ret's":        {func(c *api.Class, m *api.Method, x api.Type) { m.Ret = x }, true},
	} {
		ask := func(kind api.Type, want bool) {
			asks(t, what, changed(func(c *api.Class, m *api.Method) { x.put(c, m, kind) }), want)
		}
		for _, v := range values {
			ask(v, true)
		}
		for _, w := range wrong {
			ask(w, false)
		}
		ask(tVoid, x.void)
	}
}

func TestP5_1RightNumbers(t *testing.T) {
	for what, x := range map[string]struct {
		put         func(*api.Class, *api.Method, int)
		least, most int
	}{
		"Kind":   {func(c *api.Class, m *api.Method, n int) { c.Kind = n }, api.Plain, api.Interface},
		"Locals": {func(c *api.Class, m *api.Method, n int) { m.Locals = n }, 0, api.MaxLocals},
		"From":   {func(c *api.Class, m *api.Method, n int) { m.Handlers[1].From = n }, 0, api.MaxCode},
		"To":     {func(c *api.Class, m *api.Method, n int) { m.Handlers[1].To = n }, 0, api.MaxCode},
		"At":     {func(c *api.Class, m *api.Method, n int) { m.Handlers[0].At = n }, 0, api.MaxCode},
		"K":      {func(c *api.Class, m *api.Method, n int) { m.Code[api.JumpZ-1].K = n }, 0, api.MaxCode},
	} {
		for _, n := range []int{x.least, x.least + 1, x.most - 1, x.most, x.least - 1, x.most + 1, -1, 1 << 32, 1<<32 + x.least, math.MaxInt, math.MinInt} {
			asks(t, what, changed(func(c *api.Class, m *api.Method) { x.put(c, m, n) }), x.least <= n && n <= x.most)
		}
	}
}

func TestP5_1RightCounts(t *testing.T) {
	for what, x := range map[string]struct {
		put  func(*api.Archive, int)
		most int
	}{
		"classes": {func(a *api.Archive, n int) {
			a.Classes = slices.Repeat([]api.Class{{Name: "C", Super: "Object", Kind: api.Plain}}, n)
		}, api.MaxClasses},
		"Ifaces": {func(a *api.Archive, n int) { a.Classes[0].Ifaces = slices.Repeat([]string{"P"}, n) }, api.MaxIfaces},
		"Fields": {func(a *api.Archive, n int) {
			a.Classes[0].Fields = slices.Repeat([]api.Field{{Name: "f", Type: tInt}}, n)
		}, api.MaxFields},
		"Methods": {func(a *api.Archive, n int) {
			a.Classes[0].Methods = slices.Repeat([]api.Method{{Name: "m", Ret: tVoid}}, n)
		}, api.MaxMethods},
		"Params": {func(a *api.Archive, n int) {
			a.Classes[0].Methods[0].Params = slices.Repeat([]api.Type{ref(longest())}, n)
		}, api.MaxParams},
		"Code": {func(a *api.Archive, n int) {
			a.Classes[0].Methods[0].Code = slices.Repeat([]api.Instr{{Op: api.Pop}}, n)
		}, api.MaxCode},
		"Handlers": {func(a *api.Archive, n int) {
			a.Classes[0].Methods[0].Handlers = slices.Repeat([]api.Handler{{Catch: "Fault"}}, n)
		}, api.MaxHandlers},
	} {
		for _, n := range []int{0, 1, x.most - 1, x.most, x.most + 1, 2 * x.most, 300000} {
			a := sample()
			x.put(&a, n)
			asks(t, what, a, n <= x.most)
		}
	}
}

func TestP5_1RightCode(t *testing.T) {
	for o := -1; o <= api.Ops+1; o++ {
		asks(t, op.Name(o), of(api.Method{Name: "m", Ret: tVoid, Code: []api.Instr{{Op: api.Pop}, right(o)}}), 0 < o && o < api.Ops)
	}
	for what, i := range map[string]api.Instr{
		"a K of none":       {Op: api.Pop, K: 1},
		"an N of none":      {Op: api.Load, N: 1},
		"a Class of none":   {Op: api.PushI, Class: "C"},
		"words too long":    {Op: api.PushS, S: strings.Repeat("x", api.MaxText+1)},
		"no Class":          {Op: api.New},
		"no Name":           {Op: api.GetS, Class: "C"},
		"no Desc":           {Op: api.CallS, Class: "C", Name: "m"},
		"a Desc of no kind": {Op: api.CallS, Class: "C", Name: "m", Desc: "(V)V"},
	} {
		asks(t, what, of(api.Method{Name: "m", Ret: tVoid, Code: []api.Instr{i}}), false)
	}
	long := api.Instr{Op: api.PushS, S: strings.Repeat("\xff", api.MaxText)}
	asks(t, "long words", of(api.Method{Name: "m", Ret: tVoid, Code: []api.Instr{long}}), true)
}

// What is wrong is found wherever it stands.
func TestP5_1RightPlaces(t *testing.T) {
	for class := range sample().Classes {
		a := sample()
		a.Classes[class].Super = ""
		asks(t, "a class", a, false)
	}
	for at := range sample().Classes[0].Methods[0].Code {
		asks(t, "an instruction", changed(func(c *api.Class, m *api.Method) { m.Code[at].Op = api.Ops }), false)
	}
	for at := range sample().Classes[0].Methods {
		asks(t, "a method", changed(func(c *api.Class, m *api.Method) { c.Methods[at].Name = "" }), false)
	}
	for at := range sample().Classes[0].Fields {
		asks(t, "a field", changed(func(c *api.Class, m *api.Method) { c.Fields[at].Name = "" }), false)
	}
}

// All texts together, whatever they are of, each once.
func TestP5_1RightTexts(t *testing.T) {
	if got := len(textsOf(full())); got != api.MaxPool {
		t.Fatalf("full has %d texts", got)
	}
	asks(t, "full", full(), true)
	for what, put := range map[string]func(c *api.Class, m *api.Method, s string){
		"a class":       func(c *api.Class, m *api.Method, s string) { c.Name = s },
		"a Super":       func(c *api.Class, m *api.Method, s string) { c.Super = s },
		"an Iface":      func(c *api.Class, m *api.Method, s string) { c.Ifaces = []string{"m", s} },
		"a field":       func(c *api.Class, m *api.Method, s string) { c.Fields = []api.Field{{Name: s, Type: ref("known")}} },
		"a Type":        func(c *api.Class, m *api.Method, s string) { c.Fields = []api.Field{{Name: "m", Type: ref(s)}} },
		"a method":      func(c *api.Class, m *api.Method, s string) { m.Name = s },
		"a Ret":         func(c *api.Class, m *api.Method, s string) { m.Ret = ref(s) },
		"a param":       func(c *api.Class, m *api.Method, s string) { m.Params = []api.Type{ref(s)} },
		"words":         func(c *api.Class, m *api.Method, s string) { m.Code[0].S = s },
		"a New's":       func(c *api.Class, m *api.Method, s string) { m.Code[0] = api.Instr{Op: api.New, Class: s} },
		"a GetF's":      func(c *api.Class, m *api.Method, s string) { m.Code[0] = api.Instr{Op: api.GetF, Class: s, Name: "m"} },
		"a PutS's Name": func(c *api.Class, m *api.Method, s string) { m.Code[0] = api.Instr{Op: api.PutS, Class: "m", Name: s} },
		"a call's": func(c *api.Class, m *api.Method, s string) {
			m.Code[0] = api.Instr{Op: api.CallV, Class: s, Name: "m", Desc: "()V"}
		},
		"a call's Name": func(c *api.Class, m *api.Method, s string) {
			m.Code[0] = api.Instr{Op: api.CallI, Class: "m", Name: s, Desc: "()V"}
		},
		"a call's Desc": func(c *api.Class, m *api.Method, s string) {
			m.Code[0] = api.Instr{Op: api.CallX, Class: "m", Name: "m", Desc: "(L" + s + ";)V"}
		},
		"a Catch": func(c *api.Class, m *api.Method, s string) { m.Handlers = []api.Handler{{Catch: s}} },
	} {
		for s, want := range map[string]bool{"known": true, "one_more": false} {
			a := full()
			put(&a.Classes[1], &a.Classes[1].Methods[0], s)
			asks(t, what+" "+s, a, want)
		}
	}
	for s, want := range map[string]bool{"0": true, "C": true, "()V": true, "": false} {
		a := full()
		a.Classes[1].Methods[0].Code = append(a.Classes[1].Methods[0].Code, pushes([]string{s})...)
		asks(t, "words "+s, a, want)
	}
}
