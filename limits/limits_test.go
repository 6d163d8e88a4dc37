package limits_test

import (
	"math"
	"slices"
	"testing"

	"bonsai/api"
	"bonsai/arc"
	"bonsai/limits"
)

var (
	tInt  = api.Type{Kind: api.Int}
	tStr  = api.Type{Kind: api.Str}
	tVoid = api.Type{Kind: api.Void}
)

// far are numbers that no place, no local, no count is.
var far = []int{-1, -2, 1 << 32, -1 << 32, math.MaxInt, math.MinInt}

// params tells n of them.
func params(n int) []api.Type { return slices.Repeat([]api.Type{tInt}, n) }

// static tells a static method without params.
func static(locals int, code ...api.Instr) api.Method {
	return api.Method{Name: "m", Ret: tVoid, Static: true, Locals: locals, Code: code}
}

// abstract tells an abstract method.
func abstract() api.Method {
	return api.Method{Name: "m", Ret: tVoid, Abstract: true}
}

// ends tells n instructions, of which the last one alone ends.
func ends(n int) []api.Instr {
	code := slices.Repeat([]api.Instr{{Op: api.PushN}}, n)
	code[n-1].Op = api.RetV
	return code
}

// handled tells a method of n instructions that has these handlers.
func handled(n int, l ...api.Handler) api.Method {
	m := static(0, ends(n)...)
	m.Handlers = l
	return m
}

// of tells an archive of classes that have these methods.
func of(classes ...[]api.Method) api.Archive {
	var a api.Archive
	for _, l := range classes {
		a.Classes = append(a.Classes, api.Class{Name: "C", Super: "Object", Kind: api.Plain, Methods: l})
	}
	return a
}

// asks asks Method of m.
func asks(t *testing.T, what string, m api.Method, at int, e api.Errno) {
	t.Helper()
	if gotAt, got := limits.Method(m); gotAt != at || got != e {
		t.Errorf("Method of %s: %d, %d, not %d, %d", what, gotAt, got, at, e)
	}
}

// checks asks Check of a.
func checks(t *testing.T, what string, a api.Archive, place api.Place, e api.Errno) {
	t.Helper()
	if gotPlace, got := limits.Check(a); gotPlace != place || got != e {
		t.Errorf("Check of %s: %v, %d, not %v, %d", what, gotPlace, got, place, e)
	}
}

func TestP6_1Args(t *testing.T) {
	for _, n := range []int{0, 1, 2, api.MaxParams, api.MaxParams + 1, 3000} {
		for _, m := range []api.Method{{}, {Abstract: true}, {Locals: 7, Code: ends(5)}, {Locals: -1, Name: "clinit", Ret: tStr}} {
			m.Params = params(n)
			if got := limits.Args(m); got != n+1 {
				t.Errorf("Args of %d params: %d", n, got)
			}
			m.Static = true
			if got := limits.Args(m); got != n {
				t.Errorf("Args of %d params, static: %d", n, got)
			}
		}
	}
	wrong := api.Method{Params: []api.Type{tVoid, {}, {Kind: -1}}}
	if got := limits.Args(wrong); got != 4 {
		t.Errorf("Args of params that are none: %d", got)
	}
}

func TestP6_1Right(t *testing.T) {
	asks(t, "RetV alone", static(0, ends(1)...), 0, api.OK)
	asks(t, "an abstract one", abstract(), 0, api.OK)
	asks(t, "an abstract one with params", api.Method{Params: params(8), Abstract: true}, 0, api.OK)
	asks(t, "an abstract one that is static", api.Method{Params: params(8), Abstract: true, Static: true}, 0, api.OK)
	asks(t, "an abstract one with lists of none", api.Method{Abstract: true, Code: []api.Instr{}, Handlers: []api.Handler{}}, 0, api.OK)
	loop := static(0, api.Instr{Op: api.Jump})
	asks(t, "a loop", loop, 0, api.OK)
	all := api.Method{Name: "m", Params: params(2), Ret: tInt, Locals: 4, Code: []api.Instr{
		{Op: api.Load, K: 0}, {Op: api.Store, K: 3}, {Op: api.Load, K: 2}, {Op: api.JumpZ, K: 5}, {Op: api.Jump, K: 0}, {Op: api.Load, K: 1}, {Op: api.Ret},
	}, Handlers: []api.Handler{{From: 0, To: 7, At: 6, Catch: "Fault"}, {From: 6, To: 7, At: 0, Catch: "Fault"}}}
	asks(t, "one that has it all", all, 0, api.OK)
}

// What can't be written is Check's alone: Method takes it as it is.
func TestP6_1MethodAsItIs(t *testing.T) {
	asks(t, "a zero one", api.Method{}, -1, api.ErrMember)
	asks(t, "one without name and types", api.Method{Static: true, Code: ends(1)}, 0, api.OK)
	many := static(100000, ends(100000)...)
	many.Params, many.Code[0] = params(100000), api.Instr{Op: api.JumpZ, K: 99999}
	asks(t, "more than may be", many, 0, api.OK)
	many.Code[0].K++
	asks(t, "more than may be, and beyond", many, 0, api.ErrCode)
	for _, o := range append([]int{0, api.Ops, api.Ops + 1, 256 + api.Load, 1<<32 + api.Jump}, far...) {
		asks(t, "an Op of none", static(0, api.Instr{Op: o, K: -1}, api.Instr{Op: api.RetV}), 0, api.OK)
		asks(t, "an Op of none at the end", static(0, api.Instr{Op: api.RetV}, api.Instr{Op: o, K: -1}), 1, api.ErrEnd)
	}
	asks(t, "a Catch of none", handled(1, api.Handler{To: 1}), 0, api.OK)
}

func TestP6_1Member(t *testing.T) {
	for what, change := range map[string]func(*api.Method){
		"code":        func(m *api.Method) { m.Code = ends(1) },
		"wrong code":  func(m *api.Method) { m.Code = []api.Instr{{Op: api.Jump, K: -1}} },
		"a handler":   func(m *api.Method) { m.Handlers = []api.Handler{{To: 1, Catch: "Fault"}} },
		"no handler":  func(m *api.Method) { m.Handlers = make([]api.Handler, 1) },
		"a local":     func(m *api.Method) { m.Locals = 1 },
		"many locals": func(m *api.Method) { m.Locals = api.MaxLocals },
		"all":         func(m *api.Method) { m.Locals, m.Code, m.Handlers = 1, ends(1), []api.Handler{{To: 1, Catch: "Fault"}} },
	} {
		for _, is := range []bool{false, true} {
			m := abstract()
			m.Static = is
			change(&m)
			asks(t, "an abstract one with "+what, m, -1, api.ErrMember)
		}
	}
	for _, n := range far {
		m := abstract()
		m.Locals = n
		asks(t, "an abstract one with odd locals", m, -1, api.ErrMember)
	}
	for what, m := range map[string]api.Method{
		"nothing":        {Name: "m", Ret: tVoid},
		"nothing static": {Name: "m", Ret: tVoid, Static: true},
		"locals":         {Locals: 5},
		"a list of none": {Locals: 5, Code: []api.Instr{}},
		"few locals":     {Params: params(3), Locals: 2},
		"odd locals":     {Locals: -1},
		"a handler":      {Locals: 1, Handlers: []api.Handler{{To: 1, Catch: "Fault"}}},
	} {
		asks(t, "one without code, with "+what, m, -1, api.ErrMember)
	}
}

func TestP6_1Limit(t *testing.T) {
	for _, is := range []bool{false, true} {
		for _, n := range []int{0, 1, 2, api.MaxParams, 300} {
			m := api.Method{Params: params(n), Ret: tVoid, Static: is, Code: ends(2)}
			least := n + 1
			if is {
				least = n
			}
			for _, m.Locals = range []int{least - 1, min(0, least-1), -1, math.MinInt} {
				asks(t, "few locals", m, -1, api.ErrLimit)
			}
			for _, m.Locals = range []int{least, least + 1, api.MaxLocals + least, math.MaxInt} {
				asks(t, "locals enough", m, 0, api.OK)
			}
		}
	}
}

// Of each op that names a local or a place: the edges, at the first instruction and behind others; of all others a K says nothing.
func TestP6_1Code(t *testing.T) {
	const locals, before = 3, 4
	for o := 1; o < api.Ops; o++ {
		most := -1 // none
		switch o {
		case api.Load, api.Store:
			most = locals - 1
		case api.Jump, api.JumpZ:
			most = before + 1
		}
		for _, at := range []int{0, 1, before} {
			m := static(locals, ends(before+2)...)
			for _, k := range append([]int{0, 1, locals - 1, locals, locals + 1, before, before + 1, before + 2, before + 3, api.MaxCode, api.MaxCode + 1, 1<<32 + 1}, far...) {
				m.Code[at] = api.Instr{Op: o, K: k}
				if most < 0 || 0 <= k && k <= most {
					asks(t, "a place within", m, 0, api.OK)
				} else {
					asks(t, "a place beyond", m, at, api.ErrCode)
				}
			}
		}
	}
	asks(t, "no local", static(0, api.Instr{Op: api.Load}, api.Instr{Op: api.RetV}), 0, api.ErrCode)
	asks(t, "a param's local", api.Method{Params: params(1), Static: true, Locals: 1, Code: []api.Instr{{Op: api.Load}, {Op: api.Ret}}}, 0, api.OK)
}

// The last one is looked at as the others are, ahead of whether it ends.
func TestP6_1End(t *testing.T) {
	for o := 1; o < api.Ops; o++ {
		want := api.ErrEnd
		switch o {
		case api.Jump, api.Throw, api.Ret, api.RetV, api.Exit:
			want = api.OK
		}
		for _, n := range []int{0, 1, 5, api.MaxCode} {
			m := static(1, append(slices.Repeat([]api.Instr{{Op: api.Pop}}, n), api.Instr{Op: o})...)
			if want == api.OK {
				asks(t, "a last one that ends", m, 0, want)
			} else {
				asks(t, "a last one that doesn't end", m, n, want)
			}
			switch o {
			case api.Load, api.Store, api.Jump, api.JumpZ:
				m.Locals, m.Code[n].K = n+1, n+1
				asks(t, "a last one that isn't within", m, n, api.ErrCode)
			}
		}
	}
	asks(t, "ends ahead of the last one", static(0, api.Instr{Op: api.RetV}, api.Instr{Op: api.Exit}, api.Instr{Op: api.PushN}), 2, api.ErrEnd)
}

func TestP6_1Handlers(t *testing.T) {
	const n = 4
	wanted := api.Handler{From: 1, To: 3, At: 2, Catch: "Fault"}
	edges := append([]int{0, 1, 2, 3, 4, 5, 6, api.MaxCode, api.MaxCode + 1}, far...)
	for _, from := range edges {
		for _, to := range edges {
			for _, at := range edges {
				h := api.Handler{From: from, To: to, At: at, Catch: "Fault"}
				// Written out: From is one of 0 to 3, To one of those behind it up to 4, At one of 0 to 3.
				if slices.Contains([]int{0, 1, 2, 3}, from) && slices.Contains([]int{1, 2, 3, 4}, to) && to-from >= 1 && slices.Contains([]int{0, 1, 2, 3}, at) {
					asks(t, "a handler", handled(n, h), 0, api.OK)
					continue
				}
				asks(t, "a handler of no places", handled(n, h), -1, api.ErrCode)
				asks(t, "a last handler of no places", handled(n, wanted, wanted, h), -1, api.ErrCode)
				asks(t, "a first handler of no places", handled(n, h, wanted), -1, api.ErrCode)
			}
		}
	}
	one := api.Handler{From: 0, To: 1, At: 0, Catch: "Fault"}
	asks(t, "a handler of one instruction", handled(1, one, one), 0, api.OK)
	asks(t, "many handlers", handled(1, slices.Repeat([]api.Handler{one}, 1000)...), 0, api.OK)
}

// Where several are wrong, the one that the chapter names first.
func TestP6_1First(t *testing.T) {
	load, jump, push := api.Instr{Op: api.Load, K: 9}, api.Instr{Op: api.Jump, K: 9}, api.Instr{Op: api.PushN}
	wrong := []api.Handler{{From: 1, To: 1, At: 9, Catch: "Fault"}}
	asks(t, "no code ahead of few locals", api.Method{Handlers: wrong}, -1, api.ErrMember)
	asks(t, "abstract ahead of few locals", api.Method{Abstract: true, Params: params(3), Locals: 1, Code: []api.Instr{load}, Handlers: wrong}, -1, api.ErrMember)
	asks(t, "few locals ahead of code", api.Method{Code: []api.Instr{load, push}, Handlers: wrong}, -1, api.ErrLimit)
	asks(t, "the first of two", api.Method{Static: true, Code: []api.Instr{push, load, jump, push}, Handlers: wrong}, 1, api.ErrCode)
	asks(t, "the first of two places", api.Method{Static: true, Code: []api.Instr{push, push, jump, load, jump}, Handlers: wrong}, 2, api.ErrCode)
	asks(t, "a place ahead of the end", api.Method{Static: true, Code: []api.Instr{jump, push}, Handlers: wrong}, 0, api.ErrCode)
	asks(t, "the last one's place ahead of its end", api.Method{Static: true, Code: []api.Instr{push, load}, Handlers: wrong}, 1, api.ErrCode)
	asks(t, "the end ahead of handlers", api.Method{Static: true, Code: []api.Instr{push, push, push}, Handlers: wrong}, 2, api.ErrEnd)
	asks(t, "handlers at last", api.Method{Static: true, Code: ends(3), Handlers: wrong}, -1, api.ErrCode)
}

func TestP6_1Check(t *testing.T) {
	good := static(0, ends(2)...)
	beyond, endless := static(0, api.Instr{Op: api.Pop}, api.Instr{Op: api.Load}, api.Instr{Op: api.RetV}), static(0, api.Instr{Op: api.Pop})
	few, caught, bare := static(0, ends(1)...), handled(1, api.Handler{At: 0, Catch: "Fault"}), static(0)
	few.Static = false
	l := func(l ...api.Method) []api.Method { return l }
	checks(t, "nothing", api.Archive{}, api.Place{}, api.OK)
	checks(t, "no classes", api.Archive{Classes: []api.Class{}}, api.Place{}, api.OK)
	checks(t, "classes without methods", of(nil, l(), nil), api.Place{}, api.OK)
	checks(t, "good ones", of(l(good, abstract()), nil, l(abstract(), good, good)), api.Place{}, api.OK)
	checks(t, "the first of all", of(l(beyond)), api.Place{At: 1}, api.ErrCode)
	checks(t, "the first at the first", of(l(endless)), api.Place{}, api.ErrEnd)
	checks(t, "a later method", of(l(good, abstract(), beyond, endless)), api.Place{Method: 2, At: 1}, api.ErrCode)
	checks(t, "a later class", of(nil, l(good), l(good, endless), l(beyond)), api.Place{Class: 2, Method: 1}, api.ErrEnd)
	checks(t, "few locals", of(l(good), l(good, good, few), l(beyond)), api.Place{Class: 1, Method: 2, At: -1}, api.ErrLimit)
	checks(t, "a handler", of(nil, l(caught, beyond)), api.Place{Class: 1, At: -1}, api.ErrCode)
	checks(t, "no code", of(l(bare), l(beyond)), api.Place{At: -1}, api.ErrMember)
	checks(t, "a class ahead of a method", of(l(good, good, caught), l(bare)), api.Place{Method: 2, At: -1}, api.ErrCode)
}

// The last place of all that there may be.
func TestP6_1CheckLast(t *testing.T) {
	good, last := abstract(), static(api.MaxLocals, ends(api.MaxCode)...)
	last.Params, last.Handlers = params(api.MaxParams), slices.Repeat([]api.Handler{{From: api.MaxCode - 1, To: api.MaxCode, At: api.MaxCode - 1, Catch: "Fault"}}, api.MaxHandlers)
	last.Code[api.MaxCode-2], last.Code[api.MaxCode-1] = api.Instr{Op: api.Store, K: api.MaxLocals - 1}, api.Instr{Op: api.Jump, K: api.MaxCode - 1}
	classes := slices.Repeat([][]api.Method{slices.Repeat([]api.Method{good}, api.MaxMethods)}, api.MaxClasses)
	classes[api.MaxClasses-1] = slices.Clone(classes[0])
	put := func(m api.Method) api.Archive {
		classes[api.MaxClasses-1][api.MaxMethods-1] = m
		return of(classes...)
	}
	place := api.Place{Class: api.MaxClasses - 1, Method: api.MaxMethods - 1, At: api.MaxCode - 1}
	checks(t, "as much as may be", put(last), api.Place{}, api.OK)
	last.Code[api.MaxCode-1].K++
	checks(t, "the last place", put(last), place, api.ErrCode)
	last.Code[api.MaxCode-1] = api.Instr{Op: api.JumpZ}
	checks(t, "the last end", put(last), place, api.ErrEnd)
	last.Code[api.MaxCode-1] = api.Instr{Op: api.Exit}
	last.Handlers[api.MaxHandlers-1].At++
	place.At = -1
	checks(t, "the last handler", put(last), place, api.ErrCode)
}

// What can't be written is told ahead of all else, wherever it stands.
func TestP6_1CheckForm(t *testing.T) {
	nowhere := api.Place{Class: -1, Method: -1, At: -1}
	endless := static(0, api.Instr{Op: api.Pop})
	for what, change := range map[string]func(*api.Archive, *api.Method){
		"a name":         func(a *api.Archive, m *api.Method) { m.Name = "" },
		"a class's name": func(a *api.Archive, m *api.Method) { a.Classes[1].Name = "9" },
		"a kind":         func(a *api.Archive, m *api.Method) { a.Classes[1].Kind = 0 },
		"a field":        func(a *api.Archive, m *api.Method) { a.Classes[1].Fields = make([]api.Field, 1) },
		"a zero class":   func(a *api.Archive, m *api.Method) { a.Classes = append(a.Classes, api.Class{}) },
		"classes":        func(a *api.Archive, m *api.Method) { a.Classes = slices.Repeat(a.Classes, api.MaxClasses) },
		"methods": func(a *api.Archive, m *api.Method) {
			a.Classes[1].Methods = slices.Repeat([]api.Method{*m}, api.MaxMethods+1)
		},
		"params":        func(a *api.Archive, m *api.Method) { m.Params = params(api.MaxParams + 1) },
		"a Ret":         func(a *api.Archive, m *api.Method) { m.Ret = api.Type{} },
		"locals":        func(a *api.Archive, m *api.Method) { m.Locals = api.MaxLocals + 1 },
		"odd locals":    func(a *api.Archive, m *api.Method) { m.Locals = -1 },
		"code":          func(a *api.Archive, m *api.Method) { m.Code = ends(api.MaxCode + 1) },
		"an Op":         func(a *api.Archive, m *api.Method) { m.Code[0].Op = api.Ops },
		"a K":           func(a *api.Archive, m *api.Method) { m.Code[0] = api.Instr{Op: api.Jump, K: -1} },
		"a K of no use": func(a *api.Archive, m *api.Method) { m.Code[0].K = 1 },
		"handlers": func(a *api.Archive, m *api.Method) {
			m.Handlers = slices.Repeat([]api.Handler{{To: 1, Catch: "Fault"}}, api.MaxHandlers+1)
		},
		"a handler":      func(a *api.Archive, m *api.Method) { m.Handlers = []api.Handler{{From: -1, To: 1, Catch: "Fault"}} },
		"a zero handler": func(a *api.Archive, m *api.Method) { m.Handlers = make([]api.Handler, 1) },
		"a handler beyond": func(a *api.Archive, m *api.Method) {
			m.Handlers = []api.Handler{{To: 1, At: api.MaxCode + 1, Catch: "Fault"}}
		},
	} {
		a := of([]api.Method{endless}, []api.Method{abstract(), static(0, ends(2)...)})
		change(&a, &a.Classes[1].Methods[1])
		checks(t, what, a, nowhere, api.ErrForm)
	}
	var texts []api.Method
	for n := range 6 {
		m := static(0, slices.Repeat([]api.Instr{{Op: api.PushS}}, api.MaxCode)...)
		for k := range m.Code {
			m.Code[k].S = string([]byte{byte(n), byte(k), byte(k / 256)})
		}
		texts = append(texts, m)
	}
	checks(t, "too many texts", of(texts), nowhere, api.ErrForm)
	checks(t, "texts", of(texts[:4]), api.Place{At: api.MaxCode - 1}, api.ErrEnd)
}

// Whether what is named is there, or makes sense, is others' business.
func TestP6_1CheckMeansNothing(t *testing.T) {
	m := static(1, api.Instr{Op: api.Add}, api.Instr{Op: api.New, Class: "Nobody"}, api.Instr{Op: api.Load}, api.Instr{Op: api.Ret})
	m.Handlers = []api.Handler{{To: 1, Catch: "Nobody"}}
	a := of([]api.Method{m, m}, []api.Method{{Name: "m", Ret: tVoid, Static: true, Abstract: true}})
	a.Classes[0].Super, a.Classes[1].Name, a.Classes[1].Kind = "C", "Object", api.Interface
	checks(t, "nonsense", a, api.Place{}, api.OK)
}

// P6.2: of whom there is no error, all places and locals are within.
func TestP6_2Within(t *testing.T) {
	r := newScratch(62)
	fine := 0
	for range 40000 {
		m := r.method()
		if _, e := limits.Method(m); e != api.OK || m.Abstract {
			continue
		}
		fine++
		seen, vars := make([]int, len(m.Code)), make([]int, m.Locals)
		for k := range limits.Args(m) {
			vars[k]++
		}
		for at, i := range m.Code {
			next := at + 1
			switch i.Op {
			case api.Load, api.Store:
				vars[i.K]++
			case api.JumpZ:
				seen[i.K]++
			case api.Jump:
				next = i.K
			case api.Throw, api.Ret, api.RetV, api.Exit:
				next = at
			}
			seen[next]++
		}
		for _, h := range m.Handlers {
			seen[h.At] += len(m.Code[h.From:h.To])
		}
	}
	if fine < 2000 {
		t.Errorf("%d alone have no error", fine)
	}
}

// Held against the rules, written one by one as the chapter has them.
func TestP6_1AnyMethod(t *testing.T) {
	r := newScratch(61)
	told := map[api.Errno]int{}
	for range 60000 {
		m := r.method()
		at, e := wanted(m)
		asks(t, "any", m, at, e)
		told[e]++
	}
	for _, e := range []api.Errno{api.OK, api.ErrMember, api.ErrLimit, api.ErrCode, api.ErrEnd} {
		if told[e] < 1000 {
			t.Errorf("%d is told %d times alone", e, told[e])
		}
	}
}

func TestP6_1AnyArchive(t *testing.T) {
	r := newScratch(60)
	told := map[api.Errno]int{}
	for range 20000 {
		a := r.archive()
		place, e := wantedOf(a)
		checks(t, "any", a, place, e)
		told[e]++
	}
	for _, e := range []api.Errno{api.OK, api.ErrForm, api.ErrMember, api.ErrLimit, api.ErrCode, api.ErrEnd} {
		if told[e] < 500 {
			t.Errorf("%d is told %d times alone", e, told[e])
		}
	}
}

// DOC.md's rule 3: what is handed in stays as it is, the room behind its lists, too.
func TestLeavesWhatIsHandedIn(t *testing.T) {
	r := newScratch(63)
	for range 300 {
		a := r.archive()
		for i := range a.Classes {
			for k := range a.Classes[i].Methods {
				m := &a.Classes[i].Methods[k]
				m.Code = append(m.Code, api.Instr{Op: -7})[:len(m.Code)]
				m.Handlers = append(m.Handlers, api.Handler{To: -7})[:len(m.Handlers)]
			}
		}
		before := arc.Copy(a)
		place, e := limits.Check(a)
		if again, f := limits.Check(a); again != place || f != e {
			t.Fatalf("Check of the same: %v, %d, then %v, %d", place, e, again, f)
		}
		if !arc.Same(a, before) {
			t.Fatal("Check has changed what it was given")
		}
		for _, c := range a.Classes {
			for _, m := range c.Methods {
				if m.Code[:len(m.Code)+1][len(m.Code)].Op != -7 || m.Handlers[:len(m.Handlers)+1][len(m.Handlers)].To != -7 {
					t.Fatal("Check has changed the room behind a list")
				}
			}
		}
	}
}
