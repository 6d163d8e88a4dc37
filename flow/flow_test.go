package flow_test

import (
	"slices"
	"testing"

	"bonsai/api"
	"bonsai/flow"
)

func in(o int) api.Instr { return api.Instr{Op: o} }

func to(o, k int) api.Instr { return api.Instr{Op: o, K: k} }

func of(o int, class string) api.Instr { return api.Instr{Op: o, Class: class} }

func mem(o int, class, name string) api.Instr { return api.Instr{Op: o, Class: class, Name: name} }

func call(o int, class, name, d string) api.Instr {
	return api.Instr{Op: o, Class: class, Name: name, Desc: d}
}

// static is a method without params that tells nothing.
func static(locals int, code ...api.Instr) api.Method {
	return api.Method{Name: "x", Ret: api.Type{Kind: api.Void}, Static: true, Locals: locals, Code: code}
}

// with has handlers behind those of m.
func with(m api.Method, l ...api.Handler) api.Method {
	m.Handlers = slices.Concat(m.Handlers, l)
	return m
}

func next(t *testing.T, m api.Method, at int, want ...int) {
	t.Helper()
	if got := flow.Next(m, at); !slices.Equal(got, want) {
		t.Errorf("Next(%v, %d): %v, not %v", m.Code, at, got, want)
	}
}

func handlers(t *testing.T, m api.Method, at int, want ...int) {
	t.Helper()
	if got := flow.Handlers(m, at); !slices.Equal(got, want) {
		t.Errorf("Handlers(%v, %d): %v, not %v", m.Handlers, at, got, want)
	}
}

func TestP13_1Next(t *testing.T) {
	m := static(0, in(api.Read), to(api.JumpZ, 4), in(api.Read), to(api.JumpZ, 0), to(api.Jump, 0), in(api.RetV))
	next(t, m, 0, 1)
	next(t, m, 1, 2, 4)
	next(t, m, 2, 3)
	next(t, m, 3, 4, 0)
	next(t, m, 4, 0)
	next(t, m, 5)
}

func TestP13_1NextOnce(t *testing.T) {
	m := static(0, to(api.JumpZ, 1), to(api.Jump, 2), to(api.Jump, 2), to(api.JumpZ, 3))
	next(t, m, 0, 1)
	next(t, m, 1, 2)
	next(t, m, 2, 2)
	next(t, m, 3, 4, 3)
}

func TestP13_1NextOfEachOp(t *testing.T) {
	for o := -1; o <= api.Ops+1; o++ {
		m := static(0, in(api.RetV), to(o, 7), in(api.RetV))
		switch o {
		case api.Jump:
			next(t, m, 1, 7)
		case api.JumpZ:
			next(t, m, 1, 2, 7)
		case api.Throw, api.Ret, api.RetV, api.Exit:
			next(t, m, 1)
		default:
			next(t, m, 1, 2)
		}
	}
}

func TestP13_1NextOfNone(t *testing.T) {
	m := static(0, to(api.Jump, 0), in(api.PushN), in(api.RetV))
	for _, at := range []int{-1, 3, 4, -3, 1 << 40, -1 << 62} {
		next(t, m, at)
	}
	next(t, api.Method{}, 0)
	next(t, api.Method{Abstract: true}, -1)
}

// Whether a place is there is limits' business.
func TestP13_1NextOfPlacesThatAreNotThere(t *testing.T) {
	m := static(0, to(api.Jump, -7), to(api.JumpZ, 99), in(api.Pop))
	next(t, m, 0, -7)
	next(t, m, 1, 2, 99)
	next(t, m, 2, 3)
	m.Abstract = true
	next(t, m, 1, 2, 99)
}

func TestP13_1Handlers(t *testing.T) {
	m := static(0, in(api.RetV), in(api.RetV), in(api.RetV), in(api.RetV))
	m = with(m, api.Handler{From: 1, To: 3}, api.Handler{From: 0, To: 4, At: 2, Catch: "A"}, api.Handler{From: 2, To: 3}, api.Handler{From: 3, To: 4}, api.Handler{From: 1, To: 3})
	handlers(t, m, 0, 1)
	handlers(t, m, 1, 0, 1, 4)
	handlers(t, m, 2, 0, 1, 2, 4)
	handlers(t, m, 3, 1, 3)
	handlers(t, static(0, in(api.RetV)), 0)
}

func TestP13_1HandlersOfNone(t *testing.T) {
	m := with(static(0, in(api.RetV), in(api.RetV)), api.Handler{From: -9, To: 9}, api.Handler{From: 1, To: 1}, api.Handler{From: 2, To: 1}, api.Handler{From: -2, To: 0}, api.Handler{From: 2, To: 5})
	handlers(t, m, 0, 0)
	handlers(t, m, 1, 0)
	for _, at := range []int{-1, 2, 3, -9, 1 << 40, -1 << 62} {
		handlers(t, m, at)
	}
	handlers(t, api.Method{Handlers: m.Handlers}, 0)
}

func TestP13_1NewMemory(t *testing.T) {
	m := with(static(0, to(api.JumpZ, 2), in(api.RetV), in(api.RetV)), api.Handler{From: 0, To: 1}, api.Handler{From: 0, To: 3})
	a, b := flow.Next(m, 0), flow.Handlers(m, 0)
	a[0], a[1], b[0], b[1] = 9, 9, 9, 9
	next(t, m, 0, 1, 2)
	handlers(t, m, 0, 0, 1)
}
