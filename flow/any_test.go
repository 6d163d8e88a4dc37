package flow_test

import (
	"math/rand"
	"slices"
	"testing"

	"bonsai/api"
	"bonsai/flow"
	"bonsai/frame"
	"bonsai/limits"
	"bonsai/tree"
)

// ruled is what the chapter says of one method, written out: of all that have changed the least one is looked for anew each time.
type ruled struct {
	x       *tree.Tree
	m       api.Method
	frames  []api.Frame
	changed []bool
}

func (r *ruled) comes(at int, f api.Frame) api.Errno {
	now, e := frame.Join(r.x, r.frames[at], f)
	if e == api.OK && !frame.Same(now, r.frames[at]) {
		r.frames[at], r.changed[at] = now, true
	}
	return e
}

// behind are the places behind at, of a method that limits has no error of.
func behind(m api.Method, at int) []int {
	switch i := m.Code[at]; i.Op {
	case api.Throw, api.Ret, api.RetV, api.Exit:
		return nil
	case api.Jump:
		return []int{i.K}
	case api.JumpZ:
		return slices.Compact([]int{at + 1, i.K})
	}
	return []int{at + 1}
}

// catchers are the handlers that catch what at throws.
func catchers(m api.Method, at int) []int {
	var l []int
	for k, h := range m.Handlers {
		if at >= h.From && at <= h.To-1 {
			l = append(l, k)
		}
	}
	return l
}

func (r *ruled) taken(at int) api.Errno {
	f := r.frames[at]
	r.changed[at] = false
	for _, k := range catchers(r.m, at) {
		if e := r.comes(r.m.Handlers[k].At, frame.Caught(f, r.m.Handlers[k].Catch)); e != api.OK {
			return e
		}
	}
	g, e := frame.Step(r.x, r.m, f, r.m.Code[at])
	if e != api.OK {
		return e
	}
	for _, k := range behind(r.m, at) {
		if e := r.comes(k, g); e != api.OK {
			return e
		}
	}
	return api.OK
}

func infer(x *tree.Tree, class string, m api.Method) ([]api.Frame, int, api.Errno) {
	if _, e := limits.Method(m); e != api.OK || m.Abstract {
		return nil, -1, api.ErrCode
	}
	for _, h := range m.Handlers {
		if !x.Known(h.Catch) {
			return nil, -1, api.ErrMissing
		}
		if !x.Sub(h.Catch, "Fault") {
			return nil, -1, api.ErrType
		}
	}
	r := &ruled{x, m, make([]api.Frame, len(m.Code)), make([]bool, len(m.Code))}
	r.frames[0], r.changed[0] = frame.Entry(class, m), true
	for {
		at := slices.Index(r.changed, true)
		if at < 0 {
			return r.frames, 0, api.OK
		}
		if e := r.taken(at); e != api.OK {
			return nil, at, e
		}
	}
}

// pieces of code that leave a Stack as it was, where they go through. A K of -2 is a place, one of -1 a local.
var pieces = [][]api.Instr{
	{in(api.PushN), to(api.Store, -1)}, {in(api.Read), to(api.Store, -1)}, {of(api.New, "B"), to(api.Store, -1)}, {of(api.New, "C"), to(api.Store, -1)}, {of(api.New, "F"), to(api.Store, -1)},
	{to(api.Load, -1), in(api.Pop)}, {to(api.Load, -1), to(api.Store, -1)}, {to(api.Load, -1), in(api.Check)}, {to(api.Load, -1), of(api.Cast, "A"), to(api.Store, -1)},
	{to(api.Load, -1), mem(api.GetF, "A", "n"), to(api.Store, -1)}, {to(api.Load, -1), to(api.JumpZ, -2)},
	{in(api.Read), to(api.JumpZ, -2)}, {in(api.Read), to(api.JumpZ, -2)}, {in(api.Read), to(api.JumpZ, -2)}, {to(api.Jump, -2)},
	{in(api.RetV)}, {in(api.PushN), in(api.Throw)}, {in(api.Read), in(api.Exit)}, {in(api.PushN)}, {in(api.Pop)}, {to(api.Store, -1), in(api.RetV)},
}

// anyMethod is one whose ways mostly go from piece to piece; of few all goes well.
func anyMethod(r *rand.Rand) api.Method {
	m := static(2 + r.Intn(2))
	m.Params = types([]string{"", ":B", "I", ":F :A"}[r.Intn(4)])
	starts := []int{}
	for range 1 + r.Intn(9) {
		starts = append(starts, len(m.Code))
		p := pieces[r.Intn(18)]
		if r.Intn(6) == 0 {
			p = pieces[r.Intn(len(pieces))]
		}
		m.Code = append(m.Code, p...)
	}
	m.Code = append(m.Code, in(api.RetV))
	some := func() int {
		if r.Intn(20) == 0 {
			return r.Intn(len(m.Code))
		}
		return starts[r.Intn(len(starts))]
	}
	for k, i := range m.Code {
		switch i.K {
		case -1:
			m.Code[k].K = r.Intn(m.Locals)
		case -2:
			m.Code[k].K = some()
		}
	}
	for range r.Intn(3) {
		// Mostly what catches takes its fault from the Stack, right behind the code.
		h := api.Handler{From: some(), At: len(m.Code), Catch: []string{"Fault", "E", "F", "ZeroFault"}[r.Intn(4)]}
		h.To = h.From + 1 + r.Intn(len(m.Code)-h.From)
		if m.Code = append(m.Code, to(api.Store, r.Intn(m.Locals)), to(api.Jump, some())); r.Intn(9) == 0 {
			h.At = some()
		}
		m.Handlers = append(m.Handlers, h)
	}
	if len(m.Handlers) > 0 && r.Intn(40) == 0 {
		m.Handlers[r.Intn(len(m.Handlers))].Catch = []string{"A", "gone"}[r.Intn(2)]
	}
	return m
}

func TestP13_2AnyMethod(t *testing.T) {
	x := wood()
	r := rand.New(rand.NewSource(13))
	count := map[api.Errno]int{}
	for range 60000 {
		m := anyMethod(r)
		want, place, e := infer(x, "A", m)
		got, at, err := flow.Infer(x, "A", m)
		if at != place || err != e || !slices.EqualFunc(got, want, alike) {
			t.Fatalf("Infer of %v: %v, %d, %d, not %v, %d, %d", m, got, at, err, want, place, e)
		}
		count[e]++
	}
	for e, least := range map[api.Errno]int{api.OK: 10000, api.ErrStack: 2000, api.ErrType: 10000, api.ErrMissing: 200} {
		if count[e] < least {
			t.Errorf("of %d: %d, too few", e, count[e])
		}
	}
}

func TestP13_1AnyMethod(t *testing.T) {
	r := rand.New(rand.NewSource(131))
	for range 20000 {
		m := anyMethod(r)
		for at := range m.Code {
			next(t, m, at, behind(m, at)...)
			handlers(t, m, at, catchers(m, at)...)
		}
		if t.Failed() {
			t.FailNow()
		}
	}
}

// Whoever walks a way, is caught where it may be, and knows what is known there, knows no less than what is told of each place; and what isn't reached by any way isn't told to be.
func TestP13_3EveryWay(t *testing.T) {
	x := wood()
	r := rand.New(rand.NewSource(133))
	steps, caught, apart := 0, 0, 0
	for range 40000 {
		m := anyMethod(r)
		all, _, e := flow.Infer(x, "A", m)
		if e != api.OK {
			continue
		}
		reached(t, m, all)
		at, f := 0, frame.Entry("A", m)
		for range 30 {
			if now, e := frame.Join(x, all[at], f); e != api.OK || !frame.Same(now, all[at]) {
				t.Fatalf("%v: at %d %v is known, not %v", m, at, all[at], f)
			}
			if !frame.Same(f, all[at]) {
				apart++
			}
			if l := flow.Handlers(m, at); len(l) > 0 && r.Intn(4) == 0 {
				h := m.Handlers[l[r.Intn(len(l))]]
				at, f = h.At, frame.Caught(f, h.Catch)
				caught++
				continue
			}
			g, e := frame.Step(x, m, f, m.Code[at])
			if e != api.OK {
				t.Fatalf("%v: %d at %d", m, e, at)
			}
			l := flow.Next(m, at)
			if len(l) == 0 {
				break
			}
			at, f = l[r.Intn(len(l))], g
			steps++
		}
	}
	if steps < 20000 || caught < 2000 || apart < 2000 {
		t.Errorf("%d steps, %d caught, %d with less known: too few", steps, caught, apart)
	}
}

// reached asks that just those are Reached that some way goes to.
func reached(t *testing.T, m api.Method, all []api.Frame) {
	t.Helper()
	left, seen := []int{0}, make([]bool, len(m.Code))
	for len(left) > 0 {
		at := left[0]
		if left = left[1:]; seen[at] {
			continue
		}
		seen[at] = true
		left = append(left, behind(m, at)...)
		for _, k := range catchers(m, at) {
			left = append(left, m.Handlers[k].At)
		}
	}
	for at, f := range all {
		if f.Reached != seen[at] || !f.Reached && !alike(f, api.Frame{}) {
			t.Fatalf("%v: at %d %v", m, at, f)
		}
	}
}
