package limits_test

import (
	"math/rand"

	"bonsai/api"
	"bonsai/arc"
	"bonsai/op"
)

// fault is one thing that is wrong, and where.
type fault struct {
	at int
	e  api.Errno
}

// faults tells all that is wrong with m, what is told first ahead.
func faults(m api.Method) []fault {
	var l []fault
	add := func(is bool, at int, e api.Errno) {
		if is {
			l = append(l, fault{at, e})
		}
	}
	n, args := len(m.Code), len(m.Params)
	if !m.Static {
		args++
	}
	add(m.Abstract && n != 0, -1, api.ErrMember)
	add(m.Abstract && len(m.Handlers) != 0, -1, api.ErrMember)
	add(m.Abstract && m.Locals != 0, -1, api.ErrMember)
	add(!m.Abstract && n == 0, -1, api.ErrMember)
	add(!m.Abstract && m.Locals < args, -1, api.ErrLimit)
	for at, i := range m.Code {
		local, place := i.Op == api.Load || i.Op == api.Store, i.Op == api.Jump || i.Op == api.JumpZ
		add(local && (i.K < 0 || i.K >= m.Locals), at, api.ErrCode)
		add(place && (i.K < 0 || i.K >= n), at, api.ErrCode)
		add(at == n-1 && !op.Ends(i.Op), at, api.ErrEnd)
	}
	for _, h := range m.Handlers {
		add(h.From < 0 || h.From >= h.To || h.To > n || h.At < 0 || h.At >= n, -1, api.ErrCode)
	}
	return l
}

// wanted tells what Method is to answer.
func wanted(m api.Method) (int, api.Errno) {
	if l := faults(m); len(l) > 0 {
		return l[0].at, l[0].e
	}
	return 0, api.OK
}

// wantedOf tells what Check is to answer.
func wantedOf(a api.Archive) (api.Place, api.Errno) {
	if !arc.Right(a) {
		return api.Place{Class: -1, Method: -1, At: -1}, api.ErrForm
	}
	for i := range a.Classes {
		for k, m := range a.Classes[i].Methods {
			if at, e := wanted(m); e != api.OK {
				return api.Place{Class: i, Method: k, At: at}, e
			}
		}
	}
	return api.Place{}, api.OK
}

// scratch makes methods of which some can be, by numbers that are the same each time.
type scratch struct{ *rand.Rand }

func newScratch(seed int64) scratch { return scratch{rand.New(rand.NewSource(seed))} }

// upTo tells a number of 0 to most, seldom one beside them.
func (r scratch) upTo(most int) int {
	if r.Intn(40) == 0 {
		return []int{-1, most + 1}[r.Intn(2)]
	}
	return r.Intn(max(most, 0) + 1)
}

func (r scratch) instr(locals, n int) api.Instr {
	switch r.Intn(5) {
	case 0:
		return api.Instr{Op: api.Load + r.Intn(2), K: r.upTo(locals - 1)}
	case 1:
		return api.Instr{Op: api.Jump + r.Intn(2), K: r.upTo(n - 1)}
	case 2:
		return api.Instr{Op: []int{api.Throw, api.Ret, api.RetV, api.Exit}[r.Intn(4)]}
	}
	return api.Instr{Op: api.Pop + r.Intn(api.Text-api.Pop)}
}

func (r scratch) method() api.Method {
	m := api.Method{Name: "m", Params: params(r.Intn(3)), Ret: tVoid, Static: r.Intn(2) == 0}
	if r.Intn(4) == 0 {
		m.Abstract = true
	}
	if m.Abstract && r.Intn(4) > 0 {
		return m
	}
	n := r.Intn(8)
	if n == 0 {
		n = r.Intn(2)
	}
	m.Locals = r.Intn(6)
	if m.Abstract && r.Intn(2) == 0 {
		m.Locals = 0
	}
	for range n {
		m.Code = append(m.Code, r.instr(m.Locals, n))
	}
	if n > 0 && r.Intn(2) == 0 {
		m.Code[n-1] = api.Instr{Op: api.RetV}
	}
	for range max(r.Intn(5)-2, 0) {
		from := r.upTo(n - 1)
		m.Handlers = append(m.Handlers, api.Handler{From: from, To: from + r.upTo(n-from), At: r.upTo(n - 1), Catch: "Fault"})
	}
	return m
}

func (r scratch) archive() api.Archive {
	var classes [][]api.Method
	for range r.Intn(4) {
		var l []api.Method
		for range r.Intn(3) {
			l = append(l, r.method())
		}
		classes = append(classes, l)
	}
	return of(classes...)
}
