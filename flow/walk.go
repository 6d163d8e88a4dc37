package flow

import (
	"bonsai/api"
	"bonsai/frame"
	"bonsai/set"
	"bonsai/tree"
)

// walk is the way through one method: what is known so far, and whose frame has changed since it was taken up.
type walk struct {
	t      *tree.Tree
	m      api.Method
	frames []api.Frame // put one for another as wholes, so that who has taken one up still has it as it was
	left   *set.Work[int]
}

// takeUp tells all that may come behind instruction at what is known there.
func (w *walk) takeUp(at int) api.Errno {
	f := w.frames[at]
	for _, k := range Handlers(w.m, at) {
		h := w.m.Handlers[k]
		if e := w.join(h.At, frame.Caught(f, h.Catch)); e != api.OK {
			return e
		}
	}
	behind, e := frame.Step(w.t, w.m, f, w.m.Code[at])
	if e != api.OK {
		return e
	}
	for _, k := range Next(w.m, at) {
		if e := w.join(k, behind); e != api.OK {
			return e
		}
	}
	return api.OK
}

// join tells instruction at that somebody comes there with f.
func (w *walk) join(at int, f api.Frame) api.Errno {
	if frame.Same(f, w.frames[at]) {
		return api.OK // joined they are alike as well
	}
	now, e := frame.Join(w.t, w.frames[at], f)
	if e != api.OK {
		return e
	}
	if !frame.Same(now, w.frames[at]) {
		w.frames[at] = now
		w.left.Again(at)
	}
	return api.OK
}
