package verify_test

import (
	"math/rand"
	"slices"
	"testing"

	"bonsai/api"
	"bonsai/arc"
	"bonsai/desc"
	"bonsai/flow"
	"bonsai/limits"
	"bonsai/shape"
	"bonsai/tree"
	"bonsai/verify"
)

// told is one thing that is wrong.
type told struct {
	p api.Place
	e api.Errno
}

// wrongs tells all that is wrong with a by the chapters, what is told first ahead: of form or shape just that.
func wrongs(a api.Archive) []told {
	if !arc.Right(a) {
		return []told{{api.Place{Class: -1, Method: -1, At: -1}, api.ErrForm}}
	}
	var l []told
	each(a, func(i, k int, m api.Method) {
		if n, e := limits.Method(m); e != api.OK {
			l = append(l, told{api.Place{Class: i, Method: k, At: n}, e})
		}
	})
	if n, e := shape.Check(a); e != api.OK {
		return append(l, told{api.Place{Class: n, Method: -1, At: -1}, e})
	}
	x := tree.New(a)
	each(a, func(i, k int, m api.Method) {
		if _, n, e := flow.Infer(x, a.Classes[i].Name, m); e != api.OK && !m.Abstract {
			l = append(l, told{api.Place{Class: i, Method: k, At: n}, e})
		}
	})
	return l
}

func each(a api.Archive, do func(class, method int, m api.Method)) {
	for i, c := range a.Classes {
		for k, m := range c.Methods {
			do(i, k, m)
		}
	}
}

// first is what Check is to tell.
func first(l []told) told {
	if len(l) == 0 {
		return told{}
	}
	return l[0]
}

// holdsFrames asks for the frames of all of a's methods, by the tree of all that a is.
func holdsFrames(t *testing.T, a api.Archive, fine bool) {
	t.Helper()
	x := tree.New(a)
	each(a, func(i, k int, m api.Method) {
		var want []api.Frame
		if fine && !m.Abstract {
			want, _, _ = flow.Infer(x, a.Classes[i].Name, m)
		}
		if got, ok := verify.Frames(a, i, k); ok != (fine && !m.Abstract) || !slices.EqualFunc(got, want, alike) {
			t.Fatalf("Frames(%d, %d): %v, %v, not %v, of %v", i, k, got, ok, want, a)
		}
	})
}

// holdsEntries asks of all names that there are, and some more.
func holdsEntries(t *testing.T, a api.Archive) int {
	t.Helper()
	n := 0
	for _, name := range append(all, "") {
		k := slices.IndexFunc(a.Classes, func(c api.Class) bool { return c.Name == name })
		for _, m := range []string{"s", "m", "n", "clinit", "gone", ""} {
			want := false
			if k >= 0 {
				l := a.Classes[k].Methods
				at := slices.IndexFunc(l, func(n api.Method) bool { return desc.Key(n) == m+"()V" })
				want = at >= 0 && l[at].Static && !l[at].Abstract && m != "clinit"
			}
			entry(t, "any", a, name, m, want)
			if want {
				n++
			}
		}
	}
	return n
}

func TestP14_1AnyArchive(t *testing.T) {
	count, far, entries, several := map[api.Errno]int{}, 0, 0, 0
	r := &maker{Rand: rand.New(rand.NewSource(14))}
	for k := range 1500 {
		r.odds = []int{150, 1000, 4000}[k%3]
		a := r.archive()
		if k%5 == 0 {
			r.hurt(a)
		}
		l := wrongs(a)
		want := first(l)
		if p, e := verify.Check(a); p != want.p || e != want.e {
			t.Fatalf("%d at %v, not %d at %v, of %v", e, p, want.e, want.p, a)
		}
		count[want.e]++
		if len(l) > 1 {
			several++
		}
		if want.p.Class > 0 && want.p.Method > 0 && want.p.At > 0 {
			far++
		}
		if k%10 == 0 {
			holdsFrames(t, a, want.e == api.OK)
		}
		if entries += holdsEntries(t, a); t.Failed() {
			t.Fatalf("of %v", a)
		}
	}
	for e, least := range map[api.Errno]int{
		api.OK: 600, api.ErrForm: 50, api.ErrLimit: 7, api.ErrName: 4, api.ErrSuper: 50, api.ErrMember: 70, api.ErrOverride: 9,
		api.ErrAbstract: 8, api.ErrCode: 50, api.ErrType: 90, api.ErrStack: 40, api.ErrEnd: 25, api.ErrMissing: 50,
	} {
		if count[e] < least {
			t.Errorf("of %d: %d, too few", e, count[e])
		}
	}
	if far < 90 || several < 120 || entries < 1200 {
		t.Errorf("%d at far places, %d of several errors, %d entries: too few", far, several, entries)
	}
}
