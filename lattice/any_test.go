package lattice_test

import (
	"math/rand"
	"testing"

	"bonsai/api"
	"bonsai/lattice"
	"bonsai/tree"
)

// object: what Null may stand for.
func object(a api.Type) bool { return a.Kind == api.Arr || a.Kind == api.Ref }

// joinOf is the chapter's rule of Join, one case behind the other.
func joinOf(x *tree.Tree, a, b api.Type) api.Type {
	if a == b {
		return a
	}
	if a.Kind == api.Null && a.Class == "" && object(b) {
		return b
	}
	if b.Kind == api.Null && b.Class == "" && object(a) {
		return a
	}
	if a.Kind == api.Ref && b.Kind == api.Ref {
		return ref(x.Common(a.Class, b.Class))
	}
	return top
}

func fitsOf(x *tree.Tree, a, b api.Type) bool {
	return a == b && a.Kind != api.Top || a.Kind == api.Null && object(b) || a.Kind == api.Ref && b.Kind == api.Ref && x.Sub(a.Class, b.Class)
}

// anyClass tells a class whose names are few, so that classes meet, loops among them.
func anyClass(r *rand.Rand) api.Class {
	name := func() string { return names[r.Intn(len(names))] }
	c := api.Class{Name: name(), Super: name(), Kind: 1 + r.Intn(4)}
	for range r.Intn(3) {
		c.Ifaces = append(c.Ifaces, name())
	}
	return c
}

func TestP11_1AnyTree(t *testing.T) {
	r := rand.New(rand.NewSource(11))
	types := all()
	unlike, below := 0, 0
	for range 300 {
		var a api.Archive
		for range r.Intn(14) {
			a.Classes = append(a.Classes, anyClass(r))
		}
		x := tree.New(a)
		var l, m, want []api.Type
		for _, p := range types {
			for _, q := range types {
				one := joinOf(x, p, q)
				joined(t, x, p, q, one)
				fits(t, x, p, q, fitsOf(x, p, q))
				l, m, want = append(l, p), append(m, q), append(want, one)
				if p != q && one.Kind == api.Ref && one.Class != api.Object {
					unlike++
				}
				if p != q && q.Class != api.Object && p.Kind == api.Ref && fitsOf(x, p, q) {
					below++
				}
			}
		}
		got, ok := lattice.All(x, l, m)
		for k := range want {
			if !ok || got[k] != want[k] {
				t.Fatalf("All at %d: %v, %t, not %v", k, got[k], ok, want[k])
			}
		}
		if t.Failed() {
			t.Fatalf("of %v", a)
		}
	}
	if unlike < 3000 || below < 1000 {
		t.Errorf("too few: %d, %d", unlike, below)
	}
}
