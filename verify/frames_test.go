package verify_test

import (
	"slices"
	"strings"
	"testing"

	"bonsai/api"
	"bonsai/desc"
	"bonsai/verify"
)

// types are those of a text's words: descs of types, "N" for null, "T" for what isn't known.
func types(s string) []api.Type {
	var l []api.Type
	for _, w := range strings.Fields(s) {
		switch t, ok := desc.One(w); {
		case ok:
			l = append(l, t)
		case w == "N":
			l = append(l, api.Type{Kind: api.Null})
		case w == "T":
			l = append(l, api.Type{Kind: api.Top})
		default:
			panic(w)
		}
	}
	return l
}

// known is a frame of its text: Locals, "|", the Stack; "-" where nobody comes.
func known(s string) api.Frame {
	locals, stack, ok := strings.Cut(s, "|")
	if !ok {
		return api.Frame{}
	}
	return api.Frame{Reached: true, Locals: types(locals), Stack: types(stack)}
}

func alike(a, b api.Frame) bool {
	return a.Reached == b.Reached && slices.Equal(a.Locals, b.Locals) && slices.Equal(a.Stack, b.Stack)
}

// frames asks for the frames of a's method there, in the order of its code.
func frames(t *testing.T, a api.Archive, class, method int, want ...string) {
	t.Helper()
	l, ok := verify.Frames(a, class, method)
	if !ok || len(l) != len(want) {
		t.Errorf("Frames(%d, %d): %v, %v", class, method, l, ok)
		return
	}
	for k, s := range want {
		if !alike(l[k], known(s)) {
			t.Errorf("Frames(%d, %d): %v at %d, not %q", class, method, l[k], k, s)
		}
	}
}

func noFrames(t *testing.T, what string, a api.Archive, class, method int) {
	t.Helper()
	if l, ok := verify.Frames(a, class, method); l != nil || ok {
		t.Errorf("%s: Frames(%d, %d): %v, %v", what, class, method, l, ok)
	}
}

func TestP14_1Frames(t *testing.T) {
	a := whole()
	frames(t, a, main, 0, "T|", "T|LLeaf;", "LLeaf;|", "LLeaf;|LLeaf;", "LLeaf;|LLeaf; I", "LLeaf;|I", "LLeaf;|S", "LLeaf;|")
	frames(t, a, main, 1, "I|")
	frames(t, a, main, 2, "LBase;|", "LBase;|LBase;", "LBase;|LBase;", "LBase;|", "LBase;|I", "LBase;|LBad;", "LBase;|", "LBase;|I")
	frames(t, a, leaf, 0, "LLeaf;|", "LLeaf;|LBad;", "-")
	frames(t, a, leaf, 1, "LLeaf; I|", "LLeaf; I|LLeaf;", "LLeaf; I|LBase;", "LLeaf; I|", "LLeaf; I|I")
	frames(t, a, base, 1, "|", "|S", "|")
	frames(t, a, base, 2, "LBase; T T|", "LBase; T T|LBase;", "LBase; T T|LBase;", "LBase; LBase; T|", "LBase; LBase; T|LBase;", "LBase; LBase; T|LBase; LBase;", "LBase; LBase; T|LBase;", "LBase; LBase; T|LBase;", "LBase; LBase; T|", "LBase; LBase; T|I", "LBase; LBase; T|")
}

func TestP14_1FramesOfNone(t *testing.T) {
	a := whole()
	noFrames(t, "abstract", a, face, 0)
	noFrames(t, "abstract", a, base, 0)
	noFrames(t, "without methods", a, bad, 0)
	for _, k := range []int{-1, len(a.Classes), len(a.Classes) + 1, 1 << 40, -1 << 62} {
		noFrames(t, "no class", a, k, 0)
		noFrames(t, "no class", arch(), k, 0)
	}
	for _, n := range []int{-1, 3, 4, 1 << 40, -1 << 62} {
		noFrames(t, "no method", a, main, n)
	}
	noFrames(t, "no class, no method", a, -1, -1)
}

// What is wrong anywhere is wrong of all methods.
func TestP14_1FramesOfOdd(t *testing.T) {
	for _, o := range slices.Concat(limited, shaped, flown) {
		a := o.archive()
		for k, c := range a.Classes {
			for n := range c.Methods {
				noFrames(t, o.what, a, k, n)
			}
		}
	}
}

// wipe writes all over l, the room behind it included.
func wipe(l []api.Type) {
	l = l[:cap(l)]
	for k := range l {
		l[k] = api.Type{Kind: 99}
	}
}

func TestFramesShareNothing(t *testing.T) {
	a := whole()
	for k, c := range a.Classes {
		for n, m := range c.Methods {
			was, _ := verify.Frames(a, k, n)
			for at := range m.Code {
				l, _ := verify.Frames(a, k, n)
				wipe(l[at].Locals)
				wipe(l[at].Stack)
				for other := range l {
					if other != at && !alike(l[other], was[other]) {
						t.Errorf("%d, %d: the frames at %d and %d share", k, n, at, other)
					}
				}
			}
		}
	}
	fine(t, "whole", a)
}
