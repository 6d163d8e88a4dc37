package verify_test

import (
	"slices"
	"testing"

	"bonsai/api"
	"bonsai/verify"
)

func entry(t *testing.T, what string, a api.Archive, class, method string, want bool) {
	t.Helper()
	if got := verify.Entry(a, api.Entry{Class: class, Method: method}); got != want {
		t.Errorf("%s: Entry %q, %q: %v", what, class, method, got)
	}
}

func TestP14_1Entry(t *testing.T) {
	a := whole()
	a.Classes[main].Methods = append(a.Classes[main].Methods, method("", "go()V", 1, runV), method("s", "get()I", 0, num(1), in(api.Ret)))
	a.Classes[base].Methods = append(a.Classes[base].Methods, method("a", "far()V", 0), method("s", "begin()V", 0, runV))
	a.Classes[leaf].Methods = append(a.Classes[leaf].Methods, method("", "far()V", 1, runV))
	fine(t, "more", a)
	entry(t, "one", a, "Main", "main", true)
	entry(t, "of an abstract class", a, "Base", "begin", true)
	entry(t, "not its own", a, "Leaf", "begin", false)
	entry(t, "with a param", a, "Main", "try", false)
	entry(t, "that tells something", a, "Main", "get", false)
	entry(t, "of an object", a, "Main", "go", false)
	entry(t, "abstract", a, "Base", "far", false)
	entry(t, "clinit", a, "Base", "clinit", false)
	entry(t, "no method", a, "Main", "gone", false)
	entry(t, "no method", a, "Main", "", false)
	entry(t, "its key", a, "Main", "main()V", false)
	entry(t, "another case", a, "Main", "Main", false)
	entry(t, "no class", a, "Gone", "main", false)
	entry(t, "no class", a, "", "main", false)
	entry(t, "no class", arch(), "Main", "main", false)
	entry(t, "nothing", arch(), "", "", false)
	entry(t, "a builtin", a, "Object", "main", false)
}

// A method is told from others by its types, too: here those ahead of it have others.
func TestP14_1EntryByTypes(t *testing.T) {
	a := arch(class(api.Plain, "A", "Object", method("", "m(I)V", 2, runV), method("s", "m()I", 0, num(1), in(api.Ret)), method("s", "m()V", 0, runV), method("", "clinit(I)V", 2, runV)))
	entry(t, "the third one", a, "A", "m", true)
	entry(t, "another clinit", a, "A", "clinit", false)
	slices.Reverse(a.Classes[0].Methods)
	entry(t, "the second one", a, "A", "m", true)
}

// An interface, a final class may have an entry as well: whether it may have the method isn't asked.
func TestP14_1EntryOfKinds(t *testing.T) {
	for kind := api.Plain - 1; kind <= api.Interface+1; kind++ {
		entry(t, "of any kind", arch(class(kind, "A", "Object", method("s", "m()V", 0, runV))), "A", "m", true)
	}
}

// Of what isn't Verified the first ones count, and nothing else is asked.
func TestP14_1EntryOfOdd(t *testing.T) {
	good, late := method("s", "m()V", 0, runV), method("s", "n()V", 0, runV)
	a := arch(class(api.Plain, "A", "Gone", good), class(api.Plain, "A", "Object", late))
	entry(t, "of the first class", a, "A", "m", true)
	entry(t, "of the second class", a, "A", "n", false)
	twice := arch(class(api.Plain, "A", "Object", method("", "m()V", 1, runV), good, late, method("a", "n()V", 0)))
	entry(t, "the first method isn't static", twice, "A", "m", false)
	entry(t, "the first method is", twice, "A", "n", true)
	entry(t, "abstract and static", arch(class(api.Abstract, "A", "Object", method("sa", "m()V", 0))), "A", "m", false)
	entry(t, "without code", arch(class(api.Plain, "A", "Object", method("s", "m()V", 0))), "A", "m", true)
	entry(t, "a builtin's name", arch(class(api.Plain, "Fault", "Object", good)), "Fault", "m", true)
	entry(t, "no names", arch(class(api.Plain, "", "Object", api.Method{Ret: api.Type{Kind: api.Void}, Static: true})), "", "", true)
	entry(t, "a param without a text", arch(class(api.Plain, "A", "Object", api.Method{Name: "m", Params: make([]api.Type, 1), Ret: api.Type{Kind: api.Void}, Static: true})), "A", "m", true)
	entry(t, "no types", arch(class(api.Plain, "A", "Object", api.Method{Name: "m", Static: true})), "A", "m", false)
	for _, o := range slices.Concat(limited, shaped, flown) {
		entry(t, o.what, o.archive(), "Main", "main", true)
	}
}
