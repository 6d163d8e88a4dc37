package member_test

import (
	"math/rand"
	"reflect"
	"slices"
	"testing"

	"bonsai/api"
	"bonsai/desc"
	"bonsai/member"
	"bonsai/tree"
)

// owned is a member, and whose it is.
type owned[M any] struct {
	class string
	m     M
}

// plain is the chapter's rules on lists of all members that may be meant, in order: those of a class's Chain, and those of its Ifaces.
type plain struct {
	fields        []owned[api.Field]
	methods, more []owned[api.Method]
	chain         []string
}

func plainOf(x *tree.Tree, class string) plain {
	p := plain{chain: x.Chain(class)}
	for _, name := range p.chain {
		c, _ := x.Class(name)
		for _, f := range c.Fields {
			p.fields = append(p.fields, owned[api.Field]{name, f})
		}
		for _, m := range c.Methods {
			p.methods = append(p.methods, owned[api.Method]{name, m})
		}
	}
	for _, name := range x.Ifaces(class) {
		c, _ := x.Class(name)
		for _, m := range c.Methods {
			p.more = append(p.more, owned[api.Method]{name, m})
		}
	}
	return p
}

// nearest tells the first of those that are so.
func nearest[M any](l []owned[M], so func(M) bool) (owned[M], bool) {
	for _, o := range l {
		if so(o.m) {
			return o, true
		}
	}
	return owned[M]{}, false
}

func (p plain) slots() []api.Field {
	var l []api.Field
	for k := len(p.chain) - 1; k >= 0; k-- {
		for _, o := range p.fields {
			if o.class == p.chain[k] && !o.m.Static {
				l = append(l, o.m)
			}
		}
	}
	return l
}

func (p plain) inits() []string {
	var l []string
	for _, o := range p.methods {
		if desc.Key(o.m) == "clinit()V" && !slices.Contains(l, o.class) {
			l = append([]string{o.class}, l...)
		}
	}
	return l
}

// Names are few, so that members meet.
var (
	anyClasses = []string{"A", "B", "C", "D", "E", "F", "I", "J", "K", "Object", "NullFault", "gone", ""}
	anyMembers = []string{"f", "m", "clinit"}
	anyDescs   = []string{"()V", "(I)V", "()LA;", ""}
)

func anyOf(r *rand.Rand, l []string) string { return l[r.Intn(len(l))] }

func anyClass(r *rand.Rand, k int) api.Class {
	up := anyClasses
	if r.Intn(4) > 0 { // those ahead of it, so that Chains get long
		up = append([]string{"Object"}, anyClasses[:min(k, 9)]...)
	}
	c := api.Class{Name: anyClasses[min(k, 12)], Super: anyOf(r, up), Kind: 1 + r.Intn(4)}
	for range r.Intn(3) {
		c.Ifaces = append(c.Ifaces, anyOf(r, anyClasses))
	}
	for range r.Intn(3) {
		c.Fields = append(c.Fields, api.Field{Name: anyOf(r, anyMembers), Type: ref(anyOf(r, anyClasses)), Static: r.Intn(2) == 0})
	}
	for k := range r.Intn(4) {
		what := anyOf(r, []string{"m", "m", "s", "a", "as"})
		c.Methods = append(c.Methods, method(what, anyOf(r, anyMembers), anyOf(r, anyDescs), 1+k))
	}
	return c
}

func TestP9_1AnyArchive(t *testing.T) {
	var count [6]int
	r := rand.New(rand.NewSource(9))
	for range 2000 {
		var a api.Archive
		for k := range r.Intn(14) {
			a.Classes = append(a.Classes, anyClass(r, k))
		}
		x := tree.New(a)
		for _, class := range anyClasses {
			p := plainOf(x, class)
			for _, name := range anyMembers {
				heldField(t, p, x, class, name, &count)
				for _, d := range anyDescs {
					heldMethod(t, p, x, class, name, d, &count)
				}
			}
			slots(t, x, class, p.slots()...)
			inits(t, x, class, p.inits()...)
			add(&count[4], len(p.slots()) > 2)
			add(&count[5], len(p.inits()) > 1)
		}
		if t.Failed() {
			t.Fatalf("of %v", a)
		}
	}
	for k, n := range count {
		if n < 300 {
			t.Errorf("of kind %d: %d, too few", k, n)
		}
	}
}

// heldField counts the fields that aren't class's own.
func heldField(t *testing.T, p plain, x *tree.Tree, class, name string, count *[6]int) {
	t.Helper()
	for _, static := range []bool{false, true} {
		want, ok := nearest(p.fields, func(f api.Field) bool { return f.Name == name && f.Static == static })
		if c, f, found := member.Field(x, class, name, static); c != want.class || f != want.m || found != ok {
			t.Errorf("Field of %q, %q, %t: %q, %v, %t, not %v", class, name, static, c, f, found, want)
		}
		add(&count[0], ok && want.class != class)
	}
}

// heldMethod counts the methods that aren't class's own, those of Ifaces, and those that Virtual passes by.
func heldMethod(t *testing.T, p plain, x *tree.Tree, class, name, d string, count *[6]int) {
	t.Helper()
	is := func(m api.Method) bool { return m.Name == name && desc.Of(m.Params, m.Ret) == d }
	runs := func(m api.Method) bool { return is(m) && !m.Static && !m.Abstract }
	want, ok := nearest(p.methods, is)
	add(&count[1], ok && want.class != class)
	if !ok {
		want, ok = nearest(p.more, is)
		add(&count[2], ok)
	}
	if c, m, found := member.Method(x, class, name, d); c != want.class || !reflect.DeepEqual(m, want.m) || found != ok {
		t.Errorf("Method of %q, %s%s: %q, %v, %t, not %v", class, name, d, c, m, found, want)
	}
	run, ok := nearest(p.methods, runs)
	if c, m, found := member.Virtual(x, class, name, d); c != run.class || !reflect.DeepEqual(m, run.m) || found != ok {
		t.Errorf("Virtual of %q, %s%s: %q, %v, %t, not %v", class, name, d, c, m, found, run)
	}
	add(&count[3], ok && !reflect.DeepEqual(run, want))
}

func add(n *int, is bool) {
	if is {
		*n++
	}
}
