package shape_test

import (
	"math/rand"
	"slices"
	"strconv"
	"testing"

	"bonsai/api"
	"bonsai/desc"
	"bonsai/member"
	"bonsai/shape"
	"bonsai/tree"
)

// plain is the chapter's rules, one by one, asked of an archive and its tree as they stand.
type plain struct {
	a api.Archive
	x *tree.Tree
}

func (p plain) check() (int, api.Errno) {
	rules := []struct {
		e     api.Errno
		wrong func(int, api.Class) bool
	}{
		{api.ErrName, p.name}, {api.ErrSuper, p.super}, {api.ErrSuper, p.ifaces}, {api.ErrMember, p.fields},
		{api.ErrMember, p.methods}, {api.ErrOverride, p.override}, {api.ErrAbstract, p.abstract},
	}
	for k, c := range p.a.Classes {
		for _, rule := range rules {
			if rule.wrong(k, c) {
				return k, rule.e
			}
		}
	}
	return 0, api.OK
}

func (p plain) kind(name string) int {
	c, _ := p.x.Class(name)
	return c.Kind
}

func (p plain) name(k int, c api.Class) bool {
	for _, d := range p.a.Classes[:k] {
		if c.Name == d.Name {
			return true
		}
	}
	return slices.Contains(builtins, c.Name)
}

func (p plain) super(_ int, c api.Class) bool {
	up := p.kind(c.Super)
	return !p.x.Known(c.Super) || up == api.Interface || up == api.Final || c.Kind == api.Interface && c.Super != "Object" || p.x.Loops(c.Name)
}

func (p plain) ifaces(_ int, c api.Class) bool {
	for k, s := range c.Ifaces {
		if !p.x.Known(s) || p.kind(s) != api.Interface || slices.Contains(c.Ifaces[:k], s) {
			return true
		}
	}
	return false
}

func (p plain) unknown(l ...api.Type) bool {
	for _, t := range l {
		if t.Kind == api.Ref && !p.x.Known(t.Class) {
			return true
		}
	}
	return false
}

func (p plain) fields(_ int, c api.Class) bool {
	for k, f := range c.Fields {
		for _, g := range c.Fields[:k] {
			if f.Name == g.Name {
				return true
			}
		}
		if p.unknown(f.Type) || c.Kind == api.Interface {
			return true
		}
	}
	return false
}

func (p plain) methods(_ int, c api.Class) bool {
	for k, m := range c.Methods {
		for _, n := range c.Methods[:k] {
			if desc.Key(m) == desc.Key(n) {
				return true
			}
		}
		if p.unknown(append([]api.Type{m.Ret}, m.Params...)...) {
			return true
		}
		if c.Kind == api.Interface && (!m.Abstract || m.Static) {
			return true
		}
		if m.Abstract && (m.Static || c.Kind != api.Abstract && c.Kind != api.Interface) {
			return true
		}
		if m.Name == "clinit" && (!m.Static || m.Abstract || desc.Of(m.Params, m.Ret) != "()V") {
			return true
		}
	}
	return false
}

// above tells the methods of class's Chain behind it, and of its Ifaces.
func (p plain) above(class string) []api.Method {
	var l []api.Method
	for _, s := range append(p.x.Chain(class)[1:], p.x.Ifaces(class)...) {
		c, _ := p.x.Class(s)
		l = append(l, c.Methods...)
	}
	return l
}

func (p plain) override(_ int, c api.Class) bool {
	for _, m := range c.Methods {
		for _, n := range p.above(c.Name) {
			if desc.Key(m) == desc.Key(n) && m.Static != n.Static {
				return true
			}
		}
	}
	return false
}

func (p plain) abstract(_ int, c api.Class) bool {
	return (c.Kind == api.Plain || c.Kind == api.Final) && len(p.missing(c.Name)) > 0
}

// missing asks member.Virtual of each abstract method by itself.
func (p plain) missing(class string) []string {
	var l []string
	for _, s := range append(p.x.Chain(class), p.x.Ifaces(class)...) {
		c, _ := p.x.Class(s)
		for _, m := range c.Methods {
			if _, _, ok := member.Virtual(p.x, class, m.Name, desc.Of(m.Params, m.Ret)); m.Abstract && !ok {
				l = append(l, desc.Key(m))
			}
		}
	}
	slices.Sort(l)
	return slices.Compact(l)
}

// Names are few, so that classes and members meet.
var (
	anyClasses = []string{"A", "B", "C", "D", "E", "F", "G", "H", "Object", "NullFault", "gone", ""}
	anyKeys    = []string{"m()V", "m()V", "n()V", "m(LA;)V", "m()LB;", "clinit()V"}
)

// anyOne is a maker of archives that are wrong in few places: in one of odds.
type anyOne struct {
	*rand.Rand
	odds int
}

func (r anyOne) odd() bool { return r.Intn(r.odds) == 0 }

func (r anyOne) of(l []string) string { return l[r.Intn(len(l))] }

// archive tells classes that name, as a rule, those ahead of them, and has them in any order.
func (r anyOne) archive() api.Archive {
	var l []api.Class
	ups, ifaces := []string{"Object", "Object", "NullFault"}, []string{}
	for k := range r.Intn(8) {
		c := api.Class{Name: anyClasses[k], Super: r.of(ups), Kind: []int{api.Plain, api.Abstract, api.Abstract, api.Final, api.Interface, api.Interface}[r.Intn(6)]}
		if r.odd() {
			c.Name = r.of(anyClasses)
		}
		if c.Kind == api.Interface && !r.odd() {
			c.Super = "Object"
		}
		if r.odd() {
			c.Super = r.of(anyClasses)
		}
		if len(ifaces) > 0 && r.Intn(2) == 0 {
			c.Ifaces = append(c.Ifaces, r.of(ifaces))
		}
		if r.odd() {
			c.Ifaces = append(c.Ifaces, r.of(anyClasses))
		}
		r.members(&c)
		l = append(l, c)
		switch c.Kind {
		case api.Interface:
			ifaces = append(ifaces, c.Name)
		case api.Plain, api.Abstract:
			ups = append(ups, c.Name, c.Name)
		}
	}
	r.Shuffle(len(l), func(i, j int) { l[i], l[j] = l[j], l[i] })
	return of(l...)
}

func (r anyOne) members(c *api.Class) {
	if c.Kind != api.Interface || r.odd() {
		for k := range r.Intn(3) {
			f := api.Field{Name: []string{"f", "g"}[k], Type: tInt, Static: r.Intn(2) == 0}
			if r.odd() {
				f.Name, f.Type = "g", ref(r.of(anyClasses))
			}
			c.Fields = append(c.Fields, f)
		}
	}
	for range r.Intn(4) {
		key := r.of(anyKeys)
		what := map[int]string{api.Interface: "a", api.Abstract: r.of([]string{"", "", "a", "a", "s"})}[c.Kind]
		if r.odd() || key == "clinit()V" {
			what = "s"
		}
		if r.odd() {
			what = r.of([]string{"", "a", "as"})
		}
		m := method(what, key)
		if r.odd() {
			m.Ret = ref(r.of(anyClasses))
		}
		again := func(n api.Method) bool { return desc.Key(n) == desc.Key(m) }
		if (m.Name != "clinit" || c.Kind != api.Interface) && !slices.ContainsFunc(c.Methods, again) || r.odd() {
			c.Methods = append(c.Methods, m)
		}
	}
}

func TestP10_1AnyArchive(t *testing.T) {
	count, far, lack := map[api.Errno]int{}, 0, 0
	r := anyOne{rand.New(rand.NewSource(10)), 9}
	for k := range 30000 {
		r.odds = []int{6, 20, 100}[k%3]
		a := r.archive()
		p := plain{a, tree.New(a)}
		at, e := p.check()
		if k, got := shape.Check(a); k != at || got != e {
			t.Fatalf("%d at %d, not %d at %d, of %v", got, k, e, at, a)
		}
		count[e]++
		if at > 2 {
			far++
		}
		for _, name := range anyClasses {
			want := p.missing(name)
			missing(t, p.x, name, want...)
			if len(want) > 1 {
				lack++
			}
		}
		if t.Failed() {
			t.Fatalf("of %v", a)
		}
	}
	for _, e := range []api.Errno{api.OK, api.ErrName, api.ErrSuper, api.ErrMember, api.ErrOverride, api.ErrAbstract} {
		if count[e] < 500 {
			t.Errorf("%d: %d times, too few", e, count[e])
		}
	}
	if far < 500 || lack < 5000 {
		t.Errorf("at a far place %d times, with Missing ones %d times: too few", far, lack)
	}
}

// Of an archive that passes, what can be called of a class, in whatever way, is there for each object that may stand for it.
func TestP10_3AnyArchive(t *testing.T) {
	r, held := anyOne{rand.New(rand.NewSource(11)), 100}, 0
	for range 20000 {
		a := r.archive()
		if _, e := shape.Check(a); e != api.OK {
			continue
		}
		x := tree.New(a)
		for _, made := range a.Classes {
			for _, c := range a.Classes {
				if (made.Kind == api.Plain || made.Kind == api.Final) && x.Sub(made.Name, c.Name) {
					held += promised(t, x, made.Name, c.Name)
				}
			}
		}
		if t.Failed() {
			t.Fatalf("of %v", a)
		}
	}
	if held < 5000 {
		t.Errorf("held %d times, too few", held)
	}
}

// promised asks made of all methods that class has, and tells how many.
func promised(t *testing.T, x *tree.Tree, made, class string) int {
	t.Helper()
	n := 0
	for _, key := range anyKeys {
		m := method("", key)
		d := desc.Of(m.Params, m.Ret)
		_, m, ok := member.Method(x, class, m.Name, d)
		if !ok || m.Static {
			continue
		}
		n++
		if _, _, ok := member.Virtual(x, made, m.Name, d); !ok {
			t.Errorf("%s as %s: no %s", made, class, key)
		}
	}
	return n
}

func number(k int) string { return "C" + strconv.Itoa(k) }

// As many classes and methods as an archive can have, each below the one ahead of it, and with some code.
func far() []api.Class {
	var l []api.Class
	for k := range api.MaxClasses {
		super := "Object"
		if k > 0 {
			super = number(k - 1)
		}
		c := abstract(number(k), super)
		for n := range api.MaxMethods {
			m := method("", "m"+strconv.Itoa(n)+"()V")
			if k < 100 && n == k {
				m = method("a", "m"+strconv.Itoa(n)+"()V")
			}
			m.Code = make([]api.Instr, 20)
			c.Methods = append(c.Methods, m)
		}
		l = append(l, c)
	}
	l[len(l)-1].Kind = api.Final
	return l
}

func TestP10_1Far(t *testing.T) {
	l := far()
	fine(t, "all there", l...)
	first, last := &l[0].Methods[50], &l[len(l)-1]
	first.Name, first.Abstract = "far", true
	wrong(t, "an abstract one far above", len(l)-1, api.ErrAbstract, l...)
	missing(t, tree.New(of(l...)), last.Name, "far()V")
	first.Abstract, first.Static = false, true
	last.Methods[7].Name = "far"
	wrong(t, "a static one far above", len(l)-1, api.ErrOverride, l...)
}

// All methods of all classes are missing.
func TestP10_2Far(t *testing.T) {
	l := far()
	for k := range l {
		for n := range l[k].Methods {
			m := &l[k].Methods[n]
			m.Name, m.Abstract = "m"+strconv.Itoa(n)+"_"+strconv.Itoa(k), true
		}
	}
	x := tree.New(of(l...))
	got := shape.Missing(x, number(len(l)-1))
	if len(got) != api.MaxClasses*api.MaxMethods || !slices.IsSorted(got) || got[0] != "m0_0()V" {
		t.Errorf("Missing: %d", len(got))
	}
	if got := shape.Missing(x, number(1)); len(got) != 2*api.MaxMethods {
		t.Errorf("Missing: %d", len(got))
	}
}

// Archives of any size.
func TestP10_1Many(t *testing.T) {
	const n = 50000
	var l []api.Class
	for k := range n {
		l = append(l, plainly(number(k), "Object", "I", method("", "m()V"), field("f", ref(number(n-1-k)))))
	}
	l = append(l, iface("I", method("a", "m()V")))
	fine(t, "wide", l...)
	l = append(l, plainly(number(n-1), "Object"))
	wrong(t, "wide, twice", n+1, api.ErrName, l...)
	var methods []any
	for k := range n {
		methods = append(methods, method("", "m"+number(k)+"()V"))
	}
	a := plainly("A", "Object", methods...)
	fine(t, "many methods", a, plainly("B", "A", methods...))
	b := plainly("B", "A", append(methods, method("", "m"+number(7)+"()V"))...)
	wrong(t, "many methods, twice", 1, api.ErrMember, a, b)
	b.Methods = b.Methods[:n]
	b.Methods[n-1].Static = true
	wrong(t, "many methods, one static", 1, api.ErrOverride, a, b)
}
