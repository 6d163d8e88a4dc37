package tree_test

import (
	"math/rand"
	"slices"
	"strconv"
	"testing"

	"bonsai/api"
	"bonsai/tree"
)

// plain is the chapter's rules, one by one, on a list that is gone through from its beginning.
type plain []api.Class

func plainOf(a api.Archive) plain {
	var p plain
	for _, b := range builtins {
		p = append(p, class(b[0], b[1]))
	}
	return append(p, a.Classes...)
}

func (p plain) find(name string) (api.Class, bool) {
	for _, c := range p {
		if c.Name == name {
			return c, true
		}
	}
	return api.Class{}, false
}

func (p plain) known(name string) bool {
	_, ok := p.find(name)
	return ok
}

// chain tells l, and behind it the Chain of name, as far as it isn't in l.
func (p plain) chain(name string, l ...string) []string {
	c, ok := p.find(name)
	if !ok || slices.Contains(l, name) {
		return l
	}
	return p.chain(c.Super, append(l, name)...)
}

// come tells l, and behind it what names come to, as far as it isn't in l.
func (p plain) come(names []string, l ...string) []string {
	for _, name := range names {
		if c, ok := p.find(name); ok && !slices.Contains(l, name) {
			l = p.come(c.Ifaces, append(l, name)...)
		}
	}
	return l
}

func (p plain) ifaces(name string) []string {
	var l []string
	for _, s := range p.chain(name) {
		c, _ := p.find(s)
		l = p.come(c.Ifaces, l...)
	}
	return l
}

// loops: more steps up than there are classes, or one of the Ifaces that are come to in so many steps.
func (p plain) loops(name string) bool {
	up, wide := name, []string{name}
	for range p {
		c, _ := p.find(up)
		up = c.Super
		if !p.known(up) {
			break
		}
	}
	for range p {
		var next []string
		for _, s := range wide {
			c, _ := p.find(s)
			next = append(next, c.Ifaces...)
		}
		slices.Sort(next)
		wide = slices.Compact(next)
		if slices.Contains(wide, name) {
			return p.known(name)
		}
	}
	return p.known(name) && p.known(up)
}

func (p plain) sub(a, b string) bool {
	return p.known(a) && p.known(b) && (a == b || b == "Object" || slices.Contains(p.chain(a), b) || slices.Contains(p.ifaces(a), b))
}

func (p plain) common(a, b string) string {
	c, _ := p.find(a)
	d, _ := p.find(b)
	if a != b && (c.Kind == api.Interface || d.Kind == api.Interface) {
		return "Object"
	}
	for _, s := range p.chain(a) {
		if slices.Contains(p.chain(b), s) {
			return s
		}
	}
	return "Object"
}

func (p plain) direct(name string) []string {
	var l []string
	for k, c := range p {
		if k >= len(builtins) && c.Super == name && !slices.ContainsFunc(p[:k], func(d api.Class) bool { return d.Name == c.Name }) {
			l = append(l, c.Name)
		}
	}
	return l
}

// anyNames are few, so that classes meet.
var anyNames = []string{"A", "B", "C", "D", "E", "F", "G", "H", "I", "J", "Object", "Fault", "NullFault", "gone", ""}

// anyArchive tells an archive whose classes name one another at odds, or, if it is calm, only those ahead of them.
func anyArchive(r *rand.Rand, calm bool) api.Archive {
	var a api.Archive
	n := r.Intn(12)
	for k := range n {
		some := func() string { return anyNames[r.Intn(len(anyNames))] }
		if calm {
			some = func() string {
				return append([]string{"Object", "Object", "Fault"}, anyNames[:min(k, 10)]...)[r.Intn(3+min(k, 10))]
			}
		}
		c := api.Class{Name: anyNames[k%10], Super: some(), Kind: 1 + r.Intn(4)}
		if !calm {
			c.Name = anyNames[r.Intn(len(anyNames))]
		}
		for range r.Intn(4) {
			c.Ifaces = append(c.Ifaces, some())
		}
		a.Classes = append(a.Classes, c)
	}
	return a
}

func TestP8_2AnyArchive(t *testing.T) {
	var count [6]int
	r := rand.New(rand.NewSource(8))
	for k := range 3000 {
		a := anyArchive(r, k%3 == 0)
		p, x := plainOf(a), tree.New(a)
		for _, name := range anyNames {
			heldOne(t, p, x, name, &count)
			for _, other := range anyNames {
				heldTwo(t, p, x, name, other, &count)
			}
			if t.Failed() {
				t.Fatalf("%q, of %v", name, a)
			}
		}
	}
	for k, n := range count {
		if n < 2000 {
			t.Errorf("of kind %d: %d, too few", k, n)
		}
	}
}

// heldOne asks x of one class, and counts who is Known, who Loops, and who has many Ifaces.
func heldOne(t *testing.T, p plain, x *tree.Tree, name string, count *[6]int) {
	t.Helper()
	want, ok := p.find(name)
	if c, known := x.Class(name); known != ok || !alike(c, want) {
		t.Errorf("Class: %v, %t, not %v", c, known, want)
	}
	is(t, "Known", x.Known(name), ok)
	text(t, "Super", x.Super(name), want.Super)
	lists(t, "Chain", x.Chain(name), p.chain(name)...)
	lists(t, "Ifaces", x.Ifaces(name), p.ifaces(name)...)
	lists(t, "Direct", x.Direct(name), p.direct(name)...)
	is(t, "Loops", x.Loops(name), p.loops(name))
	add(&count[0], ok)
	add(&count[1], p.loops(name))
	add(&count[2], len(p.ifaces(name)) > 2)
}

// heldTwo asks x of two classes, and counts who is a Sub, who isn't, and who has something in common.
func heldTwo(t *testing.T, p plain, x *tree.Tree, a, b string, count *[6]int) {
	t.Helper()
	sub, common := p.sub(a, b), p.common(a, b)
	is(t, a+" a Sub of "+b, x.Sub(a, b), sub)
	text(t, "Common "+a+" "+b, x.Common(a, b), common)
	add(&count[3], sub && a != b && b != "Object")
	add(&count[4], !sub)
	add(&count[5], common != a && common != "Object")
}

func add(n *int, is bool) {
	if is {
		*n++
	}
}

func number(k int) string { return "C" + strconv.Itoa(k) }

// Archives of any size: far up, and far along Ifaces.
func TestP8_2Far(t *testing.T) {
	const n = 200000
	var up, along, round []api.Class
	for k := range n {
		up = append(up, class(number(k), number(k+1)))
		along = append(along, iface(number(k), number(k+1), number(k+2)))
		round = append(round, class(number(k), number((k+1)%n), number((k+n-1)%n)))
	}
	x := tree.New(of(append(up, class(number(n), "Object"))...))
	if l := x.Chain(number(0)); len(l) != n+2 || l[n] != number(n) || l[n+1] != "Object" {
		t.Errorf("Chain of %d", len(l))
	}
	is(t, "Loops", x.Loops(number(0)), false)
	is(t, "Sub", x.Sub(number(0), number(n)), true)
	text(t, "Common", x.Common(number(0), number(n-1)), number(n-1))
	y := tree.New(of(along...))
	if l := y.Ifaces(number(0)); len(l) != n-1 || l[0] != number(1) || l[n-2] != number(n-1) {
		t.Errorf("Ifaces of %d", len(l))
	}
	is(t, "Loops", y.Loops(number(0)), false)
	is(t, "Sub", y.Sub(number(0), number(n-1)), true)
	z := tree.New(of(round...))
	if l := z.Chain(number(7)); len(l) != n || l[0] != number(7) || l[n-1] != number(6) {
		t.Errorf("Chain of %d", len(l))
	}
	if l := z.Ifaces(number(7)); len(l) != n || l[0] != number(6) || l[n-1] != number(7) {
		t.Errorf("Ifaces of %d", len(l))
	}
	is(t, "Loops", z.Loops(number(7)), true)
}

// An Interface that many name by many ways is come to once.
func TestP8_2ManyWays(t *testing.T) {
	var l []api.Class
	for k := range 300 {
		l = append(l, iface(number(k), number(k+1), number(k+1), number(k+2), number(k+3)))
	}
	x := tree.New(of(append(l, class("A", "Object", number(0), number(0)))...))
	if got := x.Ifaces("A"); len(got) != 300 || got[0] != number(0) || got[299] != number(299) {
		t.Errorf("Ifaces: %d", len(got))
	}
	is(t, "Loops", x.Loops(number(0)), false)
}
