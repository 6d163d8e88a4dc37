package arc_test

import (
	"bytes"
	"math"
	"reflect"
	"slices"
	"strings"
	"testing"

	"bonsai/api"
	"bonsai/arc"
)

// others are changes each of which makes the sample another one, written or not.
func others() map[string]func(*api.Class, *api.Method) {
	return map[string]func(*api.Class, *api.Method){
		"Name":               func(c *api.Class, m *api.Method) { c.Name = "c" },
		"Super":              func(c *api.Class, m *api.Method) { c.Super = "" },
		"an Iface":           func(c *api.Class, m *api.Method) { c.Ifaces[1] = "p" },
		"Ifaces' order":      func(c *api.Class, m *api.Method) { slices.Reverse(c.Ifaces) },
		"no Ifaces":          func(c *api.Class, m *api.Method) { c.Ifaces = nil },
		"more Ifaces":        func(c *api.Class, m *api.Method) { c.Ifaces = append(c.Ifaces, "P") },
		"Kind":               func(c *api.Class, m *api.Method) { c.Kind = math.MinInt },
		"a field's Name":     func(c *api.Class, m *api.Method) { c.Fields[2].Name = "H" },
		"a field's Kind":     func(c *api.Class, m *api.Method) { c.Fields[2].Type.Kind = api.Str },
		"a field's Class":    func(c *api.Class, m *api.Method) { c.Fields[2].Type.Class = "A" },
		"a field's Static":   func(c *api.Class, m *api.Method) { c.Fields[1].Static = false },
		"Fields' order":      func(c *api.Class, m *api.Method) { slices.Reverse(c.Fields) },
		"less Fields":        func(c *api.Class, m *api.Method) { c.Fields = c.Fields[:2] },
		"Methods' order":     func(c *api.Class, m *api.Method) { slices.Reverse(c.Methods) },
		"less Methods":       func(c *api.Class, m *api.Method) { c.Methods = c.Methods[:1] },
		"a method more":      func(c *api.Class, m *api.Method) { c.Methods = append(c.Methods, api.Method{}) },
		"a method's Name":    func(c *api.Class, m *api.Method) { m.Name += "\x00" },
		"a param's Kind":     func(c *api.Class, m *api.Method) { m.Params[0].Kind = api.Top },
		"a param's Class":    func(c *api.Class, m *api.Method) { m.Params[1].Class = "D" },
		"less Params":        func(c *api.Class, m *api.Method) { m.Params = m.Params[:2] },
		"no Params":          func(c *api.Class, m *api.Method) { m.Params = nil },
		"Ret's Kind":         func(c *api.Class, m *api.Method) { m.Ret.Kind = 0 },
		"Ret's Class":        func(c *api.Class, m *api.Method) { m.Ret.Class = "" },
		"Static":             func(c *api.Class, m *api.Method) { m.Static = true },
		"Abstract":           func(c *api.Class, m *api.Method) { m.Abstract = true },
		"Locals":             func(c *api.Class, m *api.Method) { m.Locals = -7 },
		"an Op":              func(c *api.Class, m *api.Method) { m.Code[9].Op += 1 << 32 },
		"an N":               func(c *api.Class, m *api.Method) { m.Code[0].N++ },
		"an N without use":   func(c *api.Class, m *api.Method) { m.Code[9].N++ },
		"a K":                func(c *api.Class, m *api.Method) { m.Code[api.Load-1].K++ },
		"a K without use":    func(c *api.Class, m *api.Method) { m.Code[9].K++ },
		"an S":               func(c *api.Class, m *api.Method) { m.Code[1].S = "" },
		"an S without use":   func(c *api.Class, m *api.Method) { m.Code[9].S = "s" },
		"a Class":            func(c *api.Class, m *api.Method) { m.Code[api.New-1].Class = "e" },
		"an instr's Name":    func(c *api.Class, m *api.Method) { m.Code[api.CallV-1].Name = "M" },
		"a Desc":             func(c *api.Class, m *api.Method) { m.Code[api.CallV-1].Desc = "()V" },
		"a Desc without use": func(c *api.Class, m *api.Method) { m.Code[9].Desc = "()V" },
		"the last instr":     func(c *api.Class, m *api.Method) { m.Code[len(m.Code)-1] = api.Instr{} },
		"less Code":          func(c *api.Class, m *api.Method) { m.Code = m.Code[:len(m.Code)-1] },
		"no Code":            func(c *api.Class, m *api.Method) { m.Code = nil },
		"Code's order":       func(c *api.Class, m *api.Method) { slices.Reverse(m.Code) },
		"From":               func(c *api.Class, m *api.Method) { m.Handlers[0].From++ },
		"To":                 func(c *api.Class, m *api.Method) { m.Handlers[1].To++ },
		"At":                 func(c *api.Class, m *api.Method) { m.Handlers[1].At = -1 },
		"Catch":              func(c *api.Class, m *api.Method) { m.Handlers[1].Catch = "c" },
		"Handlers' order":    func(c *api.Class, m *api.Method) { slices.Reverse(m.Handlers) },
		"less Handlers":      func(c *api.Class, m *api.Method) { m.Handlers = m.Handlers[:1] },
	}
}

func TestP5_4Same(t *testing.T) {
	if !arc.Same(sample(), sample()) {
		t.Error("the sample isn't itself")
	}
	for what, change := range others() {
		a := changed(change)
		if arc.Same(a, sample()) || arc.Same(sample(), a) {
			t.Errorf("the sample is the same with other %s", what)
		}
		if !arc.Same(a, changed(change)) {
			t.Errorf("the sample with other %s isn't itself", what)
		}
	}
}

func TestP5_4SameClasses(t *testing.T) {
	less, back, last := sample(), sample(), sample()
	less.Classes = less.Classes[:3]
	slices.Reverse(back.Classes)
	last.Classes[3].Kind++
	for i, a := range []api.Archive{{}, sample(), less, back, last, of(), {Classes: make([]api.Class, 1)}, {Classes: make([]api.Class, 2)}} {
		for j, b := range []api.Archive{{}, sample(), less, back, last, of(), {Classes: make([]api.Class, 1)}, {Classes: make([]api.Class, 2)}} {
			if got := arc.Same(a, b); got != (i == j) {
				t.Errorf("Same of archives %d, %d: %t", i, j, got)
			}
		}
	}
}

// A nil list and an empty one are the same.
func TestP5_4SameOfEmpty(t *testing.T) {
	none := []api.Archive{
		{Classes: []api.Class{{Methods: []api.Method{{}}}}},
		{Classes: []api.Class{{Ifaces: []string{}, Fields: []api.Field{}, Methods: []api.Method{{Params: []api.Type{}, Code: []api.Instr{}, Handlers: []api.Handler{}}}}}},
	}
	for _, a := range none {
		for _, b := range none {
			if !arc.Same(a, b) || !arc.Same(arc.Copy(a), b) {
				t.Errorf("%v and %v", a, b)
			}
		}
	}
	if !arc.Same(api.Archive{}, api.Archive{Classes: []api.Class{}}) || !arc.Same(api.Archive{Classes: []api.Class{}}, api.Archive{}) || arc.Same(of(), arc.Copy(api.Archive{})) {
		t.Error("no classes")
	}
	none[0].Classes[0].Methods = nil
	none[1].Classes[0].Methods = []api.Method{}
	if !arc.Same(none[0], none[1]) || !arc.Same(none[1], none[0]) {
		t.Error("no methods")
	}
}

// Lists of any length, of archives that can't be written.
func TestP5_4Long(t *testing.T) {
	const n = 300000
	c := api.Class{Kind: -1, Ifaces: make([]string, n), Fields: make([]api.Field, n), Methods: []api.Method{{Params: make([]api.Type, n), Code: make([]api.Instr, n), Handlers: make([]api.Handler, n)}}}
	a := api.Archive{Classes: append(make([]api.Class, n), c)}
	b := arc.Copy(a)
	if !arc.Same(a, b) || arc.Right(a) || len(arc.Put(a)) != 0 {
		t.Error("a long one")
	}
	b.Classes[n].Methods[0].Code[n-1].N = 1
	if arc.Same(a, b) {
		t.Error("another long one")
	}
}

func TestP5_4Copy(t *testing.T) {
	for _, a := range []api.Archive{{}, sample(), of(), {Classes: make([]api.Class, 3)}} {
		if got := arc.Copy(a); !arc.Same(got, a) {
			t.Errorf("Copy of %v: %v", a, got)
		}
	}
	for what, change := range others() {
		a := changed(change)
		if got := arc.Copy(a); !arc.Same(got, a) {
			t.Errorf("Copy of the sample with other %s", what)
		}
	}
}

// scrawl writes over all that hangs on a, and over the spare room behind it.
func scrawl(a api.Archive) {
	for i := range a.Classes[:cap(a.Classes)] {
		c := &a.Classes[:cap(a.Classes)][i]
		for j := range c.Methods[:cap(c.Methods)] {
			m := &c.Methods[:cap(c.Methods)][j]
			clear(m.Params[:cap(m.Params)])
			clear(m.Code[:cap(m.Code)])
			clear(m.Handlers[:cap(m.Handlers)])
			*m = api.Method{}
		}
		clear(c.Ifaces[:cap(c.Ifaces)])
		clear(c.Fields[:cap(c.Fields)])
		*c = api.Class{}
	}
}

func TestP5_4CopyIsNew(t *testing.T) {
	a := sample()
	scrawl(arc.Copy(a))
	if !arc.Same(a, sample()) {
		t.Errorf("a change of the copy is one of what was copied: %v", a)
	}
	b := arc.Copy(a)
	scrawl(a)
	if !arc.Same(b, sample()) {
		t.Errorf("a change of what was copied is one of the copy: %v", b)
	}
}

// What was written is read; what was read is written in one form, whatever form it had.
func TestP5_5(t *testing.T) {
	r := newScratch(55)
	for n := range 1000 {
		a := r.archive()
		b := arc.Put(a)
		got, e := arc.Read(b)
		if e != api.OK || !arc.Same(got, a) {
			t.Fatalf("archive %d: %d, %v, not %v", n, e, got, a)
		}
		if !bytes.Equal(arc.Put(got), b) {
			t.Errorf("archive %d is written otherwise again", n)
		}
		texts := append(textsOf(a), numbered("", r.Intn(9))...)
		r.Shuffle(len(texts), func(i, j int) { texts[i], texts[j] = texts[j], texts[i] })
		got, e = arc.Read(withTexts(a, texts...))
		if e != api.OK || !bytes.Equal(arc.Put(got), b) {
			t.Errorf("archive %d: %d of texts in another order", n, e)
		}
	}
	for what, a := range map[string]api.Archive{
		"none": {}, "the sample": sample(), "full": full(),
		"the most": {Classes: slices.Repeat([]api.Class{{Name: longest(), Super: longest(), Ifaces: slices.Repeat([]string{longest()}, api.MaxIfaces), Kind: api.Interface,
			Fields:  slices.Repeat([]api.Field{{Name: longest(), Type: ref(longest()), Static: true}}, api.MaxFields),
			Methods: slices.Repeat([]api.Method{{Name: longest(), Params: slices.Repeat([]api.Type{ref(longest())}, api.MaxParams), Ret: ref(longest()), Locals: api.MaxLocals, Handlers: slices.Repeat([]api.Handler{{From: api.MaxCode, Catch: longest()}}, api.MaxHandlers)}}, api.MaxMethods),
		}}, 20)},
		"the most code": of(slices.Repeat([]api.Method{{Name: "m", Ret: tVoid, Code: slices.Repeat([]api.Instr{{Op: api.PushS, S: strings.Repeat("\xff", api.MaxText)}}, api.MaxCode)}}, api.MaxMethods)...),
	} {
		if got, e := arc.Read(arc.Put(a)); e != api.OK || !arc.Same(got, a) {
			t.Errorf("%s: %d", what, e)
		}
	}
}

// DOC.md's rule 3: what is handed in is not changed, nor the spare room behind it, nor kept; what is answered is new memory.
func TestArchivesAreTheCallers(t *testing.T) {
	roomy := func() api.Archive {
		a := sample()
		a.Classes = a.Classes[:2]
		c := &a.Classes[0]
		c.Ifaces, c.Fields = c.Ifaces[:1], c.Fields[:2]
		c.Methods[0].Params, c.Methods[0].Code, c.Methods[0].Handlers = c.Methods[0].Params[:1], c.Methods[0].Code[:9], c.Methods[0].Handlers[:1]
		return a
	}
	// all tells what is there, with the spare room.
	all := func(a api.Archive) any {
		c := a.Classes[0]
		m := c.Methods[0]
		return []any{a.Classes[:cap(a.Classes)], c.Ifaces[:cap(c.Ifaces)], c.Fields[:cap(c.Fields)], m.Params[:cap(m.Params)], m.Code[:cap(m.Code)], m.Handlers[:cap(m.Handlers)]}
	}
	a := roomy()
	b := arc.Put(a)
	arc.Right(a)
	arc.Same(a, a)
	arc.Copy(a)
	if !reflect.DeepEqual(all(a), all(roomy())) {
		t.Errorf("what was handed in is now %v", a)
	}
	given := bytes.Clone(b)
	scrawl(a)
	if !bytes.Equal(b, given) {
		t.Error("what was written hangs on the archive")
	}
	got, _ := arc.Read(b)
	clear(b)
	if !arc.Same(got, roomy()) {
		t.Errorf("what was read hangs on the bytes: %v", got)
	}
	clear(arc.Put(sample()))
	if !bytes.Equal(arc.Put(sample()), encoded(sample())) {
		t.Error("what was answered is kept")
	}
}

// No two lists of what is read share memory: each is written over by itself.
func TestReadListsAreApart(t *testing.T) {
	alike := api.Method{Name: "m", Params: []api.Type{tInt, tStr}, Ret: tVoid, Code: []api.Instr{{Op: api.Pop}, {Op: api.RetV}}, Handlers: []api.Handler{{To: 1, Catch: "F"}}}
	c := api.Class{Name: "C", Super: "D", Ifaces: []string{"P"}, Kind: api.Plain, Fields: []api.Field{{Name: "f", Type: tInt}}, Methods: []api.Method{alike, alike, alike}}
	a := api.Archive{Classes: []api.Class{c, c, c}}
	got, e := arc.Read(arc.Put(a))
	if e != api.OK {
		t.Fatalf("Read: %d", e)
	}
	for _, left := range []int{2, 1, 0} {
		scrawl(api.Archive{Classes: got.Classes[left : left+1 : left+1]})
		if want := (api.Archive{Classes: a.Classes[:left]}); !arc.Same(api.Archive{Classes: got.Classes[:left]}, want) {
			t.Errorf("%d classes ahead: %v", left, got)
		}
	}
	got, _ = arc.Read(arc.Put(of(alike, alike)))
	m := got.Classes[0].Methods
	scrawl(api.Archive{Classes: []api.Class{{Methods: m[:1:1]}}})
	if !reflect.DeepEqual(m[1], alike) {
		t.Errorf("the method behind: %v", m[1])
	}
}
