package arc_test

import (
	"bytes"
	"math"
	"slices"
	"strings"
	"testing"

	"bonsai/api"
	"bonsai/arc"
	"bonsai/desc"
	"bonsai/wire"
)

// taken asks Read of b, which says a.
func taken(t *testing.T, what string, b []byte, a api.Archive) {
	t.Helper()
	given := bytes.Clone(b)
	got, e := arc.Read(b)
	if e != api.OK || !arc.Same(got, a) {
		t.Errorf("%s: Read: %d, %.300v", what, e, got)
	}
	if !bytes.Equal(b, given) {
		t.Errorf("%s: Read changed its bytes", what)
	}
}

// refused asks Read of b, in which that is wrong.
func refused(t *testing.T, what string, b []byte, want api.Errno) {
	t.Helper()
	if a, e := arc.Read(b); e != want || len(a.Classes) != 0 {
		t.Errorf("%s: Read: %d, not %d; %d classes", what, e, want, len(a.Classes))
	}
}

func TestP5_3Read(t *testing.T) {
	taken(t, "none", []byte("BON1\x00\x00"), api.Archive{})
	taken(t, "a class", []byte("BON1\x02\x01C\x06Object\x01\x00\x00\x01\x00\x00\x01\x00\x00"), of())
	taken(t, "the sample", encoded(sample()), sample())
	taken(t, "full", encoded(full()), full())
}

// What the pool has beside its texts, and in which order, isn't the archive's.
func TestP5_3ReadPool(t *testing.T) {
	taken(t, "texts of no classes", []byte("BON1\x02\x01C\x00\x00"), api.Archive{})
	taken(t, "one without use", []byte("BON1\x03\x06Object\x00\x01C\x01\x02\x00\x00\x00\x00\x01\x00\x00"), of())
	taken(t, "one twice", []byte("BON1\x04\x01C\x06Object\x01C\x01C\x01\x03\x00\x01\x00\x02\x02\x00\x00\x00\x01\x00\x00"),
		api.Archive{Classes: []api.Class{{Name: "C", Super: "Object", Ifaces: []string{"C", "C"}, Kind: api.Plain}}})
	texts := textsOf(sample())
	back := slices.Clone(texts)
	slices.Reverse(back)
	sorted := slices.Sorted(slices.Values(texts))
	for what, l := range map[string][]string{
		"backwards":    back,
		"sorted":       sorted,
		"behind more":  append(numbered("x", 300), texts...),
		"ahead of":     append(slices.Clone(texts), numbered("x", 300)...),
		"all twice":    append(slices.Clone(back), texts...),
		"most of them": append(slices.Repeat([]string{""}, api.MaxPool-len(texts)), texts...),
	} {
		b := withTexts(sample(), l...)
		taken(t, what, b, sample())
		if bytes.Equal(b, encoded(sample())) {
			t.Errorf("%s: the texts are in their order", what)
		}
	}
	refused(t, "one more text", withTexts(sample(), append(slices.Repeat([]string{""}, api.MaxPool-len(texts)+1), texts...)...), api.ErrLimit)
	refused(t, "a text that is too long", withTexts(of(), "C", "Object", strings.Repeat("x", api.MaxText+1)), api.ErrLimit)
	taken(t, "a long one", withTexts(of(), "C", "Object", strings.Repeat("x", api.MaxText)), of())
}

func TestP5_3Mark(t *testing.T) {
	for _, s := range []string{"", "B", "BON", "BON2\x00\x00", "bON1\x00\x00", "BON\x00\x00\x00", "\x00BON1\x00\x00", " BON1", "NOB1\x00\x00", "BO\x801\x80\x80", "XXXX"} {
		refused(t, s, []byte(s), api.ErrForm)
	}
	refused(t, "nil", nil, api.ErrForm)
	refused(t, "the mark alone", []byte("BON1"), api.ErrShort)
	refused(t, "the mark and a pool", []byte("BON1\x00"), api.ErrShort)
}

func TestP5_3Short(t *testing.T) {
	b := encoded(sample())
	for i := 4; i < len(b); i++ {
		refused(t, "less", b[:i], api.ErrShort)
	}
	taken(t, "all", b, sample())
	for _, more := range []string{"\x00", "\x80", "\x01", "BON1\x00\x00", strings.Repeat("\xff", 99)} {
		refused(t, "more", append(bytes.Clone(b), more...), api.ErrForm)
	}
	refused(t, "more than none", []byte("BON1\x00\x00\x00"), api.ErrForm)
}

// A number of no text: also where there are no texts at all, ahead of what comes behind it.
func TestP5_3Numbers(t *testing.T) {
	for s, want := range map[string]api.Errno{
		"\x00\x01":                 api.ErrShort,
		"\x00\x01\x00":             api.ErrShort,
		"\x00\x01\x00\x00":         api.ErrLimit,
		"\x00\x01\x01\x00":         api.ErrLimit,
		"\x00\x01\x00\x00\x00\x00": api.ErrLimit,
		"\x00\x01\x00\x00\x00\x00\x80\x80\x80\x80\x80\x80\x80\x80\x80":           api.ErrLimit,
		"\x00\x01\x00\x00\x00\x00\x00\x01\x00\x00":                               api.ErrLimit,
		"\x01\x01C\x01\x00\x00":                                                  api.ErrShort,
		"\x01\x01C\x01\x00\x00\x00":                                              api.ErrShort,
		"\x01\x01C\x01\x00\x00\x00\x00\x00\x01\x00\x00":                          api.OK,
		"\x01\x01C\x01\x01\x00\x00\x00\x00\x01\x00\x00":                          api.ErrLimit,
		"\x01\x01C\x01\x00\x01\x00\x00\x00\x01\x00\x00":                          api.ErrLimit,
		"\x01\x01C\x01\x00\x00\x01\x00\x00\x01\x00\x00":                          api.ErrLimit,
		"\x01\x01C\x01\x00\x00\xff\xff\x00\x01\x00\x00":                          api.ErrLimit,
		"\x01\x01C\x01\x00\x00\xff":                                              api.ErrShort,
		"\x01\x01C\x01\x00\x00\x00\x00\x01\x01\x00\x01\x00\x00":                  api.ErrLimit,
		"\x02\x01C\x01I\x01\x00\x00\x00\x00\x00\x01\x01\x00\x00\x01\x00\x00\x00": api.OK,
		"\x02\x01C\x01I\x01\x00\x00\x00\x00\x00\x01\x01\x02\x00\x01\x00\x00\x00": api.ErrLimit,
		"\x02\x01C\x01I\x01\x00\x00\x00\x00\x00\x01\x01\x00\x00\x02\x00\x00\x00": api.ErrLimit,
	} {
		b := []byte("BON1" + s)
		if a, e := arc.Read(b); e != want || (len(a.Classes) == 1) != (want == api.OK) {
			t.Errorf("Read of %q: %d, not %d; %d classes", b, e, want, len(a.Classes))
		}
	}
}

// Each number of the sample's first class: up to its limit, and one above.
func TestP5_3Limits(t *testing.T) {
	for what, x := range map[string]struct {
		put  func(*api.Class, *api.Method, int)
		most int
	}{
		"Kind":   {func(c *api.Class, m *api.Method, n int) { c.Kind = n }, api.Interface},
		"Locals": {func(c *api.Class, m *api.Method, n int) { m.Locals = n }, api.MaxLocals},
		"From":   {func(c *api.Class, m *api.Method, n int) { m.Handlers[1].From = n }, api.MaxCode},
		"To":     {func(c *api.Class, m *api.Method, n int) { m.Handlers[0].To = n }, api.MaxCode},
		"At":     {func(c *api.Class, m *api.Method, n int) { m.Handlers[1].At = n }, api.MaxCode},
		"Load":   {func(c *api.Class, m *api.Method, n int) { m.Code[api.Load-1].K = n }, api.MaxCode},
		"Store":  {func(c *api.Class, m *api.Method, n int) { m.Code[api.Store-1].K = n }, api.MaxCode},
		"Jump":   {func(c *api.Class, m *api.Method, n int) { m.Code[api.Jump-1].K = n }, api.MaxCode},
		"JumpZ":  {func(c *api.Class, m *api.Method, n int) { m.Code[api.JumpZ-1].K = n }, api.MaxCode},
		"Op":     {func(c *api.Class, m *api.Method, n int) { m.Code[api.Exit-1] = api.Instr{Op: n} }, api.Ops - 1},
	} {
		with := func(n int) api.Archive {
			return changed(func(c *api.Class, m *api.Method) { x.put(c, m, n) })
		}
		for _, n := range []int{1, x.most - 1, x.most} {
			if a := with(n); arc.Right(a) {
				taken(t, what, encoded(a), a)
			}
		}
		taken(t, what+" at its limit", encoded(with(x.most)), with(x.most))
		for _, n := range []int{x.most + 1, 2*x.most + 1, 1 << 32, math.MaxInt} {
			refused(t, what+" above its limit", encoded(with(n)), api.ErrLimit)
		}
	}
}

// How many there are: up to the limit, and one above, whether they are there or not.
func TestP5_3Counts(t *testing.T) {
	class := "\x01\x00\x00\x00\x00" // the only one, Name and Super
	for what, x := range map[string]struct {
		head, one, tail string
		most            int
	}{
		"texts":    {"", "\x01C", "\x00", api.MaxPool},
		"classes":  {"\x01\x01C", "\x00\x00\x00\x00\x00\x01\x00\x00", "", api.MaxClasses},
		"Ifaces":   {"\x01\x01C" + class, "\x00\x00", "\x01\x00\x00", api.MaxIfaces},
		"Fields":   {"\x02\x01C\x01I" + class + "\x00\x01", "\x00\x00\x01\x00\x00", "\x00", api.MaxFields},
		"Methods":  {"\x02\x01C\x03()V" + class + "\x00\x01\x00", "\x00\x00\x01\x00\x00\x00\x00\x00", "", api.MaxMethods},
		"Code":     {"\x02\x01C\x03()V" + class + "\x00\x01\x00\x01\x00\x00\x01\x00\x00\x00", "\x06", "\x00", api.MaxCode},
		"Handlers": {"\x02\x01C\x03()V" + class + "\x00\x01\x00\x01\x00\x00\x01\x00\x00\x00\x00", "\x01\x02\x03\x00\x00", "", api.MaxHandlers},
	} {
		with := func(n, there int) []byte {
			return []byte("BON1" + x.head + string(wire.Num(nil, n)) + strings.Repeat(x.one, there) + x.tail)
		}
		for _, n := range []int{0, 1, x.most - 1, x.most} {
			if _, e := arc.Read(with(n, n)); e != api.OK {
				t.Errorf("%d %s: Read: %d", n, what, e)
			}
		}
		refused(t, "one more of "+what, with(x.most+1, x.most+1), api.ErrLimit)
		refused(t, "many of "+what, with(math.MaxInt, 1), api.ErrLimit)
		refused(t, "one less of "+what, with(x.most, x.most-2)[:len(x.head)+6], api.ErrShort)
	}
}

func TestP5_3Bits(t *testing.T) {
	field := "\x02\x01C\x01I\x01\x00\x00\x00\x00\x00\x01\x01\x00\x00\x01\x00"
	for n, want := range map[int]api.Errno{0: api.OK, 1: api.OK, 2: api.ErrLimit, 3: api.ErrLimit, 128: api.ErrLimit} {
		a, e := arc.Read([]byte("BON1" + field + string(wire.Num(nil, n)) + "\x00"))
		if e != want || e == api.OK && a.Classes[0].Fields[0] != (api.Field{Name: "C", Type: tInt, Static: n == 1}) {
			t.Errorf("a field of %d: %d, %v", n, e, a)
		}
	}
	method := "\x02\x01C\x03()V\x01\x00\x00\x00\x00\x00\x01\x00\x01\x00\x00\x01\x00"
	for n, want := range map[int]api.Errno{0: api.OK, 1: api.OK, 2: api.OK, 3: api.OK, 4: api.ErrLimit, 5: api.ErrLimit, 130: api.ErrLimit} {
		a, e := arc.Read([]byte("BON1" + method + string(wire.Num(nil, n)) + "\x00\x00\x00"))
		if e != want || e == api.OK && (a.Classes[0].Methods[0].Static != (n%2 == 1) || a.Classes[0].Methods[0].Abstract != (n > 1)) {
			t.Errorf("a method of %d: %d, %v", n, e, a)
		}
	}
}

// What is written as if it were right, but isn't.
func TestP5_3Form(t *testing.T) {
	long := strings.Repeat("x", api.MaxName+1)
	nine := desc.Of(slices.Repeat([]api.Type{tInt}, api.MaxParams+1), tInt)
	for what, change := range map[string]func(*api.Class, *api.Method){
		"a class's Name":         func(c *api.Class, m *api.Method) { c.Name = "" },
		"a Super":                func(c *api.Class, m *api.Method) { c.Super = "9" },
		"an Iface":               func(c *api.Class, m *api.Method) { c.Ifaces[1] = long },
		"Kind 0":                 func(c *api.Class, m *api.Method) { c.Kind = 0 },
		"a field's Name":         func(c *api.Class, m *api.Method) { c.Fields[1].Name = "()V" },
		"a field's Type V":       func(c *api.Class, m *api.Method) { c.Fields[1].Type = tVoid },
		"a field's Type of none": func(c *api.Class, m *api.Method) { c.Fields[1].Type = api.Type{} },
		"a field's Class":        func(c *api.Class, m *api.Method) { c.Fields[1].Type.Class = "" },
		"a method's Name":        func(c *api.Class, m *api.Method) { m.Name = "some words" },
		"a param Void":           func(c *api.Class, m *api.Method) { m.Params[1] = tVoid },
		"a param's Class":        func(c *api.Class, m *api.Method) { m.Params[1].Class = long },
		"a Ret of none":          func(c *api.Class, m *api.Method) { m.Ret = api.Type{} },
		"too many params":        func(c *api.Class, m *api.Method) { m.Params = slices.Repeat([]api.Type{tInt}, api.MaxParams+1) },
		"Op 0":                   func(c *api.Class, m *api.Method) { m.Code[3].Op = 0 },
		"a GetF's Class":         func(c *api.Class, m *api.Method) { m.Code[api.GetF-1].Class = "some words" },
		"a GetF's Name":          func(c *api.Class, m *api.Method) { m.Code[api.GetF-1].Name = "" },
		"a call's Class":         func(c *api.Class, m *api.Method) { m.Code[api.CallI-1].Class = long },
		"a call's Name":          func(c *api.Class, m *api.Method) { m.Code[api.CallI-1].Name = "()V" },
		"a call's Desc":          func(c *api.Class, m *api.Method) { m.Code[api.CallI-1].Desc = "m" },
		"a call of too many":     func(c *api.Class, m *api.Method) { m.Code[api.CallI-1].Desc = nine },
		"a Cast's Class":         func(c *api.Class, m *api.Method) { m.Code[api.Cast-1].Class = "9" },
		"a Catch":                func(c *api.Class, m *api.Method) { m.Handlers[1].Catch = "LC;" },
	} {
		a := changed(change)
		refused(t, what, encoded(a), api.ErrForm)
		refused(t, what+" and more", append(encoded(a), 0), api.ErrForm)
		refused(t, what+" and less", encoded(a)[:len(encoded(a))-1], api.ErrShort)
		a.Classes[len(a.Classes)-1].Kind = api.Interface + 1
		refused(t, what+" ahead of a limit", encoded(a), api.ErrLimit)
	}
}

// Numbers in a longer form, wherever they stand.
func TestP5_3LongForm(t *testing.T) {
	for what, s := range map[string]string{
		"no texts":        "\x80\x00\x00",
		"a text's length": "\x01\x81\x00C\x00",
		"no classes":      "\x00\x80\x00",
		"without end":     "\x00\xff\xff\xff\xff\xff\xff\xff\xff\xff\xff\x01",
		"Ifaces":          "\x01\x01C\x01\x00\x00\x00\x00\x80\x00\x01\x00\x00",
		"Kind":            "\x01\x01C\x01\x00\x00\x00\x00\x00\x81\x00\x00\x00",
		"an Op":           "\x02\x01C\x03()V\x01\x00\x00\x00\x00\x00\x01\x00\x01\x00\x00\x01\x00\x00\x00\x01\x86\x00\x00",
		"an N":            "\x02\x01C\x03()V\x01\x00\x00\x00\x00\x00\x01\x00\x01\x00\x00\x01\x00\x00\x00\x01\x01\x86\x00\x00",
	} {
		refused(t, what, []byte("BON1"+s), api.ErrForm)
	}
	refused(t, "an N above its limit", []byte("BON1\x02\x01C\x03()V\x01\x00\x00\x00\x00\x00\x01\x00\x01\x00\x00\x01\x00\x00\x00\x01\x01\x80\x80\x80\x80\x10\x00"), api.ErrLimit)
}

// Held against the decoder, which is written as the chapter is: bytes of which any one is another one, is missing, or is there twice.
func TestP5_3AnyByte(t *testing.T) {
	small := api.Archive{Classes: []api.Class{
		{Name: "C", Super: "D", Ifaces: []string{"P"}, Kind: api.Final, Fields: []api.Field{{Name: "f", Type: ref("D"), Static: true}}, Methods: []api.Method{
			{Name: "m", Params: []api.Type{tInt}, Ret: tVoid, Static: true, Locals: 3, Code: []api.Instr{right(api.PushI), right(api.PushS), right(api.Jump), right(api.GetS), right(api.CallS), right(api.New), right(api.RetV)}, Handlers: []api.Handler{{From: 1, To: 200, At: 3, Catch: "F"}}},
		}},
		{Name: "D", Super: "Object", Kind: api.Plain},
	}}
	told := map[api.Errno]int{}
	check := func(b []byte) {
		a, e := arc.Read(b)
		want, f := decoded(b)
		if e != f || !arc.Same(a, want) {
			t.Fatalf("Read of %q: %d, not %d", b, e, f)
		}
		told[e]++
	}
	for _, b := range [][]byte{encoded(small), withTexts(small, slices.Sorted(slices.Values(textsOf(small)))...)} {
		for i := range b {
			check(slices.Delete(bytes.Clone(b), i, i+1))
			check(slices.Insert(bytes.Clone(b), i, b[i]))
			for c := range 256 {
				other := bytes.Clone(b)
				other[i] = byte(c)
				check(other)
				check(slices.Insert(bytes.Clone(b), i, byte(c)))
			}
		}
	}
	for _, e := range []api.Errno{api.OK, api.ErrShort, api.ErrForm, api.ErrLimit} {
		if told[e] < 100 {
			t.Errorf("%d is told %d times alone", e, told[e])
		}
	}
}

// Likewise of bytes that begin as an archive does, and go on in any way.
func TestP5_3AnyBytes(t *testing.T) {
	r := newScratch(53)
	check := func(b []byte) {
		a, e := arc.Read(b)
		if want, f := decoded(b); e != f || !arc.Same(a, want) {
			t.Fatalf("Read of %q: %d, not %d", b, e, f)
		}
	}
	for range 3000 {
		b := encoded(r.archive())
		check(b)
		for range 1 + r.Intn(3) {
			if i := r.Intn(len(b)); r.Intn(2) == 0 {
				b[i] = byte(r.Intn(256))
			} else {
				b[i] = byte(r.Intn(4))
			}
		}
		check(b)
		check(b[:r.Intn(len(b)+1)])
		r.Read(b[4+r.Intn(len(b)-4):])
		check(b)
	}
}
