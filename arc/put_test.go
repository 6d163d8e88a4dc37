package arc_test

import (
	"bytes"
	"math"
	"slices"
	"strings"
	"testing"

	"bonsai/api"
	"bonsai/arc"
)

func TestP5_2None(t *testing.T) {
	for _, a := range []api.Archive{{}, {Classes: []api.Class{}}} {
		if got := arc.Put(a); string(got) != "BON1\x00\x00" {
			t.Errorf("Put of no classes: %q", got)
		}
	}
	for what, a := range map[string]api.Archive{
		"a zero class": {Classes: make([]api.Class, 1)},
		"the last one": {Classes: append(sample().Classes, api.Class{Name: "C", Super: "Object"})},
		"too many":     {Classes: slices.Repeat(of().Classes, api.MaxClasses+1)},
	} {
		if got := arc.Put(a); len(got) != 0 {
			t.Errorf("Put of %s: %q", what, got)
		}
	}
}

// Bytes that are written out: of each thing its own.
func TestP5_2Bytes(t *testing.T) {
	for what, x := range map[string]struct {
		a    api.Archive
		want string
	}{
		"a class": {of(), "BON1\x02\x01C\x06Object" + "\x01\x00\x00\x01\x00\x00\x01\x00\x00"},
		"a class above itself": {api.Archive{Classes: []api.Class{{Name: "C", Super: "C", Kind: api.Interface}}},
			"BON1\x01\x01C" + "\x01\x00\x00\x00\x00\x00\x04\x00\x00"},
		"Ifaces": {api.Archive{Classes: []api.Class{{Name: "C", Super: "D", Ifaces: []string{"E", "C", "F"}, Kind: api.Final}}},
			"BON1\x04\x01C\x01D\x01E\x01F" + "\x01\x00\x00\x01\x00\x03\x02\x00\x00\x00\x03\x00\x03\x00\x00"},
		"Fields": {api.Archive{Classes: []api.Class{{Name: "C", Super: "D", Kind: api.Abstract, Fields: []api.Field{{Name: "f", Type: tInt}, {Name: "g", Type: ref("C"), Static: true}}}}},
			"BON1\x06\x01C\x01D\x01f\x01I\x01g\x03LC;" + "\x01\x00\x00\x01\x00\x00\x02\x02\x02\x00\x03\x00\x00\x04\x00\x05\x00\x01\x00"},
		"Methods": {of(api.Method{Name: "m", Params: []api.Type{tInt, ref("C")}, Ret: tVoid, Locals: api.MaxLocals}, api.Method{Name: "n", Ret: tArr, Static: true}, api.Method{Name: "m", Ret: tArr, Abstract: true}, api.Method{Name: "m", Ret: tArr, Abstract: true, Static: true, Locals: 1}),
			"BON1\x06\x01C\x06Object\x01m\x07(ILC;)V\x01n\x03()A" + "\x01\x00\x00\x01\x00\x00\x01\x00\x04" +
				"\x02\x00\x03\x00\x00\xc8\x01\x00\x00" + "\x04\x00\x05\x00\x01\x00\x00\x00" + "\x02\x00\x05\x00\x02\x00\x00\x00" + "\x02\x00\x05\x00\x03\x01\x00\x00"},
		"Handlers": {of(api.Method{Name: "m", Ret: tVoid, Handlers: []api.Handler{{From: 1, To: 200, At: 3, Catch: "m"}, {To: api.MaxCode, Catch: "F"}}}),
			"BON1\x05\x01C\x06Object\x01m\x03()V\x01F" + "\x01\x00\x00\x01\x00\x00\x01\x00\x01" + "\x02\x00\x03\x00\x00\x00\x00\x02" + "\x01\xc8\x01\x03\x02\x00" + "\x00\xd0\x0f\x00\x04\x00"},
		"two classes": {api.Archive{Classes: []api.Class{{Name: "D", Super: "C", Kind: api.Plain}, {Name: "C", Super: "B", Kind: api.Plain}}},
			"BON1\x03\x01D\x01C\x01B" + "\x02\x00\x00\x01\x00\x00\x01\x00\x00" + "\x01\x00\x02\x00\x00\x01\x00\x00"},
	} {
		if got := arc.Put(x.a); string(got) != x.want {
			t.Errorf("Put of %s: %q, not %q", what, got, x.want)
		}
	}
}

// Of each kind of instruction what it uses, and no more.
func TestP5_2Instr(t *testing.T) {
	for what, x := range map[string]struct {
		i           api.Instr
		texts, want string
		n           byte // of texts
	}{
		"PushI":       {api.Instr{Op: api.PushI, N: 300}, "", "\x01\xd8\x04", 0},
		"PushI below": {api.Instr{Op: api.PushI, N: -3}, "", "\x01\x05", 0},
		"PushI least": {api.Instr{Op: api.PushI, N: math.MinInt32}, "", "\x01\xff\xff\xff\xff\x0f", 0},
		"PushS":       {api.Instr{Op: api.PushS, S: "w"}, "\x01w", "\x02\x04\x00", 1},
		"PushS of \"": {api.Instr{Op: api.PushS}, "\x00", "\x02\x04\x00", 1},
		"PushS again": {api.Instr{Op: api.PushS, S: "m"}, "", "\x02\x02\x00", 0},
		"PushN":       {api.Instr{Op: api.PushN}, "", "\x03", 0},
		"Load":        {api.Instr{Op: api.Load, K: 7}, "", "\x04\x07", 0},
		"Store":       {api.Instr{Op: api.Store, K: 128}, "", "\x05\x80\x01", 0},
		"Jump":        {api.Instr{Op: api.Jump, K: api.MaxCode}, "", "\x13\xd0\x0f", 0},
		"JumpZ":       {api.Instr{Op: api.JumpZ}, "", "\x14\x00", 0},
		"New":         {api.Instr{Op: api.New, Class: "D"}, "\x01D", "\x19\x04\x00", 1},
		"GetF":        {api.Instr{Op: api.GetF, Class: "D", Name: "f"}, "\x01D\x01f", "\x1a\x04\x00\x05\x00", 2},
		"PutS":        {api.Instr{Op: api.PutS, Class: "C", Name: "f"}, "\x01f", "\x1d\x00\x00\x04\x00", 1},
		"Cast":        {api.Instr{Op: api.Cast, Class: "Object"}, "", "\x1e\x01\x00", 0},
		"CallV":       {api.Instr{Op: api.CallV, Class: "D", Name: "f", Desc: "(I)I"}, "\x01D\x01f\x04(I)I", "\x22\x04\x00\x05\x00\x06\x00", 3},
		"CallX":       {api.Instr{Op: api.CallX, Class: "C", Name: "m", Desc: "()V"}, "", "\x25\x00\x00\x02\x00\x03\x00", 0},
		"Exit":        {api.Instr{Op: api.Exit}, "", "\x2b", 0},
	} {
		want := "BON1" + string([]byte{4 + x.n}) + "\x01C\x06Object\x01m\x03()V" + x.texts + "\x01\x00\x00\x01\x00\x00\x01\x00\x01" + "\x02\x00\x03\x00\x00\x00\x01" + x.want + "\x00"
		if got := arc.Put(of(api.Method{Name: "m", Ret: tVoid, Code: []api.Instr{x.i}})); string(got) != want {
			t.Errorf("Put of %s: %q, not %q", what, got, want)
		}
	}
}

// The pool has each text once, in the order in which they are written, and no others.
func TestP5_2Texts(t *testing.T) {
	want := []string{"C", "Object", "Q", "P", "f", "I", "g", "LD;", "h", "A", "m", "(ILC;S)LD;", "some words", "E", "D", "(I)LD;", "Fault", "clinit", "()V", "(A)I", "both", "()S"}
	b := []byte{byte(len(want))}
	for _, s := range want {
		b = append(append(b, byte(len(s))), s...)
	}
	if got := arc.Put(sample()); !bytes.HasPrefix(got, append([]byte("BON1"), b...)) {
		t.Errorf("Put of the sample: %q", got)
	}
}

func TestP5_2All(t *testing.T) {
	archives := map[string]api.Archive{
		"the sample": sample(), "full": full(),
		"the most classes": {Classes: slices.Repeat(of().Classes, api.MaxClasses)},
		"the most code":    of(api.Method{Name: "m", Ret: tVoid, Code: slices.Repeat([]api.Instr{{Op: api.Jump, K: 128}, {Op: api.PushS, S: strings.Repeat("x", api.MaxText)}}, api.MaxCode/2)}),
	}
	for what, a := range archives {
		if got, want := arc.Put(a), encoded(a); !bytes.Equal(got, want) {
			t.Errorf("Put of %s: %d bytes, not %d", what, len(got), len(want))
		}
	}
	r := newScratch(52)
	for n := range 500 {
		a := r.archive()
		if got, want := arc.Put(a), encoded(a); !bytes.Equal(got, want) {
			t.Errorf("Put of archive %d: %q, not %q", n, got, want)
		}
	}
}
