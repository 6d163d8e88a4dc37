package op_test

import (
	"fmt"
	"math"
	"strings"
	"testing"

	"bonsai/api"
	"bonsai/desc"
	"bonsai/op"
)

// all has a row for each op, in api's order.
var all = []struct {
	o                  int
	name               string
	uses               int
	ends, jumps, calls bool
}{
	{o: api.PushI, name: "PushI", uses: op.Number},
	{o: api.PushS, name: "PushS", uses: op.Words},
	{o: api.PushN, name: "PushN"},
	{o: api.Load, name: "Load", uses: op.Place},
	{o: api.Store, name: "Store", uses: op.Place},
	{o: api.Pop, name: "Pop"},
	{o: api.Dup, name: "Dup"},
	{o: api.Add, name: "Add"},
	{o: api.Sub, name: "Sub"},
	{o: api.Mul, name: "Mul"},
	{o: api.Div, name: "Div"},
	{o: api.Rem, name: "Rem"},
	{o: api.Neg, name: "Neg"},
	{o: api.Lt, name: "Lt"},
	{o: api.Eq, name: "Eq"},
	{o: api.Concat, name: "Concat"},
	{o: api.Len, name: "Len"},
	{o: api.Text, name: "Text"},
	{o: api.Jump, name: "Jump", uses: op.Place, ends: true, jumps: true},
	{o: api.JumpZ, name: "JumpZ", uses: op.Place, jumps: true},
	{o: api.NewA, name: "NewA"},
	{o: api.LenA, name: "LenA"},
	{o: api.GetA, name: "GetA"},
	{o: api.PutA, name: "PutA"},
	{o: api.New, name: "New", uses: op.Class},
	{o: api.GetF, name: "GetF", uses: op.Member},
	{o: api.PutF, name: "PutF", uses: op.Member},
	{o: api.GetS, name: "GetS", uses: op.Member},
	{o: api.PutS, name: "PutS", uses: op.Member},
	{o: api.Cast, name: "Cast", uses: op.Class},
	{o: api.Is, name: "Is", uses: op.Class},
	{o: api.Same, name: "Same"},
	{o: api.Check, name: "Check"},
	{o: api.CallV, name: "CallV", uses: op.Method, calls: true},
	{o: api.CallI, name: "CallI", uses: op.Method, calls: true},
	{o: api.CallS, name: "CallS", uses: op.Method, calls: true},
	{o: api.CallX, name: "CallX", uses: op.Method, calls: true},
	{o: api.Throw, name: "Throw", ends: true},
	{o: api.Ret, name: "Ret", ends: true},
	{o: api.RetV, name: "RetV", ends: true},
	{o: api.Print, name: "Print"},
	{o: api.Read, name: "Read"},
	{o: api.Exit, name: "Exit", ends: true},
}

// none are numbers of no op.
var none = []int{0, -1, api.Ops, api.Ops + 1, 2 * api.Ops, -api.PushI, 256 + api.PushI, 1<<32 + api.PushI, math.MaxInt, math.MinInt}

// The other tests ask of each op: the rows have to be all of them.
func TestAllIsAll(t *testing.T) {
	if len(all) != api.Ops-1 {
		t.Fatalf("%d rows of %d ops", len(all), api.Ops-1)
	}
	for i, x := range all {
		if x.o != i+1 {
			t.Errorf("%s: %d in row %d", x.name, x.o, i)
		}
	}
}

func TestP3_1Name(t *testing.T) {
	for _, x := range all {
		if got := op.Name(x.o); got != x.name {
			t.Errorf("Name(%d): %q, not %q", x.o, got, x.name)
		}
	}
	for _, o := range none {
		if got := op.Name(o); got != "" {
			t.Errorf("Name(%d) of none: %q", o, got)
		}
	}
}

func TestP3_1Uses(t *testing.T) {
	for i, k := range []int{op.None, op.Number, op.Words, op.Place, op.Member, op.Method, op.Class} {
		if k != i {
			t.Errorf("kind %d is %d", i, k)
		}
	}
	for _, x := range all {
		if got := op.Uses(x.o); got != x.uses {
			t.Errorf("Uses(%s): %d, not %d", x.name, got, x.uses)
		}
	}
	for _, o := range none {
		if got := op.Uses(o); got != op.None {
			t.Errorf("Uses(%d) of none: %d", o, got)
		}
	}
}

func TestP3_2(t *testing.T) {
	for _, x := range all {
		if op.Ends(x.o) != x.ends || op.Jumps(x.o) != x.jumps || op.Calls(x.o) != x.calls {
			t.Errorf("%s: Ends %t, Jumps %t, Calls %t", x.name, op.Ends(x.o), op.Jumps(x.o), op.Calls(x.o))
		}
	}
	for _, o := range none {
		if op.Ends(o) || op.Jumps(o) || op.Calls(o) {
			t.Errorf("%d, of none: Ends %t, Jumps %t, Calls %t", o, op.Ends(o), op.Jumps(o), op.Calls(o))
		}
	}
}

// longest is a name of as many bytes as one may have.
func longest() string { return "n" + strings.Repeat("9", api.MaxName-1) }

// badNames may not be names.
func badNames() []string {
	return []string{"", "9", "_a", "a b", "a;", "é", "\xff", "a\x00", longest() + "9", strings.Repeat("a", 100000)}
}

// right tells an instruction of o that is Right.
func right(o int) api.Instr {
	switch op.Uses(o) {
	case op.Member:
		return api.Instr{Op: o, Class: "C", Name: "f"}
	case op.Method:
		return api.Instr{Op: o, Class: "C", Name: "m", Desc: "(I)V"}
	case op.Class:
		return api.Instr{Op: o, Class: "C"}
	}
	return api.Instr{Op: o}
}

// shown tells i for an error, where its texts may be long and of any bytes.
func shown(i api.Instr) string {
	return fmt.Sprintf("{%d %d %d %+.90q %+.90q %+.90q %+.90q}", i.Op, i.N, i.K, i.S, i.Class, i.Name, i.Desc)
}

// each asks Right of what change makes of the right instruction of each op of a kind of uses.
func each(t *testing.T, want bool, change func(*api.Instr), kinds ...int) {
	t.Helper()
	for _, x := range all {
		for _, k := range kinds {
			i := right(x.o)
			change(&i)
			if x.uses == k && op.Right(i) != want {
				t.Errorf("Right(%s) of %s: %t", shown(i), x.name, !want)
			}
		}
	}
}

func TestP3_1RightOp(t *testing.T) {
	for _, x := range all {
		if !op.Right(right(x.o)) {
			t.Errorf("Right(%s) of %s: false", shown(right(x.o)), x.name)
		}
	}
	for _, o := range none {
		for _, i := range []api.Instr{{Op: o}, {Op: o, N: 1}, {Op: o, K: 1}, {Op: o, S: "s"}, {Op: o, Class: "C"}, {Op: o, Class: "C", Name: "f"}, {Op: o, Class: "C", Name: "m", Desc: "()V"}} {
			if op.Right(i) {
				t.Errorf("Right(%s): true", shown(i))
			}
		}
	}
}

func TestP3_1RightNumber(t *testing.T) {
	for _, n := range []int32{0, 1, -1, math.MaxInt32, math.MinInt32} {
		each(t, true, func(i *api.Instr) { i.N = n }, op.Number)
	}
}

// Bytes are counted, not runes, and every one of them may be.
func TestP3_1RightWords(t *testing.T) {
	for _, s := range []string{"", "s", "\x00\xff", "a b\n", strings.Repeat("s", api.MaxText), strings.Repeat("é", api.MaxText/2), strings.Repeat("\xff", api.MaxText)} {
		each(t, true, func(i *api.Instr) { i.S = s }, op.Words)
	}
	for _, s := range []string{strings.Repeat("s", api.MaxText+1), strings.Repeat("é", api.MaxText/2) + "s", strings.Repeat("é", api.MaxText), strings.Repeat("s", 1000000)} {
		each(t, false, func(i *api.Instr) { i.S = s }, op.Words)
	}
}

func TestP3_1RightPlace(t *testing.T) {
	for _, k := range []int{0, 1, api.MaxLocals, api.MaxLocals + 1, api.MaxCode - 1, api.MaxCode} {
		each(t, true, func(i *api.Instr) { i.K = k }, op.Place)
	}
	for _, k := range []int{-1, api.MaxCode + 1, 1 << 32, -1 << 32, math.MaxInt, math.MinInt} {
		each(t, false, func(i *api.Instr) { i.K = k }, op.Place)
	}
}

func TestP3_1RightNames(t *testing.T) {
	for _, s := range []string{"a", "Object", "I", "A_9z", api.Clinit, longest()} {
		each(t, true, func(i *api.Instr) { i.Class = s }, op.Member, op.Method, op.Class)
		each(t, true, func(i *api.Instr) { i.Name = s }, op.Member, op.Method)
	}
	for _, s := range badNames() {
		each(t, false, func(i *api.Instr) { i.Class = s }, op.Member, op.Method, op.Class)
		each(t, false, func(i *api.Instr) { i.Name = s }, op.Member, op.Method)
	}
}

func TestP3_1RightDesc(t *testing.T) {
	for _, s := range []string{"()V", "()I", "(ISA)LC;", "(La;Lb;)A", "(" + strings.Repeat("I", api.MaxParams) + ")V", "(" + strings.Repeat("L"+longest()+";", api.MaxParams) + ")V"} {
		each(t, true, func(i *api.Instr) { i.Desc = s }, op.Method)
	}
	for _, s := range []string{"", "m", "V", "()", "(V)V", "(I)", "I)V", "()VV", "()V ", "(X)V", "()N", "(L;)V", "(L9;)V", "m()V", "(" + strings.Repeat("I", api.MaxParams+1) + ")V", "(L" + longest() + "9;)V"} {
		each(t, false, func(i *api.Instr) { i.Desc = s }, op.Method)
	}
}

// What it doesn't use is zero: it is wrong even where another op could use it so, or has no use for it at all.
func TestP3_1RightUnused(t *testing.T) {
	for _, n := range []int32{1, -1, math.MinInt32} {
		each(t, false, func(i *api.Instr) { i.N = n }, op.None, op.Words, op.Place, op.Member, op.Method, op.Class)
	}
	for _, k := range []int{1, -1, api.MaxCode + 1, 1 << 32} {
		each(t, false, func(i *api.Instr) { i.K = k }, op.None, op.Number, op.Words, op.Member, op.Method, op.Class)
	}
	for _, s := range []string{"a", "\x00", "()V", strings.Repeat("s", api.MaxText+1)} {
		each(t, false, func(i *api.Instr) { i.S = s }, op.None, op.Number, op.Place, op.Member, op.Method, op.Class)
		each(t, false, func(i *api.Instr) { i.Class = s }, op.None, op.Number, op.Words, op.Place)
		each(t, false, func(i *api.Instr) { i.Name = s }, op.None, op.Number, op.Words, op.Place, op.Class)
		each(t, false, func(i *api.Instr) { i.Desc = s }, op.None, op.Number, op.Words, op.Place, op.Member, op.Class)
	}
}

// unlikes are all unlike each other, in one field or in several, Right or not.
func unlikes() []api.Instr {
	return []api.Instr{
		{}, {Op: 1}, {Op: 2}, {Op: -1}, {Op: api.Ops}, {Op: 1 + 1<<32},
		{N: 1}, {N: -1}, {K: 1}, {K: -1}, {K: 1 << 32}, {S: "a"}, {S: "b"}, {S: "a\x00"}, {Class: "a"}, {Class: "b"}, {Name: "a"}, {Name: "b"}, {Desc: "a"}, {Desc: "b"},
		{Op: api.PushI, N: 1}, {Op: api.PushI, N: 1, K: 1}, {Op: api.PushI, N: 1, S: "a"}, {Op: api.PushN, Class: "a"},
		{Op: api.GetF, Class: "a", Name: "b"}, {Op: api.GetF, Class: "b", Name: "a"}, {Op: api.PutF, Class: "a", Name: "b"}, {Op: api.GetF, Class: "ab"}, {Op: api.GetF, Name: "ab"},
		{Op: api.CallS, Class: "a", Name: "b", Desc: "()V"}, {Op: api.CallS, Class: "a", Name: "b", Desc: "()I"}, {Op: api.CallV, Class: "a", Name: "b", Desc: "()V"},
		{Op: api.Load, K: 3}, {Op: api.Store, K: 3}, {Op: api.Load, K: 4},
	}
}

func TestP3_1Same(t *testing.T) {
	for i, a := range unlikes() {
		for j, b := range unlikes() {
			b.S, b.Class, b.Name, b.Desc = strings.Clone(b.S), strings.Clone(b.Class), strings.Clone(b.Name), strings.Clone(b.Desc)
			if got := op.Same(a, b); got != (i == j) {
				t.Errorf("Same(%s, %s): %t", shown(a), shown(b), got)
			}
		}
	}
}

// Fields of an instruction beside its Op, as bits.
const (
	hasN = 1 << iota
	hasK
	hasS
	hasClass
	hasName
	hasDesc
	hasEnd
)

// filled tells an instruction of o with those fields filled, as they may be where they are used.
func filled(o, fields int) api.Instr {
	i := api.Instr{Op: o}
	for bit, fill := range map[int]func(){
		hasN:     func() { i.N = -7 },
		hasK:     func() { i.K = 7 },
		hasS:     func() { i.S = "s" },
		hasClass: func() { i.Class = "C" },
		hasName:  func() { i.Name = "m" },
		hasDesc:  func() { i.Desc = desc.Of(nil, api.Type{Kind: api.Void}) },
	} {
		if fields&bit != 0 {
			fill()
		}
	}
	return i
}

// An instruction says what it needs: of all choices of its fields those are right that have what its op uses, and no more (a number, words, a place may be zero as well).
func TestP3_3(t *testing.T) {
	may := map[int]int{op.None: 0, op.Number: hasN, op.Words: hasS, op.Place: hasK, op.Member: hasClass | hasName, op.Method: hasClass | hasName | hasDesc, op.Class: hasClass}
	for _, x := range all {
		must := may[x.uses] & (hasClass | hasName | hasDesc)
		for fields := range hasEnd {
			want := fields&^may[x.uses] == 0 && fields&must == must
			if i := filled(x.o, fields); op.Right(i) != want {
				t.Errorf("Right(%s) of %s: %t", shown(i), x.name, !want)
			}
		}
	}
}
