/-
  NARROWER THAN 'FOR EVERY INPUT', by the rows' own cells (each row's printed sentence says how): OpTells: laid · OpRight: laid · OpNames: laid · OpUses: laid.
  DERIVED. THE GIVEN ROWS OF THIS SEAT. 4 by the template 'for every input the law returns true; each argument reads behind the call as it read before'; 0 by the template 'total and deterministic' (their statements: YtibciicpgjgjbaaDoorTotals.lean).
  GIVEN WITH THE SEED: the statements are not yours to turn. If you find one false, say at which input.
  Laid BY PROGRAM, IN A SANDBOX (cutbox-rows.mjs): the forced cells as the released guide's own fill.sh prints them over the translation 2e546441ec8cc6ea… (all of the seat's roots in one cut). By AI agents, Wed Nov 11 2026. No macro, syntax, notation, axiom, sorry.
-/
import Derived.Test.YtibciicpgjgjbaaDoorChecked
import GoSem.Claim
import GoSem.ClaimJoined
import GoSem.ClaimMapViews
import Derived.JoinedTies
import Derived.KernelRfl
namespace Go.Proofs.YtibciicpgjgjbaaDoor
/- THE CELL 'sum', in the pinned program and in every row, IS THE sha256 OF THE DUMP (.gsa) THAT YtibciicpgjgjbaaDoorProg.lean LOADS. Nothing in Lean hashes anything: it is a label: what it is worth is what the hold of that sum in a sandbox is worth. -/
noncomputable def Tryd.pinned : Pinned := { name := "ytibciicpgjgjbaadoor", sum := "2e546441ec8cc6ea62977b9c523c0d1479adb569878c2c92522c2d459ca9aa07", checked := Tryd.checked }
namespace Rows
def none {H : Type} : Left H := { results := [], args := [] }

/- WHAT THE LISTED PACKAGE-LEVEL VARIABLES READ AS WHEN THE CALL BEGINS. Each datum BY PROGRAM (the guide's laid-datum.mjs) off the statement by which the dump's own 'gosem.cut.vars' lays the variable. In a bare row this is a premise. The card (YtibciicpgjgjbaaDoorCards.lean) ties it to the program's text. -/
def laid_bonsai_op_names {H : Type} : DataW H := .agg [.lit (.string []), .lit (.string [80, 117, 115, 104, 73]), .lit (.string [80, 117, 115, 104, 83]), .lit (.string [80, 117, 115, 104, 78]), .lit (.string [76, 111, 97, 100]), .lit (.string [83, 116, 111, 114, 101]), .lit (.string [80, 111, 112]), .lit (.string [68, 117, 112]), .lit (.string [65, 100, 100]), .lit (.string [83, 117, 98]), .lit (.string [77, 117, 108]), .lit (.string [68, 105, 118]), .lit (.string [82, 101, 109]), .lit (.string [78, 101, 103]), .lit (.string [76, 116]), .lit (.string [69, 113]), .lit (.string [67, 111, 110, 99, 97, 116]), .lit (.string [76, 101, 110]), .lit (.string [84, 101, 120, 116]), .lit (.string [74, 117, 109, 112]), .lit (.string [74, 117, 109, 112, 90]), .lit (.string [78, 101, 119, 65]), .lit (.string [76, 101, 110, 65]), .lit (.string [71, 101, 116, 65]), .lit (.string [80, 117, 116, 65]), .lit (.string [78, 101, 119]), .lit (.string [71, 101, 116, 70]), .lit (.string [80, 117, 116, 70]), .lit (.string [71, 101, 116, 83]), .lit (.string [80, 117, 116, 83]), .lit (.string [67, 97, 115, 116]), .lit (.string [73, 115]), .lit (.string [83, 97, 109, 101]), .lit (.string [67, 104, 101, 99, 107]), .lit (.string [67, 97, 108, 108, 86]), .lit (.string [67, 97, 108, 108, 73]), .lit (.string [67, 97, 108, 108, 83]), .lit (.string [67, 97, 108, 108, 88]), .lit (.string [84, 104, 114, 111, 119]), .lit (.string [82, 101, 116]), .lit (.string [82, 101, 116, 86]), .lit (.string [80, 114, 105, 110, 116]), .lit (.string [82, 101, 97, 100]), .lit (.string [69, 120, 105, 116])]

/-- 'bonsailaw3.OpTells': WHATEVER THE INPUT: true; the input reads as it did. -/
def opTellsSpec : ChangeSpec := { name := "opTells", fn := fun _ => fun
  | [d1, d2] => { results := [.lit (.bool true)], args := [d1, d2] }
  | _ => none }
def opTellsRow : OpenClaim := { program := "ytibciicpgjgjbaadoor", sum := "2e546441ec8cc6ea62977b9c523c0d1479adb569878c2c92522c2d459ca9aa07", func := "bonsai/bonsailaw3.OpTells", spec := "opTells", inPlace := ["internal/bytealg.IndexByteString", "internal/bytealg.IndexString"], named := ["bonsai/op.names", "internal/bytealg.MaxLen"], apart := false, laid := [("bonsai/op.names", laid_bonsai_op_names)] }
def OpTellsSaid : Prop := opTellsRow.holds Tryd.pinned (OpenSpec.ofChange opTellsSpec)

/-- ITS FALSE NEIGHBOUR: 'it returns false'. Refute it at one input. -/
def opTellsWrong : ChangeSpec := { name := "opTells", fn := fun _ => fun
  | [d1, d2] => { results := [.lit (.bool false)], args := [d1, d2] }
  | _ => none }
def OpTellsWrongFalsely : Prop := opTellsRow.holds Tryd.pinned (OpenSpec.ofChange opTellsWrong)

/-- 'bonsailaw3.OpRight': WHATEVER THE INPUT: true; the input reads as it did. -/
def opRightSpec : ChangeSpec := { name := "opRight", fn := fun _ => fun
  | [d1, d2, d3, d4, d5, d6, d7, d8, d9] => { results := [.lit (.bool true)], args := [d1, d2, d3, d4, d5, d6, d7, d8, d9] }
  | _ => none }
def opRightRow : OpenClaim := { program := "ytibciicpgjgjbaadoor", sum := "2e546441ec8cc6ea62977b9c523c0d1479adb569878c2c92522c2d459ca9aa07", func := "bonsai/bonsailaw3.OpRight", spec := "opRight", inPlace := ["internal/bytealg.IndexByteString", "internal/bytealg.IndexString"], named := ["bonsai/op.names", "internal/bytealg.MaxLen"], apart := false, laid := [("bonsai/op.names", laid_bonsai_op_names)] }
def OpRightSaid : Prop := opRightRow.holds Tryd.pinned (OpenSpec.ofChange opRightSpec)

/-- ITS FALSE NEIGHBOUR: 'it returns false'. Refute it at one input. -/
def opRightWrong : ChangeSpec := { name := "opRight", fn := fun _ => fun
  | [d1, d2, d3, d4, d5, d6, d7, d8, d9] => { results := [.lit (.bool false)], args := [d1, d2, d3, d4, d5, d6, d7, d8, d9] }
  | _ => none }
def OpRightWrongFalsely : Prop := opRightRow.holds Tryd.pinned (OpenSpec.ofChange opRightWrong)

/-- 'bonsailaw3.OpNames': WHATEVER THE INPUT: true; the input reads as it did. -/
def opNamesSpec : ChangeSpec := { name := "opNames", fn := fun _ => fun
  | [d1, d2] => { results := [.lit (.bool true)], args := [d1, d2] }
  | _ => none }
def opNamesRow : OpenClaim := { program := "ytibciicpgjgjbaadoor", sum := "2e546441ec8cc6ea62977b9c523c0d1479adb569878c2c92522c2d459ca9aa07", func := "bonsai/bonsailaw3.OpNames", spec := "opNames", inPlace := ["internal/bytealg.IndexByteString", "internal/bytealg.IndexString"], named := ["bonsai/op.names", "internal/bytealg.MaxLen"], apart := false, laid := [("bonsai/op.names", laid_bonsai_op_names)] }
def OpNamesSaid : Prop := opNamesRow.holds Tryd.pinned (OpenSpec.ofChange opNamesSpec)

/-- ITS FALSE NEIGHBOUR: 'it returns false'. Refute it at one input. -/
def opNamesWrong : ChangeSpec := { name := "opNames", fn := fun _ => fun
  | [d1, d2] => { results := [.lit (.bool false)], args := [d1, d2] }
  | _ => none }
def OpNamesWrongFalsely : Prop := opNamesRow.holds Tryd.pinned (OpenSpec.ofChange opNamesWrong)

/-- 'bonsailaw3.OpUses': WHATEVER THE INPUT: true; the input reads as it did. -/
def opUsesSpec : ChangeSpec := { name := "opUses", fn := fun _ => fun
  | [d1, d2, d3, d4] => { results := [.lit (.bool true)], args := [d1, d2, d3, d4] }
  | _ => none }
def opUsesRow : OpenClaim := { program := "ytibciicpgjgjbaadoor", sum := "2e546441ec8cc6ea62977b9c523c0d1479adb569878c2c92522c2d459ca9aa07", func := "bonsai/bonsailaw3.OpUses", spec := "opUses", inPlace := ["internal/bytealg.IndexByteString", "internal/bytealg.IndexString"], named := ["bonsai/op.names", "internal/bytealg.MaxLen"], apart := false, laid := [("bonsai/op.names", laid_bonsai_op_names)] }
def OpUsesSaid : Prop := opUsesRow.holds Tryd.pinned (OpenSpec.ofChange opUsesSpec)

/-- ITS FALSE NEIGHBOUR: 'it returns false'. Refute it at one input. -/
def opUsesWrong : ChangeSpec := { name := "opUses", fn := fun _ => fun
  | [d1, d2, d3, d4] => { results := [.lit (.bool false)], args := [d1, d2, d3, d4] }
  | _ => none }
def OpUsesWrongFalsely : Prop := opUsesRow.holds Tryd.pinned (OpenSpec.ofChange opUsesWrong)

/- THE SECOND FORM. 'bulk': how many values and letters a reading holds, each counted each time it is reached (what is shared counts as often as it is met; a slice's spare places count too). A statement '..UptoSaid' is the law's where the arguments, and the package variables that the reading takes, are together of bulk at most 1048576: NARROWER than '..Said'. Prove '..Said' where nothing that the law and all that it calls make is longer than what came in: it says more and counts as full. Else prove '..UptoSaid'. A law counts once. -/
mutual
def uptoBulk {H : Type} : DataW H → Nat
  | .lit (.string bytes) => bytes.length + 1
  | .lit _ => 1
  | .nil => 1
  | .ptr d => uptoBulk d + 1
  | .slice elems spare => uptoBulkAll elems + uptoBulkAll spare + 1
  | .agg parts => uptoBulkAll parts + 1
  | .iface _ d => uptoBulk d + 1
  | .map entries => uptoBulkEntries entries + 1
  | .held _ => 1
def uptoBulkAll {H : Type} : List (DataW H) → Nat
  | [] => 0
  | d :: r => uptoBulk d + uptoBulkAll r
def uptoBulkEntries {H : Type} : List (Lit × DataW H) → Nat
  | [] => 0
  | x :: r => uptoBulkEntry x + uptoBulkEntries r
def uptoBulkEntry {H : Type} : Lit × DataW H → Nat
  | (.string bytes, d) => bytes.length + uptoBulk d + 1
  | (_, d) => uptoBulk d + 1
 end
def uptoSmall : (H : Type) → List (DataW H) → Bool := fun _ ds => decide (uptoBulkAll ds ≤ 1048576)
def OpenSpec.upto (s : _root_.Go.ChangeSpec) : _root_.Go.OpenSpec := { _root_.Go.OpenSpec.ofChange s with cond := some uptoSmall }

/-- 'bonsailaw3.OpTells', WHERE WHAT IT READS IS OF BULK AT MOST 1048576: true; the input reads as it did. -/
def opTellsUptoRow : OpenClaim := { program := "ytibciicpgjgjbaadoor", sum := "2e546441ec8cc6ea62977b9c523c0d1479adb569878c2c92522c2d459ca9aa07", func := "bonsai/bonsailaw3.OpTells", spec := "opTells", inPlace := ["internal/bytealg.IndexByteString", "internal/bytealg.IndexString"], named := ["bonsai/op.names", "internal/bytealg.MaxLen"], apart := false, laid := [("bonsai/op.names", laid_bonsai_op_names)], narrowed := true }
def OpTellsUptoSaid : Prop := opTellsUptoRow.holds Tryd.pinned (OpenSpec.upto opTellsSpec)

/-- 'bonsailaw3.OpRight', WHERE WHAT IT READS IS OF BULK AT MOST 1048576: true; the input reads as it did. -/
def opRightUptoRow : OpenClaim := { program := "ytibciicpgjgjbaadoor", sum := "2e546441ec8cc6ea62977b9c523c0d1479adb569878c2c92522c2d459ca9aa07", func := "bonsai/bonsailaw3.OpRight", spec := "opRight", inPlace := ["internal/bytealg.IndexByteString", "internal/bytealg.IndexString"], named := ["bonsai/op.names", "internal/bytealg.MaxLen"], apart := false, laid := [("bonsai/op.names", laid_bonsai_op_names)], narrowed := true }
def OpRightUptoSaid : Prop := opRightUptoRow.holds Tryd.pinned (OpenSpec.upto opRightSpec)

/-- 'bonsailaw3.OpNames', WHERE WHAT IT READS IS OF BULK AT MOST 1048576: true; the input reads as it did. -/
def opNamesUptoRow : OpenClaim := { program := "ytibciicpgjgjbaadoor", sum := "2e546441ec8cc6ea62977b9c523c0d1479adb569878c2c92522c2d459ca9aa07", func := "bonsai/bonsailaw3.OpNames", spec := "opNames", inPlace := ["internal/bytealg.IndexByteString", "internal/bytealg.IndexString"], named := ["bonsai/op.names", "internal/bytealg.MaxLen"], apart := false, laid := [("bonsai/op.names", laid_bonsai_op_names)], narrowed := true }
def OpNamesUptoSaid : Prop := opNamesUptoRow.holds Tryd.pinned (OpenSpec.upto opNamesSpec)

/-- 'bonsailaw3.OpUses', WHERE WHAT IT READS IS OF BULK AT MOST 1048576: true; the input reads as it did. -/
def opUsesUptoRow : OpenClaim := { program := "ytibciicpgjgjbaadoor", sum := "2e546441ec8cc6ea62977b9c523c0d1479adb569878c2c92522c2d459ca9aa07", func := "bonsai/bonsailaw3.OpUses", spec := "opUses", inPlace := ["internal/bytealg.IndexByteString", "internal/bytealg.IndexString"], named := ["bonsai/op.names", "internal/bytealg.MaxLen"], apart := false, laid := [("bonsai/op.names", laid_bonsai_op_names)], narrowed := true }
def OpUsesUptoSaid : Prop := opUsesUptoRow.holds Tryd.pinned (OpenSpec.upto opUsesSpec)

end Rows
end Go.Proofs.YtibciicpgjgjbaaDoor
