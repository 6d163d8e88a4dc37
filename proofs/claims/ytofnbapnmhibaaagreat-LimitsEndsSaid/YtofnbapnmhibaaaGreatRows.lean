/-
  No cell of these rows narrows 'for every input' (looked for: loops, veiled, ifaces, maps, wideKeys, modest, calm, conditions, laid).
  DERIVED. THE GIVEN ROWS OF THIS SEAT. 4 by the template 'for every input the law returns true; each argument reads behind the call as it read before'; 0 by the template 'total and deterministic' (their statements: YtofnbapnmhibaaaGreatTotals.lean).
  GIVEN WITH THE SEED: the statements are not yours to turn. If you find one false, say at which input.
  Laid BY PROGRAM, IN A SANDBOX (cutbox-rows.mjs): the forced cells as the released guide's own fill.sh prints them over the translation 0d40a515b9d4156c… (all of the seat's roots in one cut). By AI agents, Wed Nov 11 2026. No macro, syntax, notation, axiom, sorry.
-/
import Derived.Test.YtofnbapnmhibaaaGreatChecked
import GoSem.Claim
import GoSem.ClaimJoined
import GoSem.ClaimMapViews
import Derived.JoinedTies
import Derived.KernelRfl
namespace Go.Proofs.YtofnbapnmhibaaaGreat
/- THE CELL 'sum', in the pinned program and in every row, IS THE sha256 OF THE DUMP (.gsa) THAT YtofnbapnmhibaaaGreatProg.lean LOADS. Nothing in Lean hashes anything: it is a label: what it is worth is what the hold of that sum in a sandbox is worth. -/
noncomputable def Tryz.pinned : Pinned := { name := "ytofnbapnmhibaaagreat", sum := "0d40a515b9d4156c601c8382c500f1c9ae92140d1b8e7524f2f245f4008ad305", checked := Tryz.checked }
namespace Rows
def none {H : Type} : Left H := { results := [], args := [] }

/-- 'bonsailaw6.LimitsHandlers': WHATEVER THE INPUT: true; the input reads as it did. -/
def limitsHandlersSpec : ChangeSpec := { name := "limitsHandlers", fn := fun _ => fun
  | [d1, d2, d3, d4, d5] => { results := [.lit (.bool true)], args := [d1, d2, d3, d4, d5] }
  | _ => none }
def limitsHandlersRow : OpenClaim := { program := "ytofnbapnmhibaaagreat", sum := "0d40a515b9d4156c601c8382c500f1c9ae92140d1b8e7524f2f245f4008ad305", func := "bonsai/bonsailaw6.LimitsHandlers", spec := "limitsHandlers", inPlace := ["internal/bytealg.IndexByteString", "internal/bytealg.IndexString", "internal/abi.NoEscape"], unfollowed := true, recurses := true, named := ["internal/bytealg.MaxLen"], apart := false }
def LimitsHandlersSaid : Prop := limitsHandlersRow.holds Tryz.pinned (OpenSpec.ofChange limitsHandlersSpec)

/-- ITS FALSE NEIGHBOUR: 'it returns false'. Refute it at one input. -/
def limitsHandlersWrong : ChangeSpec := { name := "limitsHandlers", fn := fun _ => fun
  | [d1, d2, d3, d4, d5] => { results := [.lit (.bool false)], args := [d1, d2, d3, d4, d5] }
  | _ => none }
def LimitsHandlersWrongFalsely : Prop := limitsHandlersRow.holds Tryz.pinned (OpenSpec.ofChange limitsHandlersWrong)

/-- 'bonsailaw6.LimitsEnds': WHATEVER THE INPUT: true; the input reads as it did. -/
def limitsEndsSpec : ChangeSpec := { name := "limitsEnds", fn := fun _ => fun
  | [d1, d2, d3, d4] => { results := [.lit (.bool true)], args := [d1, d2, d3, d4] }
  | _ => none }
def limitsEndsRow : OpenClaim := { program := "ytofnbapnmhibaaagreat", sum := "0d40a515b9d4156c601c8382c500f1c9ae92140d1b8e7524f2f245f4008ad305", func := "bonsai/bonsailaw6.LimitsEnds", spec := "limitsEnds", inPlace := ["internal/bytealg.IndexByteString", "internal/bytealg.IndexString", "internal/abi.NoEscape"], unfollowed := true, recurses := true, named := ["internal/bytealg.MaxLen"], apart := false }
def LimitsEndsSaid : Prop := limitsEndsRow.holds Tryz.pinned (OpenSpec.ofChange limitsEndsSpec)

/-- ITS FALSE NEIGHBOUR: 'it returns false'. Refute it at one input. -/
def limitsEndsWrong : ChangeSpec := { name := "limitsEnds", fn := fun _ => fun
  | [d1, d2, d3, d4] => { results := [.lit (.bool false)], args := [d1, d2, d3, d4] }
  | _ => none }
def LimitsEndsWrongFalsely : Prop := limitsEndsRow.holds Tryz.pinned (OpenSpec.ofChange limitsEndsWrong)

/-- 'bonsailaw6.LimitsLocals': WHATEVER THE INPUT: true; the input reads as it did. -/
def limitsLocalsSpec : ChangeSpec := { name := "limitsLocals", fn := fun _ => fun
  | [d1, d2, d3, d4, d5] => { results := [.lit (.bool true)], args := [d1, d2, d3, d4, d5] }
  | _ => none }
def limitsLocalsRow : OpenClaim := { program := "ytofnbapnmhibaaagreat", sum := "0d40a515b9d4156c601c8382c500f1c9ae92140d1b8e7524f2f245f4008ad305", func := "bonsai/bonsailaw6.LimitsLocals", spec := "limitsLocals", inPlace := ["internal/bytealg.IndexByteString", "internal/bytealg.IndexString", "internal/abi.NoEscape"], unfollowed := true, recurses := true, named := ["internal/bytealg.MaxLen"], apart := false }
def LimitsLocalsSaid : Prop := limitsLocalsRow.holds Tryz.pinned (OpenSpec.ofChange limitsLocalsSpec)

/-- ITS FALSE NEIGHBOUR: 'it returns false'. Refute it at one input. -/
def limitsLocalsWrong : ChangeSpec := { name := "limitsLocals", fn := fun _ => fun
  | [d1, d2, d3, d4, d5] => { results := [.lit (.bool false)], args := [d1, d2, d3, d4, d5] }
  | _ => none }
def LimitsLocalsWrongFalsely : Prop := limitsLocalsRow.holds Tryz.pinned (OpenSpec.ofChange limitsLocalsWrong)

/-- 'bonsailaw6.LimitsAbstract': WHATEVER THE INPUT: true; the input reads as it did. -/
def limitsAbstractSpec : ChangeSpec := { name := "limitsAbstract", fn := fun _ => fun
  | [d1, d2, d3, d4] => { results := [.lit (.bool true)], args := [d1, d2, d3, d4] }
  | _ => none }
def limitsAbstractRow : OpenClaim := { program := "ytofnbapnmhibaaagreat", sum := "0d40a515b9d4156c601c8382c500f1c9ae92140d1b8e7524f2f245f4008ad305", func := "bonsai/bonsailaw6.LimitsAbstract", spec := "limitsAbstract", inPlace := ["internal/bytealg.IndexByteString", "internal/bytealg.IndexString", "internal/abi.NoEscape"], unfollowed := true, recurses := true, named := ["internal/bytealg.MaxLen"], apart := false }
def LimitsAbstractSaid : Prop := limitsAbstractRow.holds Tryz.pinned (OpenSpec.ofChange limitsAbstractSpec)

/-- ITS FALSE NEIGHBOUR: 'it returns false'. Refute it at one input. -/
def limitsAbstractWrong : ChangeSpec := { name := "limitsAbstract", fn := fun _ => fun
  | [d1, d2, d3, d4] => { results := [.lit (.bool false)], args := [d1, d2, d3, d4] }
  | _ => none }
def LimitsAbstractWrongFalsely : Prop := limitsAbstractRow.holds Tryz.pinned (OpenSpec.ofChange limitsAbstractWrong)

/- THE SECOND FORM. 'bulk': how many values and letters a reading holds, each counted each time it is reached (what is shared counts as often as it is met; a slice's spare places count too). A statement '..UptoSaid' is the law's where the arguments, and the package variables that the reading takes, are together of bulk at most 1048576: NARROWER than '..Said'. Prove '..Said' where nothing that the law and all that it calls make is longer than what came in: it says more and counts as full. Else prove '..UptoSaid'. A law counts once. -/
mutual
def uptoBulk {H : Type} : DataW H → Nat
  | .lit (.string bytes) => bytes.length + 1
  | .lit _ => 1
  | .nil => 1
  | .ptr d => uptoBulk d + 1
  | .slice elems spare => uptoBulkAll elems + uptoBulkAll spare + 1
  | .agg parts => uptoBulkAll parts + 1
  | .iface _ d => uptoBulk d + 1
  | .map entries => uptoBulkEntries entries + 1
  | .held _ => 1
def uptoBulkAll {H : Type} : List (DataW H) → Nat
  | [] => 0
  | d :: r => uptoBulk d + uptoBulkAll r
def uptoBulkEntries {H : Type} : List (Lit × DataW H) → Nat
  | [] => 0
  | x :: r => uptoBulkEntry x + uptoBulkEntries r
def uptoBulkEntry {H : Type} : Lit × DataW H → Nat
  | (.string bytes, d) => bytes.length + uptoBulk d + 1
  | (_, d) => uptoBulk d + 1
 end
def uptoSmall : (H : Type) → List (DataW H) → Bool := fun _ ds => decide (uptoBulkAll ds ≤ 1048576)
def OpenSpec.upto (s : _root_.Go.ChangeSpec) : _root_.Go.OpenSpec := { _root_.Go.OpenSpec.ofChange s with cond := some uptoSmall }

/-- 'bonsailaw6.LimitsHandlers', WHERE WHAT IT READS IS OF BULK AT MOST 1048576: true; the input reads as it did. -/
def limitsHandlersUptoRow : OpenClaim := { program := "ytofnbapnmhibaaagreat", sum := "0d40a515b9d4156c601c8382c500f1c9ae92140d1b8e7524f2f245f4008ad305", func := "bonsai/bonsailaw6.LimitsHandlers", spec := "limitsHandlers", inPlace := ["internal/bytealg.IndexByteString", "internal/bytealg.IndexString", "internal/abi.NoEscape"], unfollowed := true, recurses := true, named := ["internal/bytealg.MaxLen"], apart := false, narrowed := true }
def LimitsHandlersUptoSaid : Prop := limitsHandlersUptoRow.holds Tryz.pinned (OpenSpec.upto limitsHandlersSpec)

/-- 'bonsailaw6.LimitsEnds', WHERE WHAT IT READS IS OF BULK AT MOST 1048576: true; the input reads as it did. -/
def limitsEndsUptoRow : OpenClaim := { program := "ytofnbapnmhibaaagreat", sum := "0d40a515b9d4156c601c8382c500f1c9ae92140d1b8e7524f2f245f4008ad305", func := "bonsai/bonsailaw6.LimitsEnds", spec := "limitsEnds", inPlace := ["internal/bytealg.IndexByteString", "internal/bytealg.IndexString", "internal/abi.NoEscape"], unfollowed := true, recurses := true, named := ["internal/bytealg.MaxLen"], apart := false, narrowed := true }
def LimitsEndsUptoSaid : Prop := limitsEndsUptoRow.holds Tryz.pinned (OpenSpec.upto limitsEndsSpec)

/-- 'bonsailaw6.LimitsLocals', WHERE WHAT IT READS IS OF BULK AT MOST 1048576: true; the input reads as it did. -/
def limitsLocalsUptoRow : OpenClaim := { program := "ytofnbapnmhibaaagreat", sum := "0d40a515b9d4156c601c8382c500f1c9ae92140d1b8e7524f2f245f4008ad305", func := "bonsai/bonsailaw6.LimitsLocals", spec := "limitsLocals", inPlace := ["internal/bytealg.IndexByteString", "internal/bytealg.IndexString", "internal/abi.NoEscape"], unfollowed := true, recurses := true, named := ["internal/bytealg.MaxLen"], apart := false, narrowed := true }
def LimitsLocalsUptoSaid : Prop := limitsLocalsUptoRow.holds Tryz.pinned (OpenSpec.upto limitsLocalsSpec)

/-- 'bonsailaw6.LimitsAbstract', WHERE WHAT IT READS IS OF BULK AT MOST 1048576: true; the input reads as it did. -/
def limitsAbstractUptoRow : OpenClaim := { program := "ytofnbapnmhibaaagreat", sum := "0d40a515b9d4156c601c8382c500f1c9ae92140d1b8e7524f2f245f4008ad305", func := "bonsai/bonsailaw6.LimitsAbstract", spec := "limitsAbstract", inPlace := ["internal/bytealg.IndexByteString", "internal/bytealg.IndexString", "internal/abi.NoEscape"], unfollowed := true, recurses := true, named := ["internal/bytealg.MaxLen"], apart := false, narrowed := true }
def LimitsAbstractUptoSaid : Prop := limitsAbstractUptoRow.holds Tryz.pinned (OpenSpec.upto limitsAbstractSpec)

end Rows
end Go.Proofs.YtofnbapnmhibaaaGreat
