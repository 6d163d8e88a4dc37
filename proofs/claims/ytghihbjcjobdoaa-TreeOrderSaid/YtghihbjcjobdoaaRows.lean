/-
  No cell of these rows narrows 'for every input' (looked for: loops, veiled, ifaces, maps, wideKeys, modest, calm, conditions, laid).
  DERIVED. THE GIVEN ROWS OF THIS SEAT. 3 by the template 'for every input the law returns true; each argument reads behind the call as it read before'; 0 by the template 'total and deterministic' (their statements: YtghihbjcjobdoaaTotals.lean).
  GIVEN WITH THE SEED: the statements are not yours to turn. If you find one false, say at which input.
  Laid BY PROGRAM, IN A SANDBOX (cutbox-rows.mjs): the forced cells as the released guide's own fill.sh prints them over the translation 55c848dfee128011… (all of the seat's roots in one cut). By AI agents, Wed Nov 11 2026. No macro, syntax, notation, axiom, sorry.
-/
import Derived.Test.YtghihbjcjobdoaaChecked
import GoSem.Claim
import GoSem.ClaimJoined
import GoSem.ClaimMapViews
import Derived.JoinedTies
import Derived.KernelRfl
namespace Go.Proofs.Ytghihbjcjobdoaa
/- THE CELL 'sum', in the pinned program and in every row, IS THE sha256 OF THE DUMP (.gsa) THAT YtghihbjcjobdoaaProg.lean LOADS. Nothing in Lean hashes anything: it is a label: what it is worth is what the hold of that sum in a sandbox is worth. -/
noncomputable def Try.pinned : Pinned := { name := "ytghihbjcjobdoaa", sum := "55c848dfee1280115f027aed75d592253cd66afbcf3d5e47765d63956b9a5b51", checked := Try.checked }
namespace Rows
def none {H : Type} : Left H := { results := [], args := [] }

/-- 'bonsailaw8.TreeOrder': WHATEVER THE INPUT: true; the input reads as it did. -/
def treeOrderSpec : ChangeSpec := { name := "treeOrder", fn := fun _ => fun
  | [d1, d2, d3, d4] => { results := [.lit (.bool true)], args := [d1, d2, d3, d4] }
  | _ => none }
def treeOrderRow : OpenClaim := { program := "ytghihbjcjobdoaa", sum := "55c848dfee1280115f027aed75d592253cd66afbcf3d5e47765d63956b9a5b51", func := "bonsai/bonsailaw8.TreeOrder", spec := "treeOrder", apart := false }
def TreeOrderSaid : Prop := treeOrderRow.holds Try.pinned (OpenSpec.ofChange treeOrderSpec)

/-- ITS FALSE NEIGHBOUR: 'it returns false'. Refute it at one input. -/
def treeOrderWrong : ChangeSpec := { name := "treeOrder", fn := fun _ => fun
  | [d1, d2, d3, d4] => { results := [.lit (.bool false)], args := [d1, d2, d3, d4] }
  | _ => none }
def TreeOrderWrongFalsely : Prop := treeOrderRow.holds Try.pinned (OpenSpec.ofChange treeOrderWrong)

/-- 'bonsailaw8.TreeBuiltins': WHATEVER THE INPUT: true; the input reads as it did. -/
def treeBuiltinsSpec : ChangeSpec := { name := "treeBuiltins", fn := fun _ => fun
  | [d1, d2, d3] => { results := [.lit (.bool true)], args := [d1, d2, d3] }
  | _ => none }
def treeBuiltinsRow : OpenClaim := { program := "ytghihbjcjobdoaa", sum := "55c848dfee1280115f027aed75d592253cd66afbcf3d5e47765d63956b9a5b51", func := "bonsai/bonsailaw8.TreeBuiltins", spec := "treeBuiltins", apart := false }
def TreeBuiltinsSaid : Prop := treeBuiltinsRow.holds Try.pinned (OpenSpec.ofChange treeBuiltinsSpec)

/-- ITS FALSE NEIGHBOUR: 'it returns false'. Refute it at one input. -/
def treeBuiltinsWrong : ChangeSpec := { name := "treeBuiltins", fn := fun _ => fun
  | [d1, d2, d3] => { results := [.lit (.bool false)], args := [d1, d2, d3] }
  | _ => none }
def TreeBuiltinsWrongFalsely : Prop := treeBuiltinsRow.holds Try.pinned (OpenSpec.ofChange treeBuiltinsWrong)

/-- 'bonsailaw8.TreeIfaces': WHATEVER THE INPUT: true; the input reads as it did. -/
def treeIfacesSpec : ChangeSpec := { name := "treeIfaces", fn := fun _ => fun
  | [d] => { results := [.lit (.bool true)], args := [d] }
  | _ => none }
def treeIfacesRow : OpenClaim := { program := "ytghihbjcjobdoaa", sum := "55c848dfee1280115f027aed75d592253cd66afbcf3d5e47765d63956b9a5b51", func := "bonsai/bonsailaw8.TreeIfaces", spec := "treeIfaces", apart := false }
def TreeIfacesSaid : Prop := treeIfacesRow.holds Try.pinned (OpenSpec.ofChange treeIfacesSpec)

/-- ITS FALSE NEIGHBOUR: 'it returns false'. Refute it at one input. -/
def treeIfacesWrong : ChangeSpec := { name := "treeIfaces", fn := fun _ => fun
  | [d] => { results := [.lit (.bool false)], args := [d] }
  | _ => none }
def TreeIfacesWrongFalsely : Prop := treeIfacesRow.holds Try.pinned (OpenSpec.ofChange treeIfacesWrong)

/- THE SECOND FORM. 'bulk': how many values and letters a reading holds, each counted each time it is reached (what is shared counts as often as it is met; a slice's spare places count too). A statement '..UptoSaid' is the law's where the arguments, and the package variables that the reading takes, are together of bulk at most 1048576: NARROWER than '..Said'. Prove '..Said' where nothing that the law and all that it calls make is longer than what came in: it says more and counts as full. Else prove '..UptoSaid'. A law counts once. -/
mutual
def uptoBulk {H : Type} : DataW H → Nat
  | .lit (.string bytes) => bytes.length + 1
  | .lit _ => 1
  | .nil => 1
  | .ptr d => uptoBulk d + 1
  | .slice elems spare => uptoBulkAll elems + uptoBulkAll spare + 1
  | .agg parts => uptoBulkAll parts + 1
  | .iface _ d => uptoBulk d + 1
  | .map entries => uptoBulkEntries entries + 1
  | .held _ => 1
def uptoBulkAll {H : Type} : List (DataW H) → Nat
  | [] => 0
  | d :: r => uptoBulk d + uptoBulkAll r
def uptoBulkEntries {H : Type} : List (Lit × DataW H) → Nat
  | [] => 0
  | x :: r => uptoBulkEntry x + uptoBulkEntries r
def uptoBulkEntry {H : Type} : Lit × DataW H → Nat
  | (.string bytes, d) => bytes.length + uptoBulk d + 1
  | (_, d) => uptoBulk d + 1
 end
def uptoSmall : (H : Type) → List (DataW H) → Bool := fun _ ds => decide (uptoBulkAll ds ≤ 1048576)
def OpenSpec.upto (s : _root_.Go.ChangeSpec) : _root_.Go.OpenSpec := { _root_.Go.OpenSpec.ofChange s with cond := some uptoSmall }

/-- 'bonsailaw8.TreeOrder', WHERE WHAT IT READS IS OF BULK AT MOST 1048576: true; the input reads as it did. -/
def treeOrderUptoRow : OpenClaim := { program := "ytghihbjcjobdoaa", sum := "55c848dfee1280115f027aed75d592253cd66afbcf3d5e47765d63956b9a5b51", func := "bonsai/bonsailaw8.TreeOrder", spec := "treeOrder", apart := false, narrowed := true }
def TreeOrderUptoSaid : Prop := treeOrderUptoRow.holds Try.pinned (OpenSpec.upto treeOrderSpec)

/-- 'bonsailaw8.TreeBuiltins', WHERE WHAT IT READS IS OF BULK AT MOST 1048576: true; the input reads as it did. -/
def treeBuiltinsUptoRow : OpenClaim := { program := "ytghihbjcjobdoaa", sum := "55c848dfee1280115f027aed75d592253cd66afbcf3d5e47765d63956b9a5b51", func := "bonsai/bonsailaw8.TreeBuiltins", spec := "treeBuiltins", apart := false, narrowed := true }
def TreeBuiltinsUptoSaid : Prop := treeBuiltinsUptoRow.holds Try.pinned (OpenSpec.upto treeBuiltinsSpec)

/-- 'bonsailaw8.TreeIfaces', WHERE WHAT IT READS IS OF BULK AT MOST 1048576: true; the input reads as it did. -/
def treeIfacesUptoRow : OpenClaim := { program := "ytghihbjcjobdoaa", sum := "55c848dfee1280115f027aed75d592253cd66afbcf3d5e47765d63956b9a5b51", func := "bonsai/bonsailaw8.TreeIfaces", spec := "treeIfaces", apart := false, narrowed := true }
def TreeIfacesUptoSaid : Prop := treeIfacesUptoRow.holds Try.pinned (OpenSpec.upto treeIfacesSpec)

end Rows
end Go.Proofs.Ytghihbjcjobdoaa
