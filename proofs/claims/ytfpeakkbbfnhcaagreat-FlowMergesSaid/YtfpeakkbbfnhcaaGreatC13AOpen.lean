/- Texts that the proof is made of, joined. No condition. -/
import Derived.Test.YtfpeakkbbfnhcaaGreatC13Open
import Derived.Test.YtfpeakkbbfnhcaaGreatC132
import Derived.Laws.IdiomArrays
import Derived.ProofKit
import Derived.SizedLaws
import Derived.Lib.SmallJoins
set_option linter.unusedVariables false
set_option linter.unusedSimpArgs false
set_option maxRecDepth 100000
set_option maxHeartbeats 16000000
namespace Go.Proofs.YtfpeakkbbfnhcaaGreat.A
open Go.ChangeShapes Go.WideShapes Go.ChangeAt Go.RowKit
theorem cells4 : Tryz.prog.cellsOf 22 = 4 := by kernel_rfl
theorem four_of {l : List Value} (h : l.length = 4) : ∃ c0 c1 c2 c3,l = [c0,c1,c2,c3] := by
 match l,h with
 | [c0,c1,c2,c3],_ => exact ⟨c0,c1,c2,c3,rfl⟩
theorem arr4_open {H : Type} {enc : TypeId × Value -> H} {w : World} {base b0 : Nat} {spare : Nat -> Bool} {held : Bool} {r : Reach} {v : Value} {d : DataW H} {p : List MemPlace}
  (hv : Value.okWide Tryz.prog w r b0 22 v) (h : DataW.Trod enc Tryz.prog w base spare held 22 v d p) :
  ∃ x0 x1 x2 x3 : Int,v = .agg #[.int .u8 x0,.int .u8 x1,.int .u8 x2,.int .u8 x3] /\ (Lit.int .u8 x0).wf = true /\ (Lit.int .u8 x1).wf = true /\ (Lit.int .u8 x2).wf = true /\ (Lit.int .u8 x3).wf = true := by
 obtain ⟨cs,rfl,hsz,_⟩ : ∃ cs,v = .agg cs /\ cs.size = Tryz.prog.cellsOf 22 /\ Row.okWide Tryz.prog w r b0 22 cs := by
  simpa [Value.okWide,Tryz.underlying22] using hv
 rw [cells4] at hsz
 obtain ⟨l⟩ := cs
 obtain ⟨c0,c1,c2,c3,rfl⟩ := four_of hsz
 obtain ⟨fuel,hf⟩ := h
 obtain ⟨y0,y1,y2,y3,m,hx,hy0,hy1,hy2,hy3⟩ := trod_array4 Tryz.underlying22 (by kernel_rfl) hf
 obtain ⟨x0,e0,rfl,w0⟩ := DataW.trod_int Tryz.underlying5 hy0
 obtain ⟨x1,e1,rfl,w1⟩ := DataW.trod_int Tryz.underlying5 hy1
 obtain ⟨x2,e2,rfl,w2⟩ := DataW.trod_int Tryz.underlying5 hy2
 obtain ⟨x3,e3,rfl,w3⟩ := DataW.trod_int Tryz.underlying5 hy3
 simp at e0 e1 e2 e3
 subst e0 e1 e2 e3
 exact ⟨x0,x1,x2,x3,rfl,w0,w1,w2,w3⟩
end Go.Proofs.YtfpeakkbbfnhcaaGreat.A
