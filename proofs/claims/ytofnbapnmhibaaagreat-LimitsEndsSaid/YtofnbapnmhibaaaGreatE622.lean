/- Texts that the proof is made of, joined. No condition. -/
import Derived.Test.YtofnbapnmhibaaaGreatE60
import Derived.ProofKit
import Derived.Test.YtofnbapnmhibaaaGreatE66
import Derived.Laws.IdiomArrays
import Derived.SizedLaws
import Derived.Lib.SmallJoins
set_option linter.unusedVariables false
set_option linter.unusedSimpArgs false
set_option maxRecDepth 100000
set_option maxHeartbeats 16000000
namespace Go.Proofs.YtofnbapnmhibaaaGreat
open Go.ChangeShapes Go.WideShapes Go.ChangeAt Go.RowKit
theorem row_open {H : Type} {enc : TypeId × Value -> H} {W : World} {base : Nat} {spare : Nat -> Bool} {held : Bool} {t e : TypeId} {k : IntKind} {a : Option Addr} {len cap : Nat} {d : DataW H} {p : List MemPlace}
  (ht : Tryz.prog.underlying t = some (.slice e)) (he : Tryz.prog.underlying e = some (.int k)) (hc : Tryz.prog.cellsOf e = 1) (h : DataW.Trod enc Tryz.prog W base spare held t (.slice a len cap) d p) (hsp : ∀ b,spare b = true := by exact fun _ => rfl) :
  ∃ zs,IsRow k W a len cap zs := by
 obtain ⟨fuel,hf⟩ := h
 rcases open_ints ht he hc hf with ⟨hcs,_⟩ | ⟨x,l,c,zs,hcs,_,hl,hm,hz,_,hcell,hwz⟩
 ·simp [Value.cells] at hcs
  obtain ⟨rfl,rfl,rfl⟩ := hcs
  exact ⟨[],.inl ⟨rfl,rfl,rfl,rfl⟩⟩
 ·simp [Value.cells] at hcs
  obtain ⟨rfl,rfl,rfl⟩ := hcs
  exact ⟨zs,.inr ⟨_,rfl,hl,hm,by simpa [hsp] using hz,hcell,hwz⟩⟩
theorem row_le {k : IntKind} {w : World} {a : Option Addr} {len cap : Nat} {zs : List Int} (h : IsRow k w a len cap zs) : len <= 9223372036854775807 := by
 rcases h with ⟨_,h,_⟩ | ⟨_,_,h1,h2,_⟩
 ·omega
 ·unfold maxLen at h2; omega
end Go.Proofs.YtofnbapnmhibaaaGreat
namespace Go.Proofs.YtofnbapnmhibaaaGreat.A
open Go.ChangeShapes Go.WideShapes Go.ChangeAt Go.RowKit
theorem bytes_open {H : Type} {enc : TypeId × Value -> H} {W : World} {base : Nat} {spare : Nat -> Bool} {held : Bool} {a : Option Addr} {len cap : Nat} {d : DataW H} {p : List MemPlace}
  (h : DataW.Trod enc Tryz.prog W base spare held 38 (.slice a len cap) d p) (hsp : ∀ b,spare b = true) : ∃ l : List UInt8,len = l.length /\ Rd W (.slice a len cap) l /\ (l = [] ∨ ∀ g,(Value.slice a len cap).ownBlock = some g -> g < W.heap.size) /\ len <= 9223372036854775807 := by
 obtain ⟨zs,hz⟩ := row_open Tryz.underlying38 Tryz.underlying5 (by kernel_rfl) h hsp
 obtain ⟨l,hl,hr⟩ := rd_of_row hz
 exact ⟨l,hl.symm,hr,live_of_row hz hl,row_le hz⟩
end Go.Proofs.YtofnbapnmhibaaaGreat.A
