/- What came in, opened: slices of numbers, of texts, of deeds. -/
import Derived.Test.YtejjmbfbjagifaaSElem
import Derived.OpenShut
import Derived.SliceStrings
import Derived.ProofKit
import Derived.SizedLaws
import Derived.Deep.SlicePairs
import Derived.Lib.SmallJoins
namespace Go.Proofs.Ytejjmbfbjagifaa.S
open Go.ChangeShapes Go.WideShapes Go.ChangeAt Go.RowKit

def c8 (x : Int) : Value := .int .u8 x
def ok8 (x : Int) : Prop := 0 ≤ x ∧ x ≤ 255
/-- a slice that came in reads as xs -/
def InC {α : Type} (c : α → Value) (ok : α → Prop) (w : World) (a : Option Addr) (len cap : Nat) (xs : List α) : Prop :=
  xs.length = len ∧ RdC c (fun b => b < w.heap.size) w (.slice a len cap) xs ∧ ∀ x ∈ xs, ok x

theorem spot_of_cell {w : World} {x : Addr} {v : Value} (h : w.cell? x = some v) : x.spot = none := by
  cases hs : x.spot with
  | none => rfl
  | some j =>
    unfold World.cell? at h
    rw [hs] at h
    split at h <;> simp at h

theorem rdC_of {α : Type} {c : α → Value} {ok : α → Prop} {w : World} {x : Addr} {len cap : Nat} {zs : List α} (hl : len ≤ cap) (hm : cap ≤ maxLen) (hz : zs.length = cap) (hc : ∀ i z, zs[i]? = some z → w.cell? (x.add i) = some (c z)) (ho : ∀ z ∈ zs, ok z) : InC c ok w (some x) len cap (zs.take len) := by
  have hlen : (zs.take len).length = len := by rw [List.length_take]; omega
  refine ⟨hlen, ⟨some x, cap, by rw [hlen], by rw [hlen]; exact hl, (fun e => by cases e), hm, ?_⟩, fun z hz => ho z (List.mem_of_mem_take hz)⟩
  by_cases h0 : zs.take len = []
  · exact .inl h0
  · have hp : 0 < len := by
      rcases Nat.eq_zero_or_pos len with e | e
      · rw [e] at h0; simp at h0
      · exact e
    have h00 := hc 0 _ (List.getElem?_eq_getElem (show 0 < zs.length by omega))
    have e0 : x.add 0 = x := by simp [Addr.add]
    rw [e0] at h00
    have hs := spot_of_cell h00
    refine .inr ⟨x.block, x.off, ?_, World.block_lt_of_cell? _ _ h00, World.block_lt_of_cell? _ _ h00, fun i z hz' => ?_⟩
    · obtain ⟨b, o, s⟩ := x
      simp only at hs
      subst hs
      rfl
    · have hi : i < len := by
        have := (List.getElem?_eq_some_iff.1 hz').1
        omega
      rw [List.getElem?_take_of_lt hi] at hz'
      rw [← add_add x i hs]
      exact hc i z hz'

theorem row_in {H : Type} {enc : TypeId × Value → H} {W : World} {base : Nat} {spare : Nat → Bool} {held : Bool} {t e : TypeId} {k : IntKind} {a : Option Addr} {len cap : Nat} {d : DataW H} {p : List MemPlace}
    (ht : Try.prog.underlying t = some (.slice e)) (he : Try.prog.underlying e = some (.int k)) (hc : Try.prog.cellsOf e = 1) (h : DataW.Trod enc Try.prog W base spare held t (.slice a len cap) d p) (hsp : ∀ b, spare b = true := by exact fun _ => rfl) :
    ∃ zs : List Int, InC (fun x => .int k x) (fun x => (Lit.int k x).wf = true) W a len cap zs := by
  obtain ⟨fuel, hf⟩ := h
  rcases open_ints ht he hc hf with ⟨hcs, _⟩ | ⟨x, l, c, zs, hcs, _, hl, hm, hz, _, hcell, hwz⟩
  · simp [Value.cells] at hcs
    obtain ⟨rfl, rfl, rfl⟩ := hcs
    exact ⟨[], rfl, RdC.nil _ _, fun x hx => by cases hx⟩
  · simp [Value.cells] at hcs
    obtain ⟨rfl, rfl, rfl⟩ := hcs
    refine ⟨_, rdC_of hl hm (by simpa [hsp] using hz) (fun i z hz' => ?_) hwz⟩
    have hi := (List.getElem?_eq_some_iff.1 hz').1
    rw [hcell i hi, List.getD_eq_getElem?_getD, hz']
    rfl

theorem txts_in {H : Type} {enc : TypeId × Value → H} {w : World} {base : Nat} {spare : Nat → Bool} {held : Bool} {a : Option Addr} {len cap : Nat} {d : DataW H} {p : List MemPlace}
    (h : DataW.Trod enc Try.prog w base spare held 22 (.slice a len cap) d p) (hsp : ∀ b, spare b = true := by exact fun _ => rfl) : ∃ ss, InC cS okS w a len cap ss := by
  obtain ⟨fuel, hf⟩ := h
  rcases open_strings Try.underlying22 Try.underlying9 (by kernel_rfl) hf with ⟨hcs, _⟩ | ⟨x, l, c, ss, hcs, _, hl, hm, hz, _, hcell, hsz⟩
  · simp [Value.cells] at hcs
    obtain ⟨rfl, rfl, rfl⟩ := hcs
    exact ⟨[], rfl, RdC.nil _ _, fun x hx => by cases hx⟩
  · simp [Value.cells] at hcs
    obtain ⟨rfl, rfl, rfl⟩ := hcs
    refine ⟨_, rdC_of hl hm (by simpa [hsp] using hz) (fun i z hz' => ?_) hsz⟩
    have hi := (List.getElem?_eq_some_iff.1 hz').1
    rw [hcell i hi, List.getD_eq_getElem?_getD, hz']
    rfl

theorem InC.low {α : Type} {c : α → Value} {ok : α → Prop} {w w' : World} {a : Option Addr} {len cap B : Nat} {xs : List α} (h : InC c ok w a len cap xs) (hB : w.heap.size = B) (hb : Below B w w') : RdC c (fun b => b < B) w' (.slice a len cap) xs := by
  subst hB
  exact h.2.1.keep (fun b hb' hl => hb.block b hl) (fun _ h _ => h) hb.size
theorem RdC.low {α : Type} {c : α → Value} {w w' : World} {v : Value} {B : Nat} {xs : List α} (h : RdC c (fun b => b < B) w v xs) (hb : Below B w w') : RdC c (fun b => b < B) w' v xs :=
  h.keep (fun b hb' _ => hb.block b hb') (fun _ h _ => h) hb.size
theorem InC.le {α : Type} {c : α → Value} {ok : α → Prop} {w : World} {a : Option Addr} {len cap : Nat} {xs : List α} (h : InC c ok w a len cap xs) : len ≤ cap ∧ cap ≤ maxLen := by
  obtain ⟨p, cp, e, h1, h2⟩ := h.2.1.form
  simp only [Value.slice.injEq] at e
  obtain ⟨_, rfl, rfl⟩ := e
  exact ⟨h1, h2⟩
end Go.Proofs.Ytejjmbfbjagifaa.S
