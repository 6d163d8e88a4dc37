/- What is known of slices that come in. -/
import Derived.Test.YtibciicpgjgjbaaDoorDBase
import Derived.OpenShut
import Derived.Below
namespace Go.Proofs.YtibciicpgjgjbaaDoor
open Go.RowKit

/-- a slice of integers that came in: nil, or a row of cap cells, the numbers zs -/
def IsRow (k : IntKind) (w : World) (a : Option Addr) (len cap : Nat) (zs : List Int) : Prop :=
  (a = none ∧ len = 0 ∧ cap = 0 ∧ zs = []) ∨
  ∃ x, a = some x ∧ len ≤ cap ∧ cap ≤ maxLen ∧ zs.length = cap ∧ (∀ i, i < zs.length → w.cell? (x.add i) = some (.int k (zs.getD i 0))) ∧ ∀ n ∈ zs, (Lit.int k n).wf = true

theorem add_add (x : Addr) (i : Nat) (h : x.spot = none) : x.add i = ⟨x.block, x.off + i, none⟩ := by
  obtain ⟨b, o, s⟩ := x
  simp only at h
  subst h
  unfold Addr.add
  split <;> simp_all

theorem spot_of_cell {w : World} {x : Addr} {v : Value} (h : w.cell? x = some v) : x.spot = none := by
  cases hs : x.spot with
  | none => rfl
  | some j =>
    unfold World.cell? at h
    rw [hs] at h
    split at h <;> simp at h

theorem wf_u8 {n : Int} (h : (Lit.int .u8 n).wf = true) : 0 ≤ n ∧ n ≤ 255 := bounds_u8 h

/-- the slice value v reads as the small numbers zs -/
def RdB (w : World) (v : Value) (zs : List Int) : Prop :=
  ∃ (p : Option Addr) (cap : Nat), v = .slice p zs.length cap ∧ zs.length ≤ cap ∧ (∀ a, p = some a → zs ≠ [] → a.spot = none) ∧ (p = none → zs = []) ∧
    (∀ (i : Nat) x, zs[i]? = some x → 0 ≤ x ∧ x ≤ 255) ∧
    ∀ a, p = some a → ∀ (i : Nat) x, zs[i]? = some x → w.cell? ⟨a.block, a.off + i, none⟩ = some (.int .u8 x)

theorem RdB.below {B : Nat} {w w' : World} {v : Value} {zs : List Int} (h : RdB w v zs) (hb : Below B w w') (hB : w.heap.size ≤ B) : RdB w' v zs := by
  obtain ⟨p, cap, rfl, h0, h1, h2, hr, h3⟩ := h
  refine ⟨p, cap, rfl, h0, h1, h2, hr, fun a ha i x hx => ?_⟩
  have c := h3 a ha i x hx
  have hlt := World.block_lt_of_cell? _ _ c
  simp only at hlt
  rw [hb.cell (p := ⟨a.block, a.off + i, none⟩) (by simp only; omega)]
  exact c

theorem rdB_of_row {w : World} {a : Option Addr} {len cap : Nat} {zs : List Int} (h : IsRow .u8 w a len cap zs) : ∃ l : List Int, l.length = len ∧ RdB w (.slice a len cap) l := by
  rcases h with ⟨rfl, rfl, rfl, rfl⟩ | ⟨x, rfl, hl, hm, hz, hc, hw⟩
  · exact ⟨[], rfl, none, 0, rfl, Nat.le_refl _, (fun a ha => by cases ha), fun _ => rfl, (fun i x hx => by simp at hx), fun a ha => by cases ha⟩
  · have hlen : (zs.take len).length = len := by rw [List.length_take]; omega
    refine ⟨zs.take len, hlen, some x, cap, by rw [hlen], by rw [hlen]; exact hl, fun a ha hne => ?_, (fun h => by cases h), fun i y hy => ?_, fun a ha i y hy => ?_⟩
    · cases ha
      have hzl : 0 < zs.length := by
        cases hh : zs with
        | nil => rw [hh] at hne; simp at hne
        | cons _ _ => simp
      have := hc 0 hzl
      have e0 : x.add 0 = x := by simp [Addr.add]
      rw [e0] at this
      exact spot_of_cell this
    · have hi : i < len := by
        have := (List.getElem?_eq_some_iff.1 hy).1
        rw [List.length_take] at this
        omega
      rw [List.getElem?_take_of_lt hi] at hy
      exact wf_u8 (hw y (List.mem_of_getElem? hy))
    · cases ha
      have hi : i < len := by
        have := (List.getElem?_eq_some_iff.1 hy).1
        rw [List.length_take] at this
        omega
      rw [List.getElem?_take_of_lt hi] at hy
      have h0 := hc 0 (by omega)
      have e0 : x.add 0 = x := by simp [Addr.add]
      rw [e0] at h0
      rw [← add_add x i (spot_of_cell h0), hc i (by omega), List.getD_eq_getElem?_getD, hy]
      rfl

end Go.Proofs.YtibciicpgjgjbaaDoor
