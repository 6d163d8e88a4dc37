/- What is known of slices that come in. -/
import Derived.Test.YtnpbhpidciiciaaPlain
import Derived.OpenShut
namespace Go.Proofs.Ytnpbhpidciiciaa
open Go.RowKit

/-- a slice of integers that came in: nil, or a row of cap cells, the numbers zs -/
def IsRow (k : IntKind) (w : World) (a : Option Addr) (len cap : Nat) (zs : List Int) : Prop :=
  (a = none ∧ len = 0 ∧ cap = 0 ∧ zs = []) ∨
  ∃ x, a = some x ∧ len ≤ cap ∧ cap ≤ maxLen ∧ zs.length = cap ∧ (∀ i, i < zs.length → w.cell? (x.add i) = some (.int k (zs.getD i 0))) ∧ ∀ n ∈ zs, (Lit.int k n).wf = true

theorem add_add (x : Addr) (i : Nat) (h : x.spot = none) : x.add i = ⟨x.block, x.off + i, none⟩ := by
  obtain ⟨b, o, s⟩ := x
  simp only at h
  subst h
  unfold Addr.add
  split <;> simp_all

theorem spot_of_cell {w : World} {x : Addr} {v : Value} (h : w.cell? x = some v) : x.spot = none := by
  cases hs : x.spot with
  | none => rfl
  | some j =>
    unfold World.cell? at h
    rw [hs] at h
    split at h <;> simp at h

theorem wf_u8 {n : Int} (h : (Lit.int .u8 n).wf = true) : 0 ≤ n ∧ n ≤ 255 := bounds_u8 h

theorem rd_of_row {w : World} {a : Option Addr} {len cap : Nat} {zs : List Int} (h : IsRow .u8 w a len cap zs) : ∃ l : List UInt8, l.length = len ∧ Rd w (.slice a len cap) l := by
  rcases h with ⟨rfl, rfl, rfl, rfl⟩ | ⟨x, rfl, hl, hm, hz, hc, hw⟩
  · exact ⟨[], rfl, none, 0, rfl, Nat.le_refl _, fun _ => rfl, fun a ha => by cases ha⟩
  · have hlen : ((zs.take len).map fun z => UInt8.ofNat z.toNat).length = len := by rw [List.length_map, List.length_take]; omega
    refine ⟨(zs.take len).map fun z => UInt8.ofNat z.toNat, hlen, some x, cap, by rw [hlen], by rw [hlen]; exact hl, (fun h => by cases h), fun a ha i y hy => ?_⟩
    cases ha
    rw [List.getElem?_map, Option.map_eq_some_iff] at hy
    obtain ⟨z, hz1, rfl⟩ := hy
    have hi : i < len := by
      have := (List.getElem?_eq_some_iff.1 hz1).1
      rw [List.length_take] at this
      omega
    rw [List.getElem?_take_of_lt hi] at hz1
    have hb := wf_u8 (hw z (List.mem_of_getElem? hz1))
    rw [hc i (by omega), List.getD_eq_getElem?_getD, hz1]
    rw [u8_ofNat (by omega)]
    show some (Value.int .u8 z) = _
    rw [Int.toNat_of_nonneg hb.1]

theorem rdI_of_row {w : World} {a : Option Addr} {len cap : Nat} {zs : List Int} (h : IsRow .i64 w a len cap zs) : ∃ l : List Int, l.length = len ∧ RdI w (.slice a len cap) l := by
  rcases h with ⟨rfl, rfl, rfl, rfl⟩ | ⟨x, rfl, hl, hm, hz, hc, hw⟩
  · exact ⟨[], rfl, none, 0, rfl, (fun a ha => by cases ha), fun _ => rfl, (fun i x hx => by simp at hx), fun a ha => by cases ha⟩
  · have hlen : (zs.take len).length = len := by rw [List.length_take]; omega
    refine ⟨zs.take len, hlen, some x, cap, by rw [hlen], fun a ha hne => ?_, (fun h => by cases h), fun i y hy => ?_, fun a ha i y hy => ?_⟩
    · cases ha
      have hzl : 0 < zs.length := by
        cases hh : zs with
        | nil => rw [hh] at hne; simp at hne
        | cons _ _ => simp
      have := hc 0 hzl
      have e0 : x.add 0 = x := by simp [Addr.add]
      rw [e0] at this
      exact spot_of_cell this
    · have hi : i < len := by
        have := (List.getElem?_eq_some_iff.1 hy).1
        rw [List.length_take] at this
        omega
      rw [List.getElem?_take_of_lt hi] at hy
      exact bounds_i64 (hw y (List.mem_of_getElem? hy))
    · cases ha
      have hi : i < len := by
        have := (List.getElem?_eq_some_iff.1 hy).1
        rw [List.length_take] at this
        omega
      rw [List.getElem?_take_of_lt hi] at hy
      have h0 := hc 0 (by omega)
      have e0 : x.add 0 = x := by simp [Addr.add]
      rw [e0] at h0
      rw [← add_add x i (spot_of_cell h0), hc i (by omega), List.getD_eq_getElem?_getD, hy]
      rfl

theorem row_lt {k : IntKind} {w : World} {a : Option Addr} {len cap : Nat} {zs : List Int} (h : IsRow k w a len cap zs) (hc : 0 < cap) : ∀ g, (Value.slice a len cap).ownBlock = some g → g < w.heap.size := by
  rcases h with ⟨rfl, rfl, rfl, rfl⟩ | ⟨x, rfl, hl, hm, hz, hcell, hw⟩
  · omega
  · intro g hg
    simp only [Value.ownBlock, Option.some.injEq] at hg
    subst hg
    have := World.block_lt_of_cell? _ _ (hcell 0 (by omega))
    rwa [add_block] at this

theorem live_of_row {k : IntKind} {w : World} {a : Option Addr} {len cap : Nat} {zs : List Int} {α : Type} {l : List α} (h : IsRow k w a len cap zs) (hl : l.length = len) : l = [] ∨ ∀ g, (Value.slice a len cap).ownBlock = some g → g < w.heap.size := by
  by_cases hc : 0 < cap
  · exact .inr (row_lt h hc)
  · have hcl : len ≤ cap := by
      rcases h with ⟨rfl, rfl, rfl, rfl⟩ | ⟨x, rfl, h1, _⟩
      · omega
      · exact h1
    exact .inl (List.eq_nil_of_length_eq_zero (by omega))

/-- a literal of bytes is the call's own -/
theorem Own.lit {w : World} {B : Nat} (vals : Array Value) (l : List UInt8) (h : vals.toList = l.map u8) (hB : B ≤ w.heap.size) (hl : l.length ≤ 1000000) :
    Own (w.alloc (.cells vals 5)) B (.slice (some ⟨w.heap.size, 0, none⟩) l.length l.length) l := by
  have hs : vals.size = l.length := by rw [← Array.length_toList, h, List.length_map]
  refine ⟨by simp, .inr ⟨w.heap.size, l.length, vals, rfl, hB, heap_alloc_new w _, Nat.le_refl _, by unfold maxLen; omega, by omega, ?_⟩⟩
  rw [h, Nat.mul_one, List.take_of_length_le (by simp)]

end Go.Proofs.Ytnpbhpidciiciaa
