/- WireReads: the walk. -/
import Derived.Test.YtnpbhpidciiciaaLawReads
namespace Go.Proofs.Ytnpbhpidciiciaa
open Go.RowKit

theorem u8_of {c : Int} (h0 : 0 ≤ c) (h1 : c ≤ 255) : u8 (UInt8.ofNat c.toNat) = .int .u8 c := by
  rw [u8_ofNat (by omega), Int.toNat_of_nonneg h0]

theorem numR_e {bs : List UInt8} {k e m v k' e' : Nat} (hk : k ≤ bs.length) (he : e < 100) (h : numR bs k e m = (v, k', e')) : e' < 100 := (numR_le hk he h).2.2

theorem textR_e {bs l : List UInt8} {k e m k' e' : Nat} (hk : k ≤ bs.length) (he : e < 100) (h : textR bs k e m = (l, k', e')) : e' < 100 := by
  rcases hn : numR bs k e m with ⟨v, k2, e2⟩
  have h2 := numR_e hk he hn
  rw [textR_num hn] at h
  by_cases h0 : e2 = 0
  · rw [if_pos h0] at h
    by_cases h1 : bs.length - k2 < v
    · rw [if_pos h1] at h
      simp only [Prod.mk.injEq] at h
      omega
    · rw [if_neg h1] at h
      simp only [Prod.mk.injEq] at h
      omega
  · rw [if_neg h0] at h
    simp only [Prod.mk.injEq] at h
    omega

theorem rtwoR_e {bs : List UInt8} {k e m v k' e' : Nat} (_hk : k ≤ bs.length) (he : e < 100) (h : rtwoR bs k e m = (v, k', e')) : e' < 100 := by
  rcases hL : lookTwoR bs k e m with ⟨a, x⟩
  have hf := lookTwoR_facts bs k e m a x he hL
  rw [rtwoR_look hL] at h
  by_cases hx : x = 0
  · rw [if_pos hx] at h
    simp only [Prod.mk.injEq] at h
    omega
  · rw [if_neg hx] at h
    simp only [Prod.mk.injEq] at h
    omega

theorem Drawn.rdr {w w' : World} {M r : Nat} {xs : List UInt8} {k e : Nat} (h : Drawn w w') (hr : Rdr w M r xs k e) : Rdr w' M r xs k e := by obtain ⟨n, rfl⟩ := h; exact hr
theorem Drawn.ref {w w' : World} {M r : Nat} {xs : List UInt8} {k e : Nat} (h : Drawn w w') (hr : Ref w M r xs k e) : Ref w' M r xs k e := by obtain ⟨n, rfl⟩ := h; exact hr
theorem Drawn.four {w w' : World} {tb M : Nat} (h : Drawn w w') (hr : Four w tb M) : Four w' tb M := by obtain ⟨n, rfl⟩ := h; exact hr
theorem Drawn.below {w0 w w' : World} {M : Nat} (h : Drawn w w') (hr : Below M w0 w) : Below M w0 w' := by obtain ⟨n, rfl⟩ := h; exact below_drewN' hr n
theorem Drawn.size {w w' : World} {M : Nat} (h : Drawn w w') (hr : M ≤ w.heap.size) : M ≤ w'.heap.size := by obtain ⟨n, rfl⟩ := h; exact hr
theorem Drawn.cell {w w' : World} {p : Addr} {v : Value} (h : Drawn w w') (hr : w.cell? p = some v) : w'.cell? p = some v := by obtain ⟨n, rfl⟩ := h; exact hr

/-- the values that the sizes may have -/
def InI64 (m : Int) : Prop := -9223372036854775808 ≤ m ∧ m ≤ 9223372036854775807

theorem four_new (w : World) (t : TypeId) (p0 p1 p2 p3 : Option Addr) (c0 c1 c2 c3 : Nat) (x0 x1 x2 x3 : List UInt8)
    (h0 : Rd w (.slice p0 x0.length c0) x0) (h1 : Rd w (.slice p1 x1.length c1) x1) (h2 : Rd w (.slice p2 x2.length c2) x2) (h3 : Rd w (.slice p3 x3.length c3) x3)
    (v0 : x0 = [] ∨ ∀ g, (Value.slice p0 x0.length c0).ownBlock = some g → g < w.heap.size) (v1 : x1 = [] ∨ ∀ g, (Value.slice p1 x1.length c1).ownBlock = some g → g < w.heap.size)
    (v2 : x2 = [] ∨ ∀ g, (Value.slice p2 x2.length c2).ownBlock = some g → g < w.heap.size) (v3 : x3 = [] ∨ ∀ g, (Value.slice p3 x3.length c3).ownBlock = some g → g < w.heap.size)
    (l0 : x0.length ≤ 1000) (l1 : x1.length ≤ 1000) (l2 : x2.length ≤ 1000) (l3 : x3.length ≤ 1000) :
    Four (w.alloc (.cells #[.slice p0 x0.length c0, .slice p1 x1.length c1, .slice p2 x2.length c2, .slice p3 x3.length c3] t)) w.heap.size (w.heap.size + 1) := by
  refine ⟨by omega, fun j hj => ?_⟩
  match j, hj with
  | 0, _ => exact ⟨p0, c0, x0, by simp, h0.alloc _ v0, v0.imp id (fun h g hg => by have := h g hg; omega), l0⟩
  | 1, _ => exact ⟨p1, c1, x1, by simp, h1.alloc _ v1, v1.imp id (fun h g hg => by have := h g hg; omega), l1⟩
  | 2, _ => exact ⟨p2, c2, x2, by simp, h2.alloc _ v2, v2.imp id (fun h g hg => by have := h g hg; omega), l2⟩
  | 3, _ => exact ⟨p3, c3, x3, by simp, h3.alloc _ v3, v3.imp id (fun h g hg => by have := h g hg; omega), l3⟩

end Go.Proofs.Ytnpbhpidciiciaa
