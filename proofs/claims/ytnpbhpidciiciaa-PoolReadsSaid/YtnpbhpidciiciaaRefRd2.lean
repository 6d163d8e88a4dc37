/- What the answers' own Reader answers: Num whole, Int, Two, Text, Done. -/
import Derived.Test.YtnpbhpidciiciaaRefRd
import Derived.Test.YtnpbhpidciiciaaText2
namespace Go.Proofs.Ytnpbhpidciiciaa
open Go.RowKit

theorem gone_same {w : World} {M qb : Nat} {bs : List UInt8} {k e : Nat} (h : Ref w M qb bs k e) (n : Nat) : GoneF w (w.drewN n) M qb bs k e := ⟨h, grown_drewN w n _⟩

theorem fnumr_any (M qb : Nat) (bs : List UInt8) (k e : Nat) (most : Int) (w : World) (h : Ref w M qb bs k e) (hl : bs.length ≤ 400000) (h1 : -9223372036854775808 ≤ most) (h2 : most ≤ 9223372036854775807) :
    Calls Try.prog 31 #[.pointer (some ⟨qb, 0, none⟩), .int .i64 most] w fun r w' => ∃ v k' e' : Nat, Hid (numR bs k e (cnt most) = (v, k', e')) ∧ r = .returned (.int .i64 v) ∧ GoneF w w' M qb bs k' e' := by
  by_cases he : e = 0
  · subst he
    exact fnumr_ok M qb bs k most w h hl h1 h2
  · exact (fnumr_err M qb bs k e most w h he).mono fun r w' ⟨hr, hw⟩ => ⟨0, k, e, Lib.hid (numR_stop he), hr, by subst hw; exact ⟨h, grown_refl _ _⟩⟩

theorem fnumr_at {M qb : Nat} {bs : List UInt8} {k e v k' e' : Nat} {most : Int} {w : World} (hr : numR bs k e (cnt most) = (v, k', e')) (h : Ref w M qb bs k e) (hl : bs.length ≤ 400000) (h1 : -9223372036854775808 ≤ most) (h2 : most ≤ 9223372036854775807) :
    Calls Try.prog 31 #[.pointer (some ⟨qb, 0, none⟩), .int .i64 most] w fun r w' => r = .returned (.int .i64 v) ∧ GoneF w w' M qb bs k' e' := by
  refine (fnumr_any M qb bs k e most w h hl h1 h2).mono fun r w' ⟨a, b, c, H, hx, hg⟩ => ?_
  have := H.out
  rw [hr] at this
  simp only [Prod.mk.injEq] at this
  obtain ⟨rfl, rfl, rfl⟩ := this
  exact ⟨hx, hg⟩

theorem numR_le {bs : List UInt8} {k e m v k' e' : Nat} (hk : k ≤ bs.length) (he : e < 100) (h : numR bs k e m = (v, k', e')) : v ≤ m ∧ k' ≤ bs.length ∧ e' < 100 := by
  rcases hL : lookR bs k e m with ⟨a, s, x⟩
  have hf := lookR_facts bs k e m a s x hk he hL
  rw [numR_look hL] at h
  by_cases hx : x = 0
  · rw [if_pos hx] at h
    simp only [Prod.mk.injEq] at h
    have h2 := hf.2.1 hx
    omega
  · rw [if_neg hx] at h
    simp only [Prod.mk.injEq] at h
    omega

theorem odd_back {v : Nat} (h : v % 2 = 1) (hv : v ≤ 4294967295) : wrap32 (wrap64 ((-((v : Int) + 1)).tdiv 2)) = -((v : Int) / 2) - 1 := by
  obtain ⟨q, rfl⟩ : ∃ q, v = 2 * q + 1 := ⟨v / 2, by omega⟩
  have e1 : -(((2 * q + 1 : Nat) : Int) + 1) = 2 * (-((q : Int) + 1)) := by omega
  have e2 : (2 * (-((q : Int) + 1))).tdiv 2 = -((q : Int) + 1) := Int.mul_tdiv_cancel_left _ (by decide)
  have e3 : ((2 * q + 1 : Nat) : Int) / 2 = q := by omega
  rw [e1, e2, e3]
  unfold wrap32 wrap64
  omega

end Go.Proofs.Ytnpbhpidciiciaa
