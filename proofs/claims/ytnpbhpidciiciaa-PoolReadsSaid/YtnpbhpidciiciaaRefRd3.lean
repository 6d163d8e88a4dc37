/- What the answers' own Reader answers: Two, Text, Done. -/
import Derived.Test.YtnpbhpidciiciaaRefRd2
namespace Go.Proofs.Ytnpbhpidciiciaa
open Go.RowKit

theorem lookTwoR_longV {bs : List UInt8} {k m a b : Nat} (ha : ∃ u : UInt8, a = u.toNat ∧ bs[k]? = some u) (hb : ∃ u : UInt8, b = u.toNat ∧ bs[k + 1]? = some u) :
    lookTwoR bs k 0 m = if m < a + b * 256 then (0, 22) else (a + b * 256, 0) := by
  obtain ⟨ca, rfl, hx⟩ := ha
  obtain ⟨cb, rfl, hy⟩ := hb
  obtain ⟨hlt, hx⟩ := List.getElem?_eq_some_iff.1 hx
  obtain ⟨hlt2, hy⟩ := List.getElem?_eq_some_iff.1 hy
  unfold lookTwoR
  rw [if_pos rfl, List.drop_eq_getElem_cons hlt, List.drop_eq_getElem_cons hlt2, hx, hy]

theorem rtwoR_look {bs : List UInt8} {k e m a x : Nat} (h : lookTwoR bs k e m = (a, x)) : rtwoR bs k e m = if x = 0 then (a, k + 2, 0) else (0, k, x) := by
  unfold rtwoR
  rw [h]

set_option maxHeartbeats 400000 in
set_option maxRecDepth 100000 in
theorem fdone_any (M qb : Nat) (bs : List UInt8) (k e : Nat) (w : World) (h : Ref w M qb bs k e) (_hl : bs.length ≤ 400000) :
    Calls Try.prog 23 #[.pointer (some ⟨qb, 0, none⟩)] w fun r w' => r = .returned (.bool (decide (e = 0 ∧ k = bs.length))) ∧ Drawn w w' := by
  have hk := h.2.1
  obtain ⟨p, c, hrd, hlc, hlt, c0, c1, c2, f1, f2⟩ := h.cells
  clear hrd
  by_cases he0 : e = 0
  · subst he0
    by_cases hkl : k = bs.length
    · have hd : decide (0 = 0 ∧ k = bs.length) = true := by simp [hkl]
      have hb : ((k : Int) == (bs.length : Int)) = true := beq_iff_eq.2 (by omega)
      have HD := Lib.hid hd
      clear hd hkl
      go_enter Try.func23, Try.ntmps23
      go_wp2
      go_quiet (fail)
      go_wp2
      go_ret
      exact ⟨by rw [HD.out]; rfl, ⟨_, rfl⟩⟩
    · have hd : decide (0 = 0 ∧ k = bs.length) = false := by simp [hkl]
      have hb : ((k : Int) == (bs.length : Int)) = false := beq_eq_false_iff_ne.2 (by omega)
      have HD := Lib.hid hd
      clear hd
      go_enter Try.func23, Try.ntmps23
      go_wp2
      go_quiet (fail)
      go_wp2
      go_ret
      exact ⟨by rw [HD.out]; rfl, ⟨_, rfl⟩⟩
  · have hd : decide (e = 0 ∧ k = bs.length) = false := by simp [he0]
    have hb : ((e : Int) == 0) = false := beq_eq_false_iff_ne.2 (by omega)
    have HD := Lib.hid hd
    clear hd
    go_enter Try.func23, Try.ntmps23
    go_wp2
    go_quiet (fail)
    go_wp2
    go_ret
    exact ⟨by rw [HD.out]; rfl, ⟨_, rfl⟩⟩

end Go.Proofs.Ytnpbhpidciiciaa
