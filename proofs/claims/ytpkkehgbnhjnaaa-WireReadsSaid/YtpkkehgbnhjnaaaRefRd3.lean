/- What the answers' own Reader answers: Two, Text, Done. -/
import Derived.Test.YtpkkehgbnhjnaaaRefRd2
namespace Go.Proofs.Ytpkkehgbnhjnaaa
open Go.RowKit

theorem lookTwoR_longV {bs : List UInt8} {k m a b : Nat} (ha : ∃ u : UInt8, a = u.toNat ∧ bs[k]? = some u) (hb : ∃ u : UInt8, b = u.toNat ∧ bs[k + 1]? = some u) :
    lookTwoR bs k 0 m = if m < a + b * 256 then (0, 22) else (a + b * 256, 0) := by
  obtain ⟨ca, rfl, hx⟩ := ha
  obtain ⟨cb, rfl, hy⟩ := hb
  obtain ⟨hlt, hx⟩ := List.getElem?_eq_some_iff.1 hx
  obtain ⟨hlt2, hy⟩ := List.getElem?_eq_some_iff.1 hy
  unfold lookTwoR
  rw [if_pos rfl, List.drop_eq_getElem_cons hlt, List.drop_eq_getElem_cons hlt2, hx, hy]

theorem rtwoR_look {bs : List UInt8} {k e m a x : Nat} (h : lookTwoR bs k e m = (a, x)) : rtwoR bs k e m = if x = 0 then (a, k + 2, 0) else (0, k, x) := by
  unfold rtwoR
  rw [h]

set_option maxHeartbeats 1000000 in
set_option maxRecDepth 100000 in
theorem ftwor_at {M qb : Nat} {bs : List UInt8} {k e v k' e' : Nat} {most : Int} {w : World} (hr : rtwoR bs k e (cnt most) = (v, k', e')) (h : Ref w M qb bs k e) (hl : bs.length ≤ 400000) :
    Calls Try.prog 26 #[.pointer (some ⟨qb, 0, none⟩), .int .i64 most] w fun r w' => r = .returned (.int .i64 v) ∧ GoneF w w' M qb bs k' e' := by
  have hk := h.2.1
  obtain ⟨p, c, hrd, hlc, hlt, c0, c1, c2, f1, f2⟩ := h.cells
  have HRD := Lib.hid hrd
  clear hrd
  by_cases he : e = 0
  · subst he
    by_cases hsh : bs.length - k < 2
    · have hR : rtwoR bs k 0 (cnt most) = (0, k, 20) := by rw [rtwoR_look (lookTwoR_short hsh)]; rfl
      rw [hR] at hr
      simp only [Prod.mk.injEq] at hr
      obtain ⟨rfl, rfl, rfl⟩ := hr
      have hshI : (bs.length : Int) - (k : Int) < 2 := by omega
      go_enter Try.func26, Try.ntmps26
      go_wp2
      go_quiet (fail)
      go_wp2_with fail
      refine (fail_any M qb bs k 0 20 _ (h.drewN _)).mono ?_
      rintro r w2 ⟨rfl, hg⟩
      have hg' := hg.drewN
      clear hg
      go_wp2
      go_ret
      exact ⟨rfl, hg'⟩
    · obtain ⟨g, off, rfl, hby⟩ := rd_byte HRD.out (by omega)
      obtain ⟨a, ha, hav, hac⟩ := hby k (by omega)
      obtain ⟨b, hb, hbv, hbc⟩ := hby (k + 1) (by omega)
      have hL := lookTwoR_longV (m := cnt most) hav hbv
      have hcm : ((cnt most : Nat) : Int) = max most 0 := by unfold cnt; omega
      have hshI : 2 ≤ (bs.length : Int) - (k : Int) := by omega
      clear hby hav hbv
      by_cases hbig : cnt most < a + b * 256
      · rw [if_pos hbig] at hL
        have hR : rtwoR bs k 0 (cnt most) = (0, k, 22) := by rw [rtwoR_look hL]; rfl
        rw [hR] at hr
        simp only [Prod.mk.injEq] at hr
        obtain ⟨rfl, rfl, rfl⟩ := hr
        by_cases hpos : 0 ≤ most
        · have hbigI : most < (a : Int) + (b : Int) * 256 := by omega
          clear hcm hL hR
          go_enter Try.func26, Try.ntmps26
          go_wp2
          go_quiet (fail)
          go_wp2
          go_quiet (fail)
          go_wp2_with fail
          refine (fail_any M qb bs k 0 22 _ (h.drewN _)).mono ?_
          rintro r w2 ⟨rfl, hg⟩
          have hg' := hg.drewN
          clear hg
          go_wp2
          go_ret
          exact ⟨rfl, hg'⟩
        · have hbigI : 0 < (a : Int) + (b : Int) * 256 := by omega
          clear hcm hL hR
          go_enter Try.func26, Try.ntmps26
          go_wp2
          go_quiet (fail)
          go_wp2
          go_quiet (fail)
          go_wp2_with fail
          refine (fail_any M qb bs k 0 22 _ (h.drewN _)).mono ?_
          rintro r w2 ⟨rfl, hg⟩
          have hg' := hg.drewN
          clear hg
          go_wp2
          go_ret
          exact ⟨rfl, hg'⟩
      · rw [if_neg hbig] at hL
        have hR : rtwoR bs k 0 (cnt most) = (a + b * 256, k + 2, 0) := by rw [rtwoR_look hL]; rfl
        rw [hR] at hr
        simp only [Prod.mk.injEq] at hr
        obtain ⟨rfl, rfl, rfl⟩ := hr
        by_cases hpos : 0 ≤ most
        · have hsmI : (a : Int) + (b : Int) * 256 ≤ most := by omega
          clear hcm hL hR
          go_enter Try.func26, Try.ntmps26
          go_wp2
          go_quiet (fail)
          go_wp2
          go_quiet (fail)
          go_wp2
          go_ret
          exact ⟨rfl, ((h.drewN _).set.2 (k + 2) (by omega)).drewN⟩
        · have hsmI : (a : Int) + (b : Int) * 256 ≤ 0 := by omega
          clear hcm hL hR
          go_enter Try.func26, Try.ntmps26
          go_wp2
          go_quiet (fail)
          go_wp2
          go_quiet (fail)
          go_wp2
          go_ret
          exact ⟨rfl, ((h.drewN _).set.2 (k + 2) (by omega)).drewN⟩
  · have heb : ((e : Int) == 0) = false := beq_eq_false_iff_ne.2 (by omega)
    have hen : ((e : Int) != 0) = true := by rw [bne_iff_ne]; omega
    rw [rtwoR_stop he] at hr
    simp only [Prod.mk.injEq] at hr
    obtain ⟨rfl, rfl, rfl⟩ := hr
    go_enter Try.func26, Try.ntmps26
    go_wp2
    go_ret
    exact ⟨rfl, h, grown_refl _ _⟩

set_option maxHeartbeats 400000 in
set_option maxRecDepth 100000 in
theorem fdone_any (M qb : Nat) (bs : List UInt8) (k e : Nat) (w : World) (h : Ref w M qb bs k e) (_hl : bs.length ≤ 400000) :
    Calls Try.prog 29 #[.pointer (some ⟨qb, 0, none⟩)] w fun r w' => r = .returned (.bool (decide (e = 0 ∧ k = bs.length))) ∧ Drawn w w' := by
  have hk := h.2.1
  obtain ⟨p, c, hrd, hlc, hlt, c0, c1, c2, f1, f2⟩ := h.cells
  clear hrd
  by_cases he0 : e = 0
  · subst he0
    by_cases hkl : k = bs.length
    · have hd : decide (0 = 0 ∧ k = bs.length) = true := by simp [hkl]
      have hb : ((k : Int) == (bs.length : Int)) = true := beq_iff_eq.2 (by omega)
      have HD := Lib.hid hd
      clear hd hkl
      go_enter Try.func29, Try.ntmps29
      go_wp2
      go_quiet (fail)
      go_wp2
      go_ret
      exact ⟨by rw [HD.out]; rfl, ⟨_, rfl⟩⟩
    · have hd : decide (0 = 0 ∧ k = bs.length) = false := by simp [hkl]
      have hb : ((k : Int) == (bs.length : Int)) = false := beq_eq_false_iff_ne.2 (by omega)
      have HD := Lib.hid hd
      clear hd
      go_enter Try.func29, Try.ntmps29
      go_wp2
      go_quiet (fail)
      go_wp2
      go_ret
      exact ⟨by rw [HD.out]; rfl, ⟨_, rfl⟩⟩
  · have hd : decide (e = 0 ∧ k = bs.length) = false := by simp [he0]
    have hb : ((e : Int) == 0) = false := beq_eq_false_iff_ne.2 (by omega)
    have HD := Lib.hid hd
    clear hd
    go_enter Try.func29, Try.ntmps29
    go_wp2
    go_quiet (fail)
    go_wp2
    go_ret
    exact ⟨by rw [HD.out]; rfl, ⟨_, rfl⟩⟩

end Go.Proofs.Ytpkkehgbnhjnaaa
