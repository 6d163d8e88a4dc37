/- What take, Num, Int, Err, Done answer. -/
import Derived.Test.YtnpbhpidciiciaaLook
namespace Go.Proofs.Ytnpbhpidciiciaa
open Go.RowKit

theorem grown_set (w : World) (rb j : Nat) (u : Value) : w.grownBy (w.setCell ⟨rb, j, none⟩ u) (some rb) :=
  ⟨rfl, rfl, rfl, by simp, fun k _ hk => heap_setCell_other w ⟨rb, j, none⟩ k u (fun e => hk (by simp [e]))⟩

theorem grown_drewN (w : World) (n : Nat) (r : Option Nat) : w.grownBy (w.drewN n) r := ⟨rfl, rfl, rfl, Nat.le_refl _, fun _ _ _ => rfl⟩

theorem grown_refl (w : World) (r : Option Nat) : w.grownBy w r := ⟨rfl, rfl, rfl, Nat.le_refl _, fun _ _ _ => rfl⟩

theorem grown_trans {a b c : World} {r : Option Nat} (h : a.grownBy b r) (g : b.grownBy c r) : a.grownBy c r :=
  ⟨g.os.trans h.os, g.tape.trans h.tape, g.output.trans h.output, Nat.le_trans h.size g.size, fun k hk hr => (g.block k (Nat.lt_of_lt_of_le hk h.size) hr).trans (h.block k hk hr)⟩

theorem Rdr.drewN {w : World} {B rb : Nat} {bs : List UInt8} {k e : Nat} (h : Rdr w B rb bs k e) (n : Nat) : Rdr (w.drewN n) B rb bs k e := h

theorem Rdr.setE {w : World} {B rb : Nat} {bs : List UInt8} {k e : Nat} (h : Rdr w B rb bs k e) (x : Nat) : Rdr (w.setCell ⟨rb, 2, none⟩ (.int .i64 x)) B rb bs k x := by
  obtain ⟨h1, h2, sl, hb, ho, hn⟩ := h
  exact ⟨h1, h2, sl, by rw [heap_setCell_same w rb 2 _ _ _ hb]; rfl, ho.kept (grown_set w rb 2 _) (.inr (fun h => Nat.lt_irrefl _ (hn _ h))), hn⟩

theorem Rdr.setK {w : World} {B rb : Nat} {bs : List UInt8} {k e : Nat} (h : Rdr w B rb bs k e) (x : Nat) (hx : x ≤ bs.length) : Rdr (w.setCell ⟨rb, 1, none⟩ (.int .i64 x)) B rb bs x e := by
  obtain ⟨h1, h2, sl, hb, ho, hn⟩ := h
  exact ⟨h1, hx, sl, by rw [heap_setCell_same w rb 1 _ _ _ hb]; rfl, ho.kept (grown_set w rb 1 _) (.inr (fun h => Nat.lt_irrefl _ (hn _ h))), hn⟩

/-- the Reader has gone on, and nothing else has changed -/
def Gone (w w' : World) (B rb : Nat) (bs : List UInt8) (k e : Nat) : Prop := Rdr w' B rb bs k e ∧ w.grownBy w' (some rb)

theorem Gone.drewN {w w' : World} {B rb : Nat} {bs : List UInt8} {k e n : Nat} (h : Gone (w.drewN n) w' B rb bs k e) : Gone w w' B rb bs k e := ⟨h.1, grown_trans (grown_drewN w n _) h.2⟩

set_option maxHeartbeats 400000 in
set_option maxRecDepth 100000 in
theorem take_any (B rb : Nat) (bs : List UInt8) (k e s x : Nat) (w : World) (h : Rdr w B rb bs k e) (hx : x < 100) (hs : x = 0 → k + s ≤ bs.length) (hl : bs.length ≤ 500000) (hs2 : s ≤ 500000) :
    Calls Try.prog 39 #[.pointer (some ⟨rb, 0, none⟩), .int .i64 s, .int .i64 x] w fun r w' => r = .returned (.tuple #[]) ∧ (if x = 0 then Gone w w' B rb bs (k + s) e else Gone w w' B rb bs k x) := by
  obtain ⟨sl, ho, hn, hlt, c0, c1, c2, hf⟩ := h.cells
  have hk := h.2.1
  have f1 := hf 1
  have f2 := hf 2
  clear hf
  by_cases hx0 : x = 0
  · subst hx0
    have hks := hs rfl
    clear hs
    have hfin : Gone w (w.setCell ⟨rb, 1, none⟩ (.int .i64 ((k + s : Nat) : Int))) B rb bs (k + s) e := ⟨h.setK _ hks, grown_set w rb 1 _⟩
    have HF := Lib.hid hfin
    clear hfin
    go_enter Try.func39, Try.ntmps39
    go_wp2
    go_end0
    exact ⟨rfl, HF.out⟩
  · have hb : ((x : Int) == 0) = false := beq_eq_false_iff_ne.2 (by omega)
    have hb2 : ((x : Int) != 0) = true := by rw [bne_iff_ne]; omega
    have hfin : Gone w (w.setCell ⟨rb, 2, none⟩ (.int .i64 x)) B rb bs k x := ⟨h.setE x, grown_set w rb 2 _⟩
    have HF := Lib.hid hfin
    clear hfin hs
    go_enter Try.func39, Try.ntmps39
    go_wp2
    refine bodyPost_ret (results_none rfl _ _ _) rfl ?_
    exact ⟨rfl, HF.out⟩

theorem dec_facts (m : Nat) : ∀ (l : List UInt8) (i v : Nat), i ≤ 9 → (dec m l i v).1 ≤ m ∧ ((dec m l i v).2.2 = 0 → (dec m l i v).2.1 ≤ i + l.length ∧ (dec m l i v).2.1 ≤ 9) ∧
    ((dec m l i v).2.2 ≠ 0 → (dec m l i v).1 = 0 ∧ (dec m l i v).2.1 = 0) ∧ (dec m l i v).2.2 < 100
  | [], i, v, hi => by
    unfold dec
    by_cases h : i < 9 <;> simp [h]
  | c :: l, i, v, hi => by
    unfold dec
    by_cases h9 : i = 9
    · simp [h9]
    · rw [if_neg h9]
      by_cases hc : c.toNat < 128
      · rw [if_pos hc]
        unfold wholeR
        split
        · simp
        · split
          · simp
          · simp; omega
      · rw [if_neg hc]
        have ih := dec_facts m l (i + 1) (v + c.toNat % 128 * 2 ^ (7 * i)) (by omega)
        refine ⟨ih.1, fun h => ?_, ih.2.2⟩
        have := ih.2.1 h
        simp
        omega

theorem lookR_facts (bs : List UInt8) (k e m a s x : Nat) (hk : k ≤ bs.length) (he : e < 100) (h : lookR bs k e m = (a, s, x)) :
    a ≤ m ∧ (x = 0 → k + s ≤ bs.length ∧ s ≤ 9) ∧ (x ≠ 0 → a = 0 ∧ s = 0) ∧ x < 100 := by
  unfold lookR at h
  split at h
  · have f := dec_facts m (bs.drop k) 0 0 (by omega)
    rw [h] at f
    simp only [List.length_drop] at f
    refine ⟨f.1, fun hx => ?_, f.2.2.1, f.2.2.2⟩
    have := f.2.1 hx
    omega
  · simp only [Prod.mk.injEq] at h
    obtain ⟨rfl, rfl, rfl⟩ := h
    exact ⟨Nat.zero_le _, fun hx => by omega, fun _ => ⟨rfl, rfl⟩, he⟩

/-- what Num answers, and where the Reader stands behind it -/
def numR (bs : List UInt8) (k e m : Nat) : Nat × Nat × Nat :=
  if (lookR bs k e m).2.2 = 0 then ((lookR bs k e m).1, k + (lookR bs k e m).2.1, 0) else (0, k, (lookR bs k e m).2.2)

theorem look_tup (B rb : Nat) (bs : List UInt8) (k e m : Nat) (w : World) (h : Rdr w B rb bs k e) (hm : U64 m) :
    Calls Try.prog 38 #[.pointer (some ⟨rb, 0, none⟩), .int .u64 m] w fun r w' => ∃ a s x n : Nat, Hid (lookR bs k e m = (a, s, x)) ∧ r = .returned (.tuple #[.int .u64 a, .int .i64 s, .int .i64 x]) ∧ w' = w.drewN n :=
  (look_any B rb bs k e m w h hm).mono fun _ _ ⟨he, n, hw⟩ => ⟨_, _, _, n, Lib.hid rfl, he, hw⟩

theorem Gone.of {w w' : World} {B rb : Nat} {bs : List UInt8} {k e s x : Nat} (he : e < 100) (h : if x = 0 then Gone w w' B rb bs (k + s) e else Gone w w' B rb bs k x) (hx : x = 0 → e = 0) :
    Gone w w' B rb bs (if x = 0 then k + s else k) x := by
  by_cases h0 : x = 0
  · rw [if_pos h0] at h ⊢
    rw [h0]
    have := hx h0
    subst this
    exact h
  · rw [if_neg h0] at h ⊢
    exact h

theorem lookR_err {bs : List UInt8} {k e m a s x : Nat} (h : lookR bs k e m = (a, s, x)) : x = 0 → e = 0 := by
  intro hx
  unfold lookR at h
  by_cases he : e = 0
  · exact he
  · rw [if_neg he] at h
    simp only [Prod.mk.injEq] at h
    omega

set_option maxHeartbeats 400000 in
set_option maxRecDepth 100000 in
theorem rnum_any (B rb : Nat) (bs : List UInt8) (k e : Nat) (most : Int) (w : World) (h : Rdr w B rb bs k e) (he : e < 100) (hl : bs.length ≤ 400000) (h1 : -9223372036854775808 ≤ most) (h2 : most ≤ 9223372036854775807) :
    Calls Try.prog 29 #[.pointer (some ⟨rb, 0, none⟩), .int .i64 most] w fun r w' => ∃ v k' e' : Nat, Hid (numR bs k e (cnt most) = (v, k', e')) ∧ r = .returned (.int .i64 v) ∧ Gone w w' B rb bs k' e' := by
  have hu := toNat_u64 h2
  have hk := h.2.1
  go_enter Try.func29, Try.ntmps29
  go_wp2_with fail
  refine (count_any most _ h1 h2).mono ?_
  rintro x w' ⟨rfl, rfl⟩
  go_wp2_with fail
  refine (look_tup B rb bs k e _ _ h hu).mono ?_
  rintro r w1 ⟨a, s, x, n, HL, rfl, rfl⟩
  have hf := lookR_facts bs k e _ a s x hk he HL.out
  have ha : a ≤ 9223372036854775807 := Nat.le_trans hf.1 (by unfold cnt; omega)
  have hs9 : s ≤ 9 := by have := hf.2; omega
  have hx1 := hf.2.2.2
  have HF := Lib.hid hf
  clear hf
  go_wp2_with fail
  refine (take_any B rb bs k e s x _ (h.drewN n) hx1 (fun h0 => (HF.out.2.1 h0).1) (by omega) (by omega)).mono ?_
  rintro r w2 ⟨rfl, hg⟩
  have HG := Lib.hid hg
  clear hg
  go_wp2
  go_ret
  refine ⟨a, if x = 0 then k + s else k, x, ?_, ret_int ?_, ((Gone.of he HG.out (lookR_err HL.out))).drewN⟩
  · show numR _ _ _ _ = _
    unfold numR
    rw [HL.out]
    by_cases h0 : x = 0
    · simp [h0]
    · have := (HF.out.2.2.1 h0).1
      simp [h0, this]
  · rfl

/-- a folded number turned back -/
def unfoldN (v : Nat) : Int := if v % 2 = 1 then -((v : Int) / 2) - 1 else (v : Int) / 2

theorem unfold_fold (n : Int) : unfoldN (foldN n) = n := by
  unfold unfoldN foldN
  split <;> split <;> omega

set_option maxHeartbeats 400000 in
set_option maxRecDepth 100000 in
theorem rerr_any (B rb : Nat) (bs : List UInt8) (k e : Nat) (w : World) (h : Rdr w B rb bs k e) :
    Calls Try.prog 21 #[.pointer (some ⟨rb, 0, none⟩)] w fun r w' => r = .returned (.int .i64 e) ∧ w = w' := by
  obtain ⟨sl, ho, hn, hlt, c0, c1, c2, hf⟩ := h.cells
  clear hf
  go_enter Try.func21, Try.ntmps21
  go_wp2
  go_ret
  exact ⟨rfl, rfl⟩

set_option maxHeartbeats 400000 in
set_option maxRecDepth 100000 in
theorem rdone_any (B rb : Nat) (bs : List UInt8) (k e : Nat) (w : World) (h : Rdr w B rb bs k e) (_hl : bs.length ≤ 400000) :
    Calls Try.prog 22 #[.pointer (some ⟨rb, 0, none⟩)] w fun r w' => r = .returned (.bool (decide (e = 0 ∧ k = bs.length))) ∧ Drawn w w' := by
  have hk := h.2.1
  obtain ⟨sl, ho, hn, hlt, c0, c1, c2, hf⟩ := h.cells
  clear hf
  obtain ⟨p, c, rfl, _⟩ := ho.len
  by_cases he0 : e = 0
  · subst he0
    by_cases hkl : k = bs.length
    · have hd : decide (0 = 0 ∧ k = bs.length) = true := by simp [hkl]
      have hb : ((k : Int) == (bs.length : Int)) = true := beq_iff_eq.2 (by omega)
      have HD := Lib.hid hd
      clear hd hkl
      go_enter Try.func22, Try.ntmps22
      go_wp2
      go_quiet (fail)
      go_wp2
      go_ret
      exact ⟨by rw [HD.out]; rfl, ⟨_, rfl⟩⟩
    · have hd : decide (0 = 0 ∧ k = bs.length) = false := by simp [hkl]
      have hb : ((k : Int) == (bs.length : Int)) = false := beq_eq_false_iff_ne.2 (by omega)
      have HD := Lib.hid hd
      clear hd
      go_enter Try.func22, Try.ntmps22
      go_wp2
      go_quiet (fail)
      go_wp2
      go_ret
      exact ⟨by rw [HD.out]; rfl, ⟨_, rfl⟩⟩
  · have hd : decide (e = 0 ∧ k = bs.length) = false := by simp [he0]
    have hb : ((e : Int) == 0) = false := beq_eq_false_iff_ne.2 (by omega)
    have HD := Lib.hid hd
    clear hd
    go_enter Try.func22, Try.ntmps22
    go_wp2
    go_quiet (fail)
    go_wp2
    go_ret
    exact ⟨by rw [HD.out]; rfl, ⟨_, rfl⟩⟩

end Go.Proofs.Ytnpbhpidciiciaa
