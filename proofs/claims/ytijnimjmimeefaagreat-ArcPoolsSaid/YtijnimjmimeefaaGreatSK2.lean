/- Texts that the proof is made of, joined. No condition. -/
import Derived.Test.YtijnimjmimeefaaGreatSK1
import Derived.Outline
import Derived.Lib.Strings
import Derived.Below
import Derived.Lib.IndexMore
import Derived.RegionTactic
import Derived.ChangeAlike
import Derived.Laws.AppendOwnNone
import Derived.Deep.QuietTactic
import Derived.BigQuiet
import Derived.Deep.RegionHeld3
set_option linter.unusedVariables false
set_option linter.unusedSimpArgs false
namespace Go.Proofs.YtijnimjmimeefaaGreat.D
open Go.RowKit
def midB (c : Int) : Bool := letB c || digB c || decide (c = 95)
def nameL (l : List UInt8) : Bool :=
 decide (0 < l.length) && decide (l.length ≤ 64) && letB ((l.getD 0 0).toNat : Int) && l.all fun c => midB (c.toNat : Int)
def nameB (s : ByteArray) : Bool := nameL s.data.toList
theorem toList_ne {s : ByteArray} (h : 0 < s.size) : ¬ s.toList = [] := by
 intro e
 have := congrArg List.length e
 rw [Lib.toList_data, ← Lib.size_eq] at this
 simp only [List.length_nil] at this
 omega
theorem isEmpty_ne {s : ByteArray} (h : 0 < s.size) : s.toList.isEmpty = false := by
 cases he : s.toList.isEmpty with
 | false => rfl
 | true => exact absurd (List.isEmpty_iff.1 he) (toList_ne h)
theorem nameB_short {s : ByteArray} (h : s.size = 0) : nameB s = false := by
 have : s.data.toList.length = 0 := by simpa using h
 unfold nameB nameL; simp [this]
theorem nameB_long {s : ByteArray} (h : 64 < s.size) : nameB s = false := by
 have : s.data.toList.length = s.size := (Lib.size_eq s).symm
 unfold nameB nameL; rw [this]; simp [show ¬ s.size ≤ 64 by omega]
theorem getD0 {s : ByteArray} (h : 0 < s.size) : s.data.toList.getD 0 0 = s[0] := by
 rw [List.getD_eq_getElem?_getD, List.getElem?_eq_getElem (by simpa using h)]; rfl
theorem nameB_first {s : ByteArray} (h0 : 0 < s.size) (h : letB (s[0].toNat : Int) = false) : nameB s = false := by
 unfold nameB nameL; rw [getD0 h0, h]; simp
theorem nameB_mid {s : ByteArray} (k : Nat) (hk : k < s.size) (h : midB (s[k].toNat : Int) = false) : nameB s = false := by
 have : s.data.toList.all (fun c => midB (c.toNat : Int)) = false := by
  rw [List.all_eq_false]
  exact ⟨s[k], by show s.data[k] ∈ _; simp, by rw [h]; simp⟩
 unfold nameB nameL; rw [this]; simp
theorem nameB_true {s : ByteArray} (h0 : 0 < s.size) (h1 : s.size ≤ 64) (h2 : letB (s[0].toNat : Int) = true) (h : ∀ (j : Nat) (hj : j < s.size), midB (s[j].toNat : Int) = true) : nameB s = true := by
 have e : s.data.toList.all (fun c => midB (c.toNat : Int)) = true := by
  rw [List.all_eq_true]
  intro x hx
  obtain ⟨j, hj, rfl⟩ := List.mem_iff_getElem.1 hx
  exact h j (by simpa using hj)
 have hl : s.data.toList.length = s.size := (Lib.size_eq s).symm
 unfold nameB nameL; rw [e, getD0 h0, h2, hl]; simp [h0, h1]
set_option maxHeartbeats 400000 in
theorem name_any (s : ByteArray) (w : World) (hs : s.size ≤ maxLen) :
  Calls Tryz.prog 154 #[.string s] w fun e w' => e = .returned (.bool (nameB s)) ∧ w = w' := by
 unfold maxLen at hs
 by_cases h0 : s.size = 0
 ·have HF := Lib.hid (nameB_short h0)
  obtain rfl : s = ByteArray.empty := by
   obtain ⟨⟨l⟩⟩ := s
   have : l.length = 0 := h0
   rw [List.eq_nil_of_length_eq_zero this]; rfl
  clear h0
  go_enter Tryz.func154, Tryz.ntmps154
  go_wp2
  go_ret
  exact ⟨ret_bool HF.out.symm, rfl⟩
 have h0' : 0 < s.size := by omega
 have hE := isEmpty_ne h0'
 have hN := toList_ne h0'
 clear h0
 by_cases h1 : 64 < s.size
 ·go_enter Tryz.func154, Tryz.ntmps154
  go_wp2
  go_ret
  exact ⟨ret_bool (nameB_long h1).symm, rfl⟩
 have h1' : s.size ≤ 64 := by omega
 clear h1
 cases h2 : letB (s[0].toNat : Int) with
 | false =>
  have HF := Lib.hid (nameB_first h0' h2)
  go_enter Tryz.func154, Tryz.ntmps154
  go_wp2_with (go_at_call 186; refine (letter_any _ _).mono ?_; rintro e w' ⟨rfl, rfl⟩)
  go_ret
  exact ⟨ret_bool HF.out.symm, rfl⟩
 | true =>
  have H2 := Lib.hid h2
  go_enter Tryz.func154, Tryz.ntmps154
  go_wp2_with (go_at_call 186; refine (letter_any _ _).mono ?_; rintro e w' ⟨rfl, rfl⟩)
  clear h2
  go_loop [19] (fun i => ∃ k : Nat, k ≤ s.size ∧ i = .int .i64 k ∧ ∀ (j : Nat) (hj : j < s.size), j < k → midB (s[j].toNat : Int) = true) (fun i => s.size - (intOf i).toNat)
  case atStart => exact ⟨0, Nat.zero_le _, rfl, fun j _ h => absurd h (Nat.not_lt_zero _)⟩
  case round =>
   obtain ⟨k, hk, rfl, hr⟩ := hrel
   have HR := Lib.hid hr
   clear hr
   by_cases hlt : k < s.size
   ·cases hm : midB (s[k].toNat : Int) with
    | false =>
     have HF := Lib.hid (nameB_mid k hlt hm)
     unfold midB at hm
     simp only [Bool.or_eq_false_iff, decide_eq_false_iff_not] at hm
     obtain ⟨⟨hm1, hm2⟩, hm3⟩ := hm
     have hm4 : (((s[k].toNat : Int)) != 95) = true := by rw [bne_iff_ne]; exact hm3
     have hm5 : (((s[k].toNat : Int)) == 95) = false := by rw [beq_eq_false_iff_ne]; exact hm3
     go_wp2_with ((first | (go_at_call 186; refine (letter_any _ _).mono ?_) | (go_at_call 187; refine (digit_any _ _).mono ?_)); rintro e w' ⟨rfl, rfl⟩)
     go_ret
     exact ⟨ret_bool HF.out.symm, rfl⟩
    | true =>
     have HM := Lib.hid hm
     clear hm
     have hs1 : ∀ (j : Nat) (hj : j < s.size), j < k + 1 → midB (s[j].toNat : Int) = true := by
      intro j hj h
      by_cases e : j = k
      ·subst e; exact HM.out
      ·exact HR.out j hj (by omega)
     have HS := Lib.hid hs1
     clear hs1
     have hm := HM.out
     unfold midB at hm
     simp only [Bool.or_eq_true, decide_eq_true_eq] at hm
     cases c1 : letB (s[k].toNat : Int)
     ·cases c2 : digB (s[k].toNat : Int)
      ·have c3 : (s[k].toNat : Int) = 95 := by rw [c1, c2] at hm; simpa using hm
       have c4 : (((s[k].toNat : Int)) != 95) = false := by rw [c3]; rfl
       have c5 : (((s[k].toNat : Int)) == 95) = true := by rw [c3]; rfl
       clear hm c3
       go_wp2_with ((first | (go_at_call 186; refine (letter_any _ _).mono ?_) | (go_at_call 187; refine (digit_any _ _).mono ?_)); rintro e w' ⟨rfl, rfl⟩)
       go_round
       case rel => exact ⟨k + 1, by omega, by go_num, HS.out⟩
       case measure => simp [intOf]; omega
      ·clear hm
       go_wp2_with ((first | (go_at_call 186; refine (letter_any _ _).mono ?_) | (go_at_call 187; refine (digit_any _ _).mono ?_)); rintro e w' ⟨rfl, rfl⟩)
       go_round
       case rel => exact ⟨k + 1, by omega, by go_num, HS.out⟩
       case measure => simp [intOf]; omega
     ·clear hm
      go_wp2_with ((first | (go_at_call 186; refine (letter_any _ _).mono ?_) | (go_at_call 187; refine (digit_any _ _).mono ?_)); rintro e w' ⟨rfl, rfl⟩)
      go_round
      case rel => exact ⟨k + 1, by omega, by go_num, HS.out⟩
      case measure => simp [intOf]; omega
   ·go_wp2
    go_ret
    exact ⟨ret_bool (nameB_true h0' h1' H2.out (fun j hj => HR.out j hj (by omega))).symm, rfl⟩
end Go.Proofs.YtijnimjmimeefaaGreat.D
namespace Go.Proofs.YtijnimjmimeefaaGreat.D
open Go.RowKit
def rightB (k : Int) (c : ByteArray) : Bool := if k = 4 then nameB c else decide (1 ≤ k ∧ k ≤ 5) && decide (c.size = 0)
def typeT (k : Int) (c : ByteArray) : ByteArray :=
 if k = 1 then ⟨#[73]⟩ else if k = 2 then ⟨#[83]⟩ else if k = 3 then ⟨#[65]⟩ else if k = 5 then ⟨#[86]⟩ else if k = 4 then (⟨#[76]⟩ ++ c) ++ ⟨#[59]⟩ else ⟨#[]⟩
set_option maxHeartbeats 400000 in
theorem type_any (k : Int) (c : ByteArray) (w : World) (hc : c.size ≤ 4294967280) :
  Calls Tryz.prog 164 #[.agg #[.int .i64 k, .string c]] w fun e w' => e = .returned (.string (typeT k c)) ∧ Below w.heap.size w w' := by
 by_cases h1 : k = 1
 ·subst h1
  go_enter Tryz.func164, Tryz.ntmps164
  go_wp2
  go_ret
  exact ⟨rfl, (Below.refl _ _).alloc (Nat.le_refl _) _⟩
 by_cases h2 : k = 2
 ·subst h2
  go_enter Tryz.func164, Tryz.ntmps164
  go_wp2
  go_ret
  exact ⟨rfl, (Below.refl _ _).alloc (Nat.le_refl _) _⟩
 by_cases h3 : k = 3
 ·subst h3
  go_enter Tryz.func164, Tryz.ntmps164
  go_wp2
  go_ret
  exact ⟨rfl, (Below.refl _ _).alloc (Nat.le_refl _) _⟩
 by_cases h5 : k = 5
 ·subst h5
  go_enter Tryz.func164, Tryz.ntmps164
  go_wp2
  go_ret
  exact ⟨rfl, (Below.refl _ _).alloc (Nat.le_refl _) _⟩
 by_cases h4 : k = 4
 ·subst h4
  go_enter Tryz.func164, Tryz.ntmps164
  go_wp2
  go_ret
  exact ⟨rfl, (Below.refl _ _).alloc (Nat.le_refl _) _⟩
 have HF : Hid (typeT k c = ⟨#[]⟩) := Lib.hid (by unfold typeT; rw [if_neg h1, if_neg h2, if_neg h3, if_neg h5, if_neg h4])
 replace h1 : (k == 1) = false := by rw [beq_eq_false_iff_ne]; exact h1
 replace h2 : (k == 2) = false := by rw [beq_eq_false_iff_ne]; exact h2
 replace h3 : (k == 3) = false := by rw [beq_eq_false_iff_ne]; exact h3
 replace h5 : (k == 5) = false := by rw [beq_eq_false_iff_ne]; exact h5
 replace h4 : (k == 4) = false := by rw [beq_eq_false_iff_ne]; exact h4
 go_enter Tryz.func164, Tryz.ntmps164
 go_wp2
 go_ret
 exact ⟨ret_str HF.out.symm, (Below.refl _ _).alloc (Nat.le_refl _) _⟩
set_option maxHeartbeats 400000 in
theorem right_any (k : Int) (c : ByteArray) (w : World) (hc : c.size ≤ 4294967280) :
  Calls Tryz.prog 190 #[.agg #[.int .i64 k, .string c]] w fun e w' => e = .returned (.bool (rightB k c)) ∧ Below w.heap.size w w' := by
 have hc' : c.size ≤ maxLen := by unfold maxLen; omega
 have hce : (decide (c.size = 0)) = c.toList.isEmpty := by
  by_cases h0 : c.size = 0
  ·rw [decide_eq_true h0, Lib.toList_data]
   have := Lib.size_eq c
   rw [List.eq_nil_of_length_eq_zero (l := c.data.toList) (by omega)]; rfl
  ·rw [decide_eq_false h0, isEmpty_ne (by omega)]
 have HE := Lib.hid hce
 clear hce
 by_cases h1 : k = 1
 ·subst h1
  have HF : Hid (rightB 1 c = c.toList.isEmpty) := Lib.hid (by unfold rightB; rw [if_neg (by decide), HE.out]; rfl)
  go_enter Tryz.func190, Tryz.ntmps190
  go_wp2
  all_goals go_ret
  all_goals exact ⟨ret_bool (by first | exact HF.out.symm | (rw [HF.out]; simp [*])), (Below.refl _ _).alloc (Nat.le_refl _) _⟩
 by_cases h2 : k = 2
 ·subst h2
  have HF : Hid (rightB 2 c = c.toList.isEmpty) := Lib.hid (by unfold rightB; rw [if_neg (by decide), HE.out]; rfl)
  go_enter Tryz.func190, Tryz.ntmps190
  go_wp2
  all_goals go_ret
  all_goals exact ⟨ret_bool (by first | exact HF.out.symm | (rw [HF.out]; simp [*])), (Below.refl _ _).alloc (Nat.le_refl _) _⟩
 by_cases h3 : k = 3
 ·subst h3
  have HF : Hid (rightB 3 c = c.toList.isEmpty) := Lib.hid (by unfold rightB; rw [if_neg (by decide), HE.out]; rfl)
  go_enter Tryz.func190, Tryz.ntmps190
  go_wp2
  all_goals go_ret
  all_goals exact ⟨ret_bool (by first | exact HF.out.symm | (rw [HF.out]; simp [*])), (Below.refl _ _).alloc (Nat.le_refl _) _⟩
 by_cases h5 : k = 5
 ·subst h5
  have HF : Hid (rightB 5 c = c.toList.isEmpty) := Lib.hid (by unfold rightB; rw [if_neg (by decide), HE.out]; rfl)
  go_enter Tryz.func190, Tryz.ntmps190
  go_wp2
  all_goals go_ret
  all_goals exact ⟨ret_bool (by first | exact HF.out.symm | (rw [HF.out]; simp [*])), (Below.refl _ _).alloc (Nat.le_refl _) _⟩
 by_cases h4 : k = 4
 ·subst h4
  go_enter Tryz.func190, Tryz.ntmps190
  go_wp2_with (go_at_call 154; refine (name_any _ _ hc').mono ?_; rintro e w' ⟨rfl, rfl⟩)
  go_ret
  exact ⟨rfl, (Below.refl _ _).alloc (Nat.le_refl _) _⟩
 have HF : Hid (rightB k c = false) := Lib.hid (by
  unfold rightB
  rw [if_neg h4, decide_eq_false (by omega)]; rfl)
 replace h1 : (k == 1) = false := by rw [beq_eq_false_iff_ne]; exact h1
 replace h2 : (k == 2) = false := by rw [beq_eq_false_iff_ne]; exact h2
 replace h3 : (k == 3) = false := by rw [beq_eq_false_iff_ne]; exact h3
 replace h5 : (k == 5) = false := by rw [beq_eq_false_iff_ne]; exact h5
 replace h4 : (k == 4) = false := by rw [beq_eq_false_iff_ne]; exact h4
 go_enter Tryz.func190, Tryz.ntmps190
 go_wp2
 go_ret
 exact ⟨ret_bool HF.out.symm, (Below.refl _ _).alloc (Nat.le_refl _) _⟩
end Go.Proofs.YtijnimjmimeefaaGreat.D
namespace Go.Proofs.YtijnimjmimeefaaGreat.D
open Go.RowKit
abbrev Ty := Int × ByteArray
def tyv (t : Ty) : Value := .agg #[.int .i64 t.1, .string t.2]
def bx (l : List UInt8) : ByteArray := ⟨l.toArray⟩
def t0 : Ty := (0, ⟨#[]⟩)
theorem data_app (a b : ByteArray) : (a ++ b).data.toList = a.data.toList ++ b.data.toList := by simp
theorem bx_data (l : List UInt8) : (bx l).data.toList = l := rfl
theorem bx_size (l : List UInt8) : (bx l).size = l.length := by rw [Lib.size_eq]; rfl
def cutAt : List UInt8 → Option (List UInt8 × List UInt8)
 | [] => none
 | c :: r => if c = 59 then some ([], r) else (cutAt r).map fun p => (c :: p.1, p.2)
theorem cutAt_some : ∀ {r a b : List UInt8}, cutAt r = some (a, b) → r = a ++ 59 :: b ∧ (59 : UInt8) ∉ a
 | [], _, _, h => by simp [cutAt] at h
 | c :: r, a, b, h => by
  unfold cutAt at h
  by_cases hc : c = 59
  ·rw [if_pos hc] at h
   simp only [Option.some.injEq, Prod.mk.injEq] at h
   obtain ⟨rfl, rfl⟩ := h
   subst hc
   exact ⟨rfl, by simp⟩
  ·rw [if_neg hc] at h
   obtain ⟨⟨a', b'⟩, h1, h2⟩ := Option.map_eq_some_iff.1 h
   simp only [Prod.mk.injEq] at h2
   obtain ⟨rfl, rfl⟩ := h2
   obtain ⟨rfl, h3⟩ := cutAt_some h1
   exact ⟨rfl, by simp only [List.mem_cons, not_or]; exact ⟨fun e => hc e.symm, h3⟩⟩
theorem cutAt_of : ∀ {a b : List UInt8}, (59 : UInt8) ∉ a → cutAt (a ++ 59 :: b) = some (a, b)
 | [], b, _ => by simp [cutAt]
 | c :: a, b, h => by
  simp only [List.mem_cons, not_or] at h
  show cutAt (c :: (a ++ 59 :: b)) = _
  unfold cutAt
  rw [if_neg (fun e => h.1 e.symm), cutAt_of h.2]
  rfl
theorem index_cut : ∀ (r : List UInt8), (cutAt r = none ∧ Lib.index r [59] = -1) ∨ ∃ a b, cutAt r = some (a, b) ∧ Lib.index r [59] = (a.length : Int)
 | [] => .inl ⟨rfl, rfl⟩
 | c :: r => by
  by_cases hc : c = 59
  ·subst hc
   exact .inr ⟨[], r, by simp [cutAt], by simp [Lib.index]⟩
  ·have hp : List.isPrefixOf [59] (c :: r) = false := by
    simp only [List.isPrefixOf, Bool.and_true, beq_eq_false_iff_ne, ne_eq]
    exact fun e => hc e.symm
   rcases index_cut r with ⟨h1, h2⟩ | ⟨a, b, h1, h2⟩
   ·refine .inl ⟨by unfold cutAt; rw [if_neg hc, h1]; rfl, ?_⟩
    unfold Lib.index; rw [hp, h2]; rfl
   ·refine .inr ⟨c :: a, b, by unfold cutAt; rw [if_neg hc, h1]; rfl, ?_⟩
    have hn : ((a.length : Int) == -1) = false := by rw [beq_eq_false_iff_ne]; omega
    unfold Lib.index; rw [hp, h2, hn]; simp
theorem cut_eq (r : List UInt8) : Lib.cut r [59] = match cutAt r with | some (a, b) => (a, b, true) | none => (r, [], false) := by
 unfold Lib.cut
 rcases index_cut r with ⟨h1, h2⟩ | ⟨a, b, h1, h2⟩
 ·rw [h1, h2]; rfl
 ·rw [h1, h2, if_pos (by omega)]
  obtain ⟨rfl, _⟩ := cutAt_some h1
  simp
theorem name_no59 {a : List UInt8} (h : nameL a = true) : (59 : UInt8) ∉ a := by
 intro hm
 unfold nameL at h
 simp only [Bool.and_eq_true] at h
 have := List.all_eq_true.1 h.2 _ hm
 revert this
 decide
def refR (r : List UInt8) : Ty × List UInt8 × Bool :=
 match cutAt r with
 | some (a, b) => if nameL a then ((4, bx a), b, true) else (t0, [], false)
 | none => (t0, [], false)
theorem refR_hit {r a b : List UInt8} (h : r = a ++ 59 :: b) (hn : nameL a = true) : refR r = ((4, bx a), b, true) := by
 unfold refR; rw [h, cutAt_of (name_no59 hn)]; simp [hn]
def firstR : List UInt8 → Ty × List UInt8 × Bool
 | [] => (t0, [], false)
 | c :: r =>
  if c = 73 then ((1, bx []), r, true) else if c = 83 then ((2, bx []), r, true) else if c = 65 then ((3, bx []), r, true)
  else if c = 86 then ((5, bx []), r, true) else if c = 76 then refR r else (t0, [], false)
theorem firstR_cons (c : UInt8) (r : List UInt8) : firstR (c :: r) = if c = 73 then ((1, bx []), r, true) else if c = 83 then ((2, bx []), r, true) else if c = 65 then ((3, bx []), r, true)
  else if c = 86 then ((5, bx []), r, true) else if c = 76 then refR r else (t0, [], false) := rfl
def typeL (t : Ty) : List UInt8 := (typeT t.1 t.2).data.toList
theorem typeL_ref (a : List UInt8) : typeL (4, bx a) = 76 :: (a ++ [59]) := by
 show (if (4 : Int) = 1 then (⟨#[73]⟩ : ByteArray) else if (4 : Int) = 2 then ⟨#[83]⟩ else if (4 : Int) = 3 then ⟨#[65]⟩ else if (4 : Int) = 5 then ⟨#[86]⟩ else if (4 : Int) = 4 then (⟨#[76]⟩ ++ bx a) ++ ⟨#[59]⟩ else ⟨#[]⟩).data.toList = _
 rw [if_neg (by decide), if_neg (by decide), if_neg (by decide), if_neg (by decide), if_pos rfl]
 rw [data_app, data_app, bx_data]; rfl
theorem refR_text {r rest : List UInt8} {t : Ty} (h : refR r = (t, rest, true)) : typeL t ++ rest = 76 :: r ∧ rightB t.1 t.2 = true := by
 unfold refR at h
 cases hc : cutAt r with
 | none => rw [hc] at h; simp at h
 | some p =>
  obtain ⟨a, b⟩ := p
  rw [hc] at h
  by_cases hn : nameL a = true
  ·simp only [hn, if_true, Prod.mk.injEq, and_true] at h
   obtain ⟨rfl, rfl⟩ := h
   obtain ⟨rfl, _⟩ := cutAt_some hc
   refine ⟨by rw [typeL_ref]; simp, ?_⟩
   show (if (4 : Int) = 4 then nameB (bx a) else _) = true
   rw [if_pos rfl]; exact hn
  ·simp [hn] at h
theorem firstR_text {s rest : List UInt8} {t : Ty} (h : firstR s = (t, rest, true)) : typeL t ++ rest = s ∧ rightB t.1 t.2 = true := by
 cases s with
 | nil => simp [firstR] at h
 | cons c r =>
  rw [firstR_cons] at h
  by_cases h1 : c = 73
  ·rw [if_pos h1] at h; simp only [Prod.mk.injEq, and_true] at h; obtain ⟨rfl, rfl⟩ := h; subst h1; exact ⟨rfl, rfl⟩
  rw [if_neg h1] at h
  by_cases h2 : c = 83
  ·rw [if_pos h2] at h; simp only [Prod.mk.injEq, and_true] at h; obtain ⟨rfl, rfl⟩ := h; subst h2; exact ⟨rfl, rfl⟩
  rw [if_neg h2] at h
  by_cases h3 : c = 65
  ·rw [if_pos h3] at h; simp only [Prod.mk.injEq, and_true] at h; obtain ⟨rfl, rfl⟩ := h; subst h3; exact ⟨rfl, rfl⟩
  rw [if_neg h3] at h
  by_cases h4 : c = 86
  ·rw [if_pos h4] at h; simp only [Prod.mk.injEq, and_true] at h; obtain ⟨rfl, rfl⟩ := h; subst h4; exact ⟨rfl, rfl⟩
  rw [if_neg h4] at h
  by_cases h5 : c = 76
  ·rw [if_pos h5] at h; subst h5; exact refR_text h
  ·rw [if_neg h5] at h; simp at h
theorem typeL_pos {t : Ty} (h : rightB t.1 t.2 = true) : 0 < (typeL t).length := by
 unfold typeL typeT
 unfold rightB at h
 by_cases h1 : t.1 = 1
 ·rw [if_pos h1]; decide
 rw [if_neg h1]
 by_cases h2 : t.1 = 2
 ·rw [if_pos h2]; decide
 rw [if_neg h2]
 by_cases h3 : t.1 = 3
 ·rw [if_pos h3]; decide
 rw [if_neg h3]
 by_cases h5 : t.1 = 5
 ·rw [if_pos h5]; decide
 rw [if_neg h5]
 by_cases h4 : t.1 = 4
 ·rw [if_pos h4, data_app]; simp
 ·rw [if_neg h4] at h
  simp only [Bool.and_eq_true, decide_eq_true_eq] at h
  omega
theorem firstR_len {s rest : List UInt8} {t : Ty} (h : firstR s = (t, rest, true)) : rest.length < s.length := by
 obtain ⟨rfl, hr⟩ := firstR_text h
 have := typeL_pos hr
 simp; omega
def oneR (s : List UInt8) : Ty × Bool := if (firstR s).2.2 && (firstR s).2.1.isEmpty then ((firstR s).1, true) else (t0, false)
def listR : Nat → List Ty → List UInt8 → List Ty × List UInt8 × Bool
 | 0, _, _ => ([], [], false)
 | n + 1, ps, s =>
  if Lib.hasPrefix s [41] then (ps, s.drop 1, true)
  else if (firstR s).2.2 = false ∨ (firstR s).1.1 = 5 ∨ ps.length = 8 then ([], [], false)
  else listR n (ps ++ [(firstR s).1]) (firstR s).2.1
theorem listR_fuel : ∀ (n m : Nat) (ps : List Ty) (s : List UInt8), s.length < n → s.length < m → listR n ps s = listR m ps s
 | 0, _, _, _, h, _ => absurd h (Nat.not_lt_zero _)
 | _ + 1, 0, _, _, _, h => absurd h (Nat.not_lt_zero _)
 | n + 1, m + 1, ps, s, h1, h2 => by
  unfold listR
  by_cases hp : Lib.hasPrefix s [41] = true
  ·rw [if_pos hp, if_pos hp]
  ·rw [if_neg hp, if_neg hp]
   by_cases hc : (firstR s).2.2 = false ∨ (firstR s).1.1 = 5 ∨ ps.length = 8
   ·rw [if_pos hc, if_pos hc]
   ·rw [if_neg hc, if_neg hc]
    have : (firstR s).2.2 = true := by
     cases hh : (firstR s).2.2
     ·exact absurd (.inl hh) hc
     ·rfl
    have hl := firstR_len (s := s) (t := (firstR s).1) (rest := (firstR s).2.1) (by rw [← this])
    exact listR_fuel n m _ _ (by omega) (by omega)
def parseR (s : List UInt8) : List Ty × Ty × Bool :=
 if Lib.hasPrefix s [40] then
  (if (listR s.length [] (s.drop 1)).2.2 && (oneR (listR s.length [] (s.drop 1)).2.1).2 then ((listR s.length [] (s.drop 1)).1, (oneR (listR s.length [] (s.drop 1)).2.1).1, true) else ([], t0, false))
 else ([], t0, false)
def ofL (ps : List Ty) (r : Ty) : List UInt8 := 40 :: (ps.flatMap typeL ++ 41 :: typeL r)
theorem pre41 {s : List UInt8} (c : UInt8) (h : Lib.hasPrefix s [c] = true) : s = c :: s.drop 1 := by
 cases s with
 | nil => simp [Lib.hasPrefix] at h
 | cons d r =>
  simp only [Lib.hasPrefix, List.isPrefixOf, Bool.and_true, beq_iff_eq] at h
  subst h; rfl
theorem oneR_text {s : List UInt8} {t : Ty} (h : oneR s = (t, true)) : typeL t = s ∧ rightB t.1 t.2 = true := by
 unfold oneR at h
 by_cases hc : ((firstR s).2.2 && (firstR s).2.1.isEmpty) = true
 ·rw [if_pos hc] at h
  simp only [Prod.mk.injEq, and_true] at h
  subst h
  simp only [Bool.and_eq_true, List.isEmpty_iff] at hc
  have := firstR_text (s := s) (t := (firstR s).1) (rest := []) (by rw [← hc.1, ← hc.2])
  simpa using this
 ·rw [if_neg hc] at h; simp at h
theorem listR_text : ∀ (n : Nat) (ps ps' : List Ty) (s rest : List UInt8), listR n ps s = (ps', rest, true) →
  ∃ qs, ps' = ps ++ qs ∧ s = qs.flatMap typeL ++ 41 :: rest ∧ (∀ q ∈ qs, rightB q.1 q.2 = true ∧ ¬ q.1 = 5) ∧ (ps.length ≤ 8 → ps'.length ≤ 8)
 | 0, _, _, _, _, h => by simp [listR] at h
 | n + 1, ps, ps', s, rest, h => by
  unfold listR at h
  by_cases hp : Lib.hasPrefix s [41] = true
  ·rw [if_pos hp] at h
   simp only [Prod.mk.injEq, and_true] at h
   obtain ⟨rfl, rfl⟩ := h
   exact ⟨[], by simp, by simpa using pre41 41 hp, by simp, id⟩
  ·rw [if_neg hp] at h
   by_cases hc : (firstR s).2.2 = false ∨ (firstR s).1.1 = 5 ∨ ps.length = 8
   ·rw [if_pos hc] at h; simp at h
   ·rw [if_neg hc] at h
    obtain ⟨qs, h1, h2, h3, h4⟩ := listR_text n _ _ _ _ h
    have hb : (firstR s).2.2 = true := by
     cases hh : (firstR s).2.2
     ·exact absurd (.inl hh) hc
     ·rfl
    obtain ⟨g1, g2⟩ := firstR_text (s := s) (t := (firstR s).1) (rest := (firstR s).2.1) (by rw [← hb])
    refine ⟨(firstR s).1 :: qs, by rw [h1]; simp, by rw [List.flatMap_cons, List.append_assoc, ← h2, g1], ?_, fun hl => ?_⟩
    ·intro q hq
     rcases List.mem_cons.1 hq with rfl | hq
     ·exact ⟨g2, fun e => hc (.inr (.inl e))⟩
     ·exact h3 q hq
    ·have : ¬ ps.length = 8 := fun e => hc (.inr (.inr e))
     exact h4 (by simp; omega)
theorem parseR_text {s : List UInt8} {ps : List Ty} {r : Ty} (h : parseR s = (ps, r, true)) :
  ofL ps r = s ∧ (∀ q ∈ ps, rightB q.1 q.2 = true ∧ ¬ q.1 = 5) ∧ ps.length ≤ 8 ∧ rightB r.1 r.2 = true := by
 unfold parseR at h
 by_cases hp : Lib.hasPrefix s [40] = true
 ·rw [if_pos hp] at h
  by_cases hc : ((listR s.length [] (s.drop 1)).2.2 && (oneR (listR s.length [] (s.drop 1)).2.1).2) = true
  ·rw [if_pos hc] at h
   simp only [Prod.mk.injEq, and_true] at h
   obtain ⟨rfl, rfl⟩ := h
   simp only [Bool.and_eq_true] at hc
   obtain ⟨qs, h1, h2, h3, h4⟩ := listR_text s.length [] (listR s.length [] (s.drop 1)).1 (s.drop 1) (listR s.length [] (s.drop 1)).2.1 (by rw [← hc.1])
   obtain ⟨g1, g2⟩ := oneR_text (s := (listR s.length [] (s.drop 1)).2.1) (t := (oneR (listR s.length [] (s.drop 1)).2.1).1) (by rw [← hc.2])
   refine ⟨?_, ?_, h4 (by simp), g2⟩
   ·unfold ofL
    rw [g1, h1, List.nil_append, ← h2]
    exact (pre41 40 hp).symm
   ·rw [h1, List.nil_append]; exact h3
  ·rw [if_neg hc] at h; simp at h
 ·rw [if_neg hp] at h; simp at h
end Go.Proofs.YtijnimjmimeefaaGreat.D
namespace Go.Proofs.YtijnimjmimeefaaGreat.D
open Go.RowKit
def Glob (w : World) : Prop := ∃ m : Int, w.cell? ⟨0, 0, none⟩ = some (.int .i64 m)
theorem Glob.below {w w' : World} {B : Nat} (h : Glob w) (hb : Below B w w') (hB : w.heap.size ≤ B) : Glob w' := by
 obtain ⟨m, hm⟩ := h
 have := World.block_lt_of_cell? _ _ hm
 exact ⟨m, by rw [hb.cell (p := ⟨0, 0, none⟩) (by simp only at this ⊢; omega)]; exact hm⟩
theorem Glob.alloc {w : World} (h : Glob w) (o : Obj) : Glob (w.alloc o) := h.below ((Below.refl w.heap.size w).alloc (Nat.le_refl _) o) (Nat.le_refl _)
theorem Glob.drewN {w : World} (h : Glob w) (n : Nat) : Glob (w.drewN n) := h
theorem below_drewN {B : Nat} {a w : World} (h : Below B a w) (n : Nat) : Below B a (w.drewN n) := ⟨h.os, h.tape, h.output, h.size, h.block⟩
theorem cut_some {s : ByteArray} {a b : List UInt8} (h : cutAt s.data.toList = some (a, b)) (w : World) (hg : Glob w) (hs : s.size ≤ 4294967280) :
  Calls Tryz.prog 212 #[.string s, .string ⟨#[59]⟩] w fun e w' => e = .returned (.tuple #[.string (bx a), .string (bx b), .bool true]) ∧ ∃ n, w' = w.drewN n := by
 obtain ⟨m, hm⟩ := hg
 refine (Tryz.strings_Cut s ⟨#[59]⟩ m w (by omega) hm).mono fun e w' ⟨h1, h2⟩ => ⟨?_, h2⟩
 rw [h1]
 have : Lib.cut s.data.toList ([59] : List UInt8) = (a, b, true) := by rw [cut_eq, h]
 show Ending.returned (.tuple #[.string ⟨(Lib.cut s.data.toList [59]).1.toArray⟩, .string ⟨(Lib.cut s.data.toList [59]).2.1.toArray⟩, .bool (Lib.cut s.data.toList [59]).2.2]) = _
 rw [this]; rfl
theorem cut_none {s : ByteArray} (h : cutAt s.data.toList = none) (w : World) (hg : Glob w) (hs : s.size ≤ 4294967280) :
  Calls Tryz.prog 212 #[.string s, .string ⟨#[59]⟩] w fun e w' => e = .returned (.tuple #[.string s, .string (bx []), .bool false]) ∧ ∃ n, w' = w.drewN n := by
 obtain ⟨m, hm⟩ := hg
 refine (Tryz.strings_Cut s ⟨#[59]⟩ m w (by omega) hm).mono fun e w' ⟨h1, h2⟩ => ⟨?_, h2⟩
 rw [h1]
 have : Lib.cut s.data.toList ([59] : List UInt8) = (s.data.toList, [], false) := by rw [cut_eq, h]
 show Ending.returned (.tuple #[.string ⟨(Lib.cut s.data.toList [59]).1.toArray⟩, .string ⟨(Lib.cut s.data.toList [59]).2.1.toArray⟩, .bool (Lib.cut s.data.toList [59]).2.2]) = _
 rw [this]; rfl
def ret3 (x : Ty × List UInt8 × Bool) : Value := .tuple #[tyv x.1, .string (bx x.2.1), .bool x.2.2]
set_option maxHeartbeats 400000 in
theorem ref_any (s : ByteArray) (w : World) (hg : Glob w) (hs : s.size ≤ 4294967280) :
  Calls Tryz.prog 203 #[.string s] w fun e w' => e = .returned (ret3 (refR s.data.toList)) ∧ Below w.heap.size w w' := by
 cases hc : cutAt s.data.toList with
 | none =>
  have HF : Hid (refR s.data.toList = (t0, [], false)) := Lib.hid (by unfold refR; rw [hc])
  have HC := Lib.hid hc
  clear hc
  go_enter Tryz.func203, Tryz.ntmps203
  go_wp2_with fail
  refine (cut_none HC.out _ (hg.alloc _) hs).mono ?_
  rintro e w' ⟨rfl, n, rfl⟩
  go_wp2_with fail
  refine bodyPost_ret (v := .tuple #[.agg #[.int .i64 0, .string (bx [])], .string (bx []), .bool false]) (by simp [results, Tryz.results203, go_sem, bx]) rfl ⟨by rw [HF.out]; rfl, ?_⟩
  repeat (first | exact Below.refl _ _ | refine Below.setCell (p := ⟨_, _, _⟩) ?_ (by simp) _ | refine below_drewN ?_ _ | refine Below.drew ?_ | refine Below.alloc ?_ (by simp) _)
 | some p =>
  obtain ⟨a, b⟩ := p
  have hl : (bx a).size ≤ maxLen := by
   have := Lib.size_eq s
   rw [(cutAt_some hc).1] at this
   simp at this
   rw [bx_size]; unfold maxLen; omega
  have HC := Lib.hid hc
  cases hn : nameL a with
  | false =>
   have HF : Hid (refR s.data.toList = (t0, [], false)) := Lib.hid (by unfold refR; rw [hc]; simp [hn])
   have hn' : nameB (bx a) = false := hn
   clear hn hc
   go_enter Tryz.func203, Tryz.ntmps203
   go_wp2_with fail
   refine (cut_some HC.out _ (hg.alloc _) hs).mono ?_
   rintro e w' ⟨rfl, n, rfl⟩
   go_wp2_with fail
   refine (name_any _ _ hl).mono ?_
   rintro e w' ⟨rfl, rfl⟩
   go_wp2_with fail
   refine bodyPost_ret (v := .tuple #[.agg #[.int .i64 0, .string (bx [])], .string (bx []), .bool false]) (by simp [results, Tryz.results203, go_sem, bx]) rfl ⟨by rw [HF.out]; rfl, ?_⟩
   repeat (first | exact Below.refl _ _ | refine Below.setCell (p := ⟨_, _, _⟩) ?_ (by simp) _ | refine below_drewN ?_ _ | refine Below.drew ?_ | refine Below.alloc ?_ (by simp) _)
  | true =>
   have HF : Hid (refR s.data.toList = ((4, bx a), b, true)) := Lib.hid (by unfold refR; rw [hc]; simp [hn])
   have hn' : nameB (bx a) = true := hn
   clear hn hc
   go_enter Tryz.func203, Tryz.ntmps203
   go_wp2_with fail
   refine (cut_some HC.out _ (hg.alloc _) hs).mono ?_
   rintro e w' ⟨rfl, n, rfl⟩
   go_wp2_with fail
   refine (name_any _ _ hl).mono ?_
   rintro e w' ⟨rfl, rfl⟩
   go_wp2_with fail
   refine bodyPost_ret (v := .tuple #[.agg #[.int .i64 4, .string (bx a)], .string (bx b), .bool true]) (by simp [results, Tryz.results203, go_sem]) rfl ⟨by rw [HF.out]; rfl, ?_⟩
   repeat (first | exact Below.refl _ _ | refine Below.setCell (p := ⟨_, _, _⟩) ?_ (by simp) _ | refine below_drewN ?_ _ | refine Below.drew ?_ | refine Below.alloc ?_ (by simp) _)
theorem drop1 (s : ByteArray) : s.extract 1 s.size = bx (s.data.toList.drop 1) := by
 rw [Lib.extract_eq, bx]
 rw [List.take_of_length_le (by rw [List.length_drop, ← Lib.size_eq]; omega)]
set_option maxHeartbeats 1000000 in
theorem first_any (s : ByteArray) (w : World) (hg : Glob w) (hs : s.size ≤ 4294967280) :
  Calls Tryz.prog 178 #[.string s] w fun e w' => e = .returned (ret3 (firstR s.data.toList)) ∧ Below w.heap.size w w' := by
 cases hs1 : s.data.toList with
 | nil =>
  have h0 : s.size = 0 := by rw [Lib.size_eq, hs1]; rfl
  have HF : Hid (firstR [] = (t0, [], false)) := Lib.hid rfl
  obtain rfl : s = ByteArray.empty := by
   obtain ⟨⟨l⟩⟩ := s
   rw [show l = [] from hs1]; rfl
  clear h0 hs1
  go_enter Tryz.func178, Tryz.ntmps178
  go_wp2_with fail
  refine bodyPost_ret (v := .tuple #[.agg #[.int .i64 0, .string (bx [])], .string (bx []), .bool false]) (by simp [results, Tryz.results178, go_sem, bx]) rfl ⟨by rw [HF.out]; rfl, ?_⟩
  repeat (first | exact Below.refl _ _ | refine Below.setCell (p := ⟨_, _, _⟩) ?_ (by simp) _ | refine below_drewN ?_ _ | refine Below.drew ?_ | refine Below.alloc ?_ (by simp) _)
 | cons c r =>
  rw [← hs1]
  have h0' : 0 < s.size := by rw [Lib.size_eq, hs1]; simp
  have hE := isEmpty_ne h0'
  have hN := toList_ne h0'
  have h0c : s[0] = c := by
   have := getD0 h0'
   rw [hs1] at this
   exact this.symm
  have hr : s.extract 1 s.size = bx r := by rw [drop1, hs1]; rfl
  have HT : Hid (s.extract 1 s.size = bx r) := Lib.hid hr
  have hrl : r.length ≤ 4294967280 := by
   have := Lib.size_eq s
   rw [hs1] at this
   simp at this
   omega
  clear hr
  by_cases h1 : c = 73
  ·subst h1
   have HF : Hid (firstR s.data.toList = ((1, bx []), r, true)) := Lib.hid (by rw [hs1, firstR_cons]; rfl)
   have hx : (s[0].toNat : Int) = 73 := by rw [h0c]; rfl
   clear h0c hs1
   go_enter Tryz.func178, Tryz.ntmps178
   go_wp2_with fail
   go_region
   all_goals go_wp2_with fail
   all_goals refine bodyPost_ret (v := .tuple #[.agg #[.int .i64 1, .string (bx [])], .string (bx r), .bool true]) ?_ rfl ⟨by rw [HF.out]; rfl, ?_⟩
   all_goals first | (simp [results, Tryz.results178, go_sem, bx, HT.out]; done) | (repeat (first | exact Below.refl _ _ | refine Below.setCell (p := ⟨_, _, _⟩) ?_ (by simp) _ | refine below_drewN ?_ _ | refine Below.drew ?_ | refine Below.alloc ?_ (by simp) _))
  have n1 : ((s[0].toNat : Int) == 73) = false := by
   rw [beq_eq_false_iff_ne, h0c]
   intro e
   exact h1 (UInt8.toNat_inj.1 (by show c.toNat = 73; omega))
  by_cases h2 : c = 83
  ·subst h2
   have HF : Hid (firstR s.data.toList = ((2, bx []), r, true)) := Lib.hid (by rw [hs1, firstR_cons]; rfl)
   have hx : (s[0].toNat : Int) = 83 := by rw [h0c]; rfl
   clear h0c hs1
   go_enter Tryz.func178, Tryz.ntmps178
   go_wp2_with fail
   go_region
   all_goals go_wp2_with fail
   all_goals refine bodyPost_ret (v := .tuple #[.agg #[.int .i64 2, .string (bx [])], .string (bx r), .bool true]) ?_ rfl ⟨by rw [HF.out]; rfl, ?_⟩
   all_goals first | (simp [results, Tryz.results178, go_sem, bx, HT.out]; done) | (repeat (first | exact Below.refl _ _ | refine Below.setCell (p := ⟨_, _, _⟩) ?_ (by simp) _ | refine below_drewN ?_ _ | refine Below.drew ?_ | refine Below.alloc ?_ (by simp) _))
  have n2 : ((s[0].toNat : Int) == 83) = false := by
   rw [beq_eq_false_iff_ne, h0c]
   intro e
   exact h2 (UInt8.toNat_inj.1 (by show c.toNat = 83; omega))
  by_cases h3 : c = 65
  ·subst h3
   have HF : Hid (firstR s.data.toList = ((3, bx []), r, true)) := Lib.hid (by rw [hs1, firstR_cons]; rfl)
   have hx : (s[0].toNat : Int) = 65 := by rw [h0c]; rfl
   clear h0c hs1
   go_enter Tryz.func178, Tryz.ntmps178
   go_wp2_with fail
   go_region
   all_goals go_wp2_with fail
   all_goals refine bodyPost_ret (v := .tuple #[.agg #[.int .i64 3, .string (bx [])], .string (bx r), .bool true]) ?_ rfl ⟨by rw [HF.out]; rfl, ?_⟩
   all_goals first | (simp [results, Tryz.results178, go_sem, bx, HT.out]; done) | (repeat (first | exact Below.refl _ _ | refine Below.setCell (p := ⟨_, _, _⟩) ?_ (by simp) _ | refine below_drewN ?_ _ | refine Below.drew ?_ | refine Below.alloc ?_ (by simp) _))
  have n3 : ((s[0].toNat : Int) == 65) = false := by
   rw [beq_eq_false_iff_ne, h0c]
   intro e
   exact h3 (UInt8.toNat_inj.1 (by show c.toNat = 65; omega))
  by_cases h4 : c = 86
  ·subst h4
   have HF : Hid (firstR s.data.toList = ((5, bx []), r, true)) := Lib.hid (by rw [hs1, firstR_cons]; rfl)
   have hx : (s[0].toNat : Int) = 86 := by rw [h0c]; rfl
   clear h0c hs1
   go_enter Tryz.func178, Tryz.ntmps178
   go_wp2_with fail
   go_region
   all_goals go_wp2_with fail
   all_goals refine bodyPost_ret (v := .tuple #[.agg #[.int .i64 5, .string (bx [])], .string (bx r), .bool true]) ?_ rfl ⟨by rw [HF.out]; rfl, ?_⟩
   all_goals first | (simp [results, Tryz.results178, go_sem, bx, HT.out]; done) | (repeat (first | exact Below.refl _ _ | refine Below.setCell (p := ⟨_, _, _⟩) ?_ (by simp) _ | refine below_drewN ?_ _ | refine Below.drew ?_ | refine Below.alloc ?_ (by simp) _))
  have n4 : ((s[0].toNat : Int) == 86) = false := by
   rw [beq_eq_false_iff_ne, h0c]
   intro e
   exact h4 (UInt8.toNat_inj.1 (by show c.toNat = 86; omega))
  by_cases h5 : c = 76
  ·subst h5
   have HF : Hid (firstR s.data.toList = refR r) := Lib.hid (by rw [hs1, firstR_cons]; rfl)
   have hx : (s[0].toNat : Int) = 76 := by rw [h0c]; rfl
   clear h0c hs1 n1 n2 n3 n4
   go_enter Tryz.func178, Tryz.ntmps178
   go_wp2_with fail
   rw [HT.out]
   refine (ref_any (bx r) _ (hg.alloc _) (by rw [bx_size]; omega)).mono ?_
   rintro e w1 ⟨rfl, hb1⟩
   rw [bx_data]
   obtain ⟨⟨k, c⟩, rest, ok, hR⟩ : ∃ t rest ok, refR r = (t, rest, ok) := ⟨_, _, _, rfl⟩
   rw [hR, show ret3 ((k, c), rest, ok) = Value.tuple #[.agg #[.int .i64 k, .string c], .string (bx rest), .bool ok] from rfl]
   have HR := Lib.hid hR
   clear hR
   have hs1 := hb1.size
   simp at hs1
   have hc0 : w1.cell? ⟨w.heap.size, 0, none⟩ = some (.int .i64 0) := (hb1.cell (p := ⟨w.heap.size, 0, none⟩) (by simp)).trans (by simp)
   have hc1 : w1.cell? ⟨w.heap.size, 1, none⟩ = some (.string ⟨#[]⟩) := (hb1.cell (p := ⟨w.heap.size, 1, none⟩) (by simp)).trans (by simp)
   have hf0 : w1.frozen? ⟨w.heap.size, 0, none⟩ = false := (hb1.frozen (p := ⟨w.heap.size, 0, none⟩) (by simp)).trans (by simp)
   have hf1 : w1.frozen? ⟨w.heap.size, 1, none⟩ = false := (hb1.frozen (p := ⟨w.heap.size, 1, none⟩) (by simp)).trans (by simp)
   go_wp2_with fail
   have hb2 : Below w.heap.size w w1 := ((Below.refl _ w).alloc (Nat.le_refl _) _).trans (hb1.mono (by simp))
   refine bodyPost_ret (v := .tuple #[.agg #[.int .i64 k, .string c], .string (bx rest), .bool ok]) (by simp [results, Tryz.results178, go_sem, hc0, hc1]) rfl ⟨by rw [HF.out, HR.out]; rfl, ?_⟩
   repeat (first | exact Below.refl _ _ | assumption | refine Below.setCell (p := ⟨_, _, _⟩) ?_ (by simp) _ | refine below_drewN ?_ _ | refine Below.drew ?_ | refine Below.alloc ?_ (by simp) _)
  ·have n5 : ((s[0].toNat : Int) == 76) = false := by
    rw [beq_eq_false_iff_ne, h0c]
    intro e
    exact h5 (UInt8.toNat_inj.1 (by show c.toNat = 76; omega))
   have HF : Hid (firstR s.data.toList = (t0, [], false)) := Lib.hid (by rw [hs1, firstR_cons, if_neg h1, if_neg h2, if_neg h3, if_neg h4, if_neg h5])
   clear h0c hs1
   go_enter Tryz.func178, Tryz.ntmps178
   go_wp2_with fail
   refine bodyPost_ret (v := .tuple #[.agg #[.int .i64 0, .string (bx [])], .string (bx []), .bool false]) (by simp [results, Tryz.results178, go_sem, bx]) rfl ⟨by rw [HF.out]; rfl, ?_⟩
   repeat (first | exact Below.refl _ _ | assumption | refine Below.setCell (p := ⟨_, _, _⟩) ?_ (by simp) _ | refine below_drewN ?_ _ | refine Below.drew ?_ | refine Below.alloc ?_ (by simp) _)
end Go.Proofs.YtijnimjmimeefaaGreat.D
namespace Go.Proofs.YtijnimjmimeefaaGreat.D
open Go.RowKit
theorem box2 {w w1 : World} {a b : Value} {T : TypeId} (hb : Below (w.alloc (.cells #[a, b] T)).heap.size (w.alloc (.cells #[a, b] T)) w1) :
  w.heap.size < w1.heap.size ∧ ¬ w.heap.size = w1.heap.size ∧ w1.cell? ⟨w.heap.size, 0, none⟩ = some a ∧ w1.cell? ⟨w.heap.size, 1, none⟩ = some b ∧
   w1.frozen? ⟨w.heap.size, 0, none⟩ = false ∧ w1.frozen? ⟨w.heap.size, 1, none⟩ = false ∧ Below w.heap.size w w1 := by
 have hs1 := hb.size
 simp at hs1
 exact ⟨by omega, by omega, (hb.cell (p := ⟨w.heap.size, 0, none⟩) (by simp)).trans (by simp), (hb.cell (p := ⟨w.heap.size, 1, none⟩) (by simp)).trans (by simp),
  (hb.frozen (p := ⟨w.heap.size, 0, none⟩) (by simp)).trans (by simp), (hb.frozen (p := ⟨w.heap.size, 1, none⟩) (by simp)).trans (by simp),
  ((Below.refl _ w).alloc (Nat.le_refl _) _).trans (hb.mono (by simp))⟩
set_option maxHeartbeats 400000 in
theorem one_any (s : ByteArray) (w : World) (hg : Glob w) (hs : s.size ≤ 4294967280) :
  Calls Tryz.prog 143 #[.string s] w fun e w' => e = .returned (.tuple #[tyv (oneR s.data.toList).1, .bool (oneR s.data.toList).2]) ∧ Below w.heap.size w w' := by
 obtain ⟨⟨k, c⟩, rest, ok, hR⟩ : ∃ t rest ok, firstR s.data.toList = (t, rest, ok) := ⟨_, _, _, rfl⟩
 have HR := Lib.hid hR
 have HV : Hid (ret3 (firstR s.data.toList) = Value.tuple #[.agg #[.int .i64 k, .string c], .string (bx rest), .bool ok]) := Lib.hid (by rw [hR]; rfl)
 clear hR
 cases ok with
 | false =>
  have HF : Hid (oneR s.data.toList = (t0, false)) := Lib.hid (by unfold oneR; rw [HR.out]; rfl)
  go_enter Tryz.func143, Tryz.ntmps143
  go_wp2_with fail
  refine (first_any s _ (hg.alloc _) hs).mono ?_
  rintro e w1 ⟨rfl, hb1⟩
  rw [HV.out]
  obtain ⟨hlt1, hne1, hc0, hc1, hf0, hf1, hb2⟩ := box2 hb1
  clear hb1
  go_wp2_with fail
  refine bodyPost_ret (v := .tuple #[.agg #[.int .i64 0, .string (bx [])], .bool false]) (by simp [*, results, Tryz.results143, go_sem, bx]) rfl ⟨by rw [HF.out]; rfl, ?_⟩
  repeat (first | exact Below.refl _ _ | assumption | refine Below.setCell (p := ⟨_, _, _⟩) ?_ (by first | (simp; done) | (simp; omega) | omega) _ | refine below_drewN ?_ _ | refine Below.drew ?_ | refine Below.alloc ?_ (by first | (simp; done) | (simp; omega) | omega) _)
 | true =>
  cases rest with
  | nil =>
   have HF : Hid (oneR s.data.toList = ((k, c), true)) := Lib.hid (by unfold oneR; rw [HR.out]; rfl)
   have HB : Hid (bx [] = ⟨#[]⟩) := Lib.hid rfl
   go_enter Tryz.func143, Tryz.ntmps143
   go_wp2_with fail
   refine (first_any s _ (hg.alloc _) hs).mono ?_
   rintro e w1 ⟨rfl, hb1⟩
   rw [HV.out, HB.out]
   obtain ⟨hlt1, hne1, hc0, hc1, hf0, hf1, hb2⟩ := box2 hb1
   clear hb1
   go_wp2_with fail
   refine bodyPost_ret (v := .tuple #[.agg #[.int .i64 k, .string c], .bool true]) (by simp [*, results, Tryz.results143, go_sem]) rfl ⟨by rw [HF.out]; rfl, ?_⟩
   repeat (first | exact Below.refl _ _ | assumption | refine Below.setCell (p := ⟨_, _, _⟩) ?_ (by first | (simp; done) | (simp; omega) | omega) _ | refine below_drewN ?_ _ | refine Below.drew ?_ | refine Below.alloc ?_ (by first | (simp; done) | (simp; omega) | omega) _)
  | cons d rest =>
   have HF : Hid (oneR s.data.toList = (t0, false)) := Lib.hid (by unfold oneR; rw [HR.out]; rfl)
   have hp : 0 < (bx (d :: rest)).size := by rw [bx_size]; simp
   have hE := isEmpty_ne hp
   have hN := toList_ne hp
   go_enter Tryz.func143, Tryz.ntmps143
   go_wp2_with fail
   refine (first_any s _ (hg.alloc _) hs).mono ?_
   rintro e w1 ⟨rfl, hb1⟩
   rw [HV.out]
   obtain ⟨hlt1, hne1, hc0, hc1, hf0, hf1, hb2⟩ := box2 hb1
   clear hb1
   go_wp2_with fail
   refine bodyPost_ret (v := .tuple #[.agg #[.int .i64 0, .string (bx [])], .bool false]) (by simp [*, results, Tryz.results143, go_sem, bx]) rfl ⟨by rw [HF.out]; rfl, ?_⟩
   repeat (first | exact Below.refl _ _ | assumption | refine Below.setCell (p := ⟨_, _, _⟩) ?_ (by first | (simp; done) | (simp; omega) | omega) _ | refine below_drewN ?_ _ | refine Below.drew ?_ | refine Below.alloc ?_ (by first | (simp; done) | (simp; omega) | omega) _)
end Go.Proofs.YtijnimjmimeefaaGreat.D
namespace Go.Proofs.YtijnimjmimeefaaGreat.D
open Go.RowKit
def RdT (w : World) (v : Value) (ts : List Ty) : Prop :=
 ∃ (p : Option Addr) (cap : Nat), v = .slice p ts.length cap ∧ (∀ a, p = some a → ts ≠ [] → a.spot = none) ∧ (p = none → ts = []) ∧
  ∀ a, p = some a → ∀ (i : Nat) t, ts[i]? = some t → w.cell? ⟨a.block, a.off + i * 2, none⟩ = some (.int .i64 t.1) ∧ w.cell? ⟨a.block, a.off + i * 2 + 1, none⟩ = some (.string t.2)
theorem RdT.below {B : Nat} {w w' : World} {v : Value} {ts : List Ty} (h : RdT w v ts) (hb : Below B w w') (hB : w.heap.size ≤ B) : RdT w' v ts := by
 obtain ⟨p, cap, rfl, h1, h2, h3⟩ := h
 refine ⟨p, cap, rfl, h1, h2, fun a ha i t ht => ?_⟩
 obtain ⟨c0, c1⟩ := h3 a ha i t ht
 have hlt := World.block_lt_of_cell? _ _ c0
 simp only at hlt
 exact ⟨by rw [hb.cell (p := ⟨a.block, a.off + i * 2, none⟩) (by simp only; omega)]; exact c0, by rw [hb.cell (p := ⟨a.block, a.off + i * 2 + 1, none⟩) (by simp only; omega)]; exact c1⟩
def tyCells (ts : List Ty) : List Value := ts.flatMap fun t => [.int .i64 t.1, .string t.2]
theorem tyCells_app (a b : List Ty) : tyCells (a ++ b) = tyCells a ++ tyCells b := List.flatMap_append ..
theorem tyCells_get : ∀ (ts : List Ty) (i : Nat) (t : Ty), ts[i]? = some t → (tyCells ts)[i * 2]? = some (.int .i64 t.1) ∧ (tyCells ts)[i * 2 + 1]? = some (.string t.2)
 | [], i, t, h => by simp at h
 | u :: ts, 0, t, h => by
  simp only [List.getElem?_cons_zero, Option.some.injEq] at h
  subst h
  exact ⟨rfl, rfl⟩
 | u :: ts, i + 1, t, h => by
  have := tyCells_get ts i t (by simpa using h)
  rw [show (i + 1) * 2 = i * 2 + 1 + 1 from by omega]
  exact this
def OwnT (w : World) (B : Nat) (v : Value) (ts : List Ty) : Prop := w.ownsRow B 55 2 v ts.length (tyCells ts)
theorem tyInfo : (Tryz.prog.info? 55).map (fun i => (i.zero, i.size, i.bytes)) = some (some (.agg #[.int .i64 0, .string ⟨#[]⟩]), 2, 24) := by kernel_rfl
theorem add0 (g i : Nat) : (⟨g, 0, none⟩ : Addr).add i = ⟨g, 0 + i, none⟩ := by unfold Addr.add; split <;> simp_all
theorem OwnT.rd {w : World} {B : Nat} {v : Value} {ts : List Ty} (h : OwnT w B v ts) : RdT w v ts := by
 have hh := h
 rcases h.2 with ⟨rfl, hn⟩ | ⟨g, cap, cur, rfl, hb, hg, h1, h2, h3, h4⟩
 ·have : ts = [] := List.eq_nil_of_length_eq_zero hn
  subst this
  exact ⟨none, 0, rfl, (fun a ha => by cases ha), fun _ => rfl, fun a ha => by cases ha⟩
 ·refine ⟨some ⟨g, 0, none⟩, cap, rfl, (fun a ha _ => by cases ha; rfl), (fun h => by cases h), fun a ha i t ht => ?_⟩
  cases ha
  obtain ⟨g0, g1⟩ := tyCells_get ts i t ht
  have k0 := World.ownsRow.cells hh (g := g) rfl (i * 2) _ g0
  have k1 := World.ownsRow.cells hh (g := g) rfl (i * 2 + 1) _ g1
  rw [add0] at k0 k1
  simp only [Nat.zero_add] at k0 k1 ⊢
  exact ⟨k0, k1⟩
theorem OwnT.lt {w : World} {B : Nat} {v : Value} {ts : List Ty} (h : OwnT w B v ts) {g : Nat} (hg : v.ownBlock = some g) : B ≤ g ∧ g < w.heap.size := World.ownsRow.lt h g hg
theorem OwnT.nil (w : World) (B : Nat) : OwnT w B (.slice none 0 0) [] := ⟨by simp [tyCells], .inl ⟨rfl, rfl⟩⟩
theorem OwnT.below {w w' : World} {B C : Nat} {v : Value} {ts : List Ty} (h : OwnT w B v ts) (hb : Below C w w') (hC : w.heap.size ≤ C) : OwnT w' B v ts := by
 have hh := h
 refine ⟨h.1, ?_⟩
 rcases h.2 with h' | ⟨g, cap, cur, e, hB, hg, r⟩
 ·exact .inl h'
 ·refine .inr ⟨g, cap, cur, e, hB, ?_, r⟩
  rw [hb.block g (Nat.lt_of_lt_of_le (hh.lt (by rw [e]; rfl)).2 hC)]
  exact hg
theorem toList_inj {a b : ByteArray} (h : a.toList = b.toList) : a = b := by
 rw [Lib.toList_data, Lib.toList_data] at h
 obtain ⟨⟨a⟩⟩ := a
 obtain ⟨⟨b⟩⟩ := b
 rw [show a = b from h]
def sameB (ts us : List Ty) : Bool := decide (ts = us)
theorem sameB_get {ts us : List Ty} (hl : ts.length = us.length) (h : ∀ i : Nat, i < ts.length → ts[i]? = us[i]?) : sameB ts us = true := by
 unfold sameB
 rw [decide_eq_true_eq]
 refine List.ext_getElem? fun i => ?_
 by_cases hi : i < ts.length
 ·exact h i hi
 ·rw [List.getElem?_eq_none (by omega), List.getElem?_eq_none (by omega)]
theorem sameB_ne {ts us : List Ty} {k : Nat} (h : ¬ ts[k]? = us[k]?) : sameB ts us = false := by
 unfold sameB
 rw [decide_eq_false_iff_not]
 intro e
 exact h (by rw [e])
theorem sameB_len {ts us : List Ty} (h : ¬ ts.length = us.length) : sameB ts us = false := by
 unfold sameB
 rw [decide_eq_false_iff_not]
 intro e
 exact h (by rw [e])
set_option maxHeartbeats 1000000 in
theorem same_any (va vb : Value) (ts us : List Ty) (w : World) (ha : RdT w va ts) (hb : RdT w vb us) (hlen : ts.length ≤ 1000000) (hlen2 : us.length ≤ 1000000) :
  Calls Tryz.prog 131 #[va, vb] w fun e w' => e = .returned (.bool (sameB ts us)) ∧ Below w.heap.size w w' := by
 obtain ⟨p, cap, rfl, h1, h2, h3⟩ := id ha
 obtain ⟨q, dap, rfl, k1, k2, k3⟩ := id hb
 clear ha hb
 by_cases hl : ts.length = us.length
 ·have HL := Lib.hid hl
  have hnn : (((ts.length : Nat) : Int) != (us.length : Nat)) = false := by rw [bne_eq_false_iff_eq]; omega
  by_cases h0 : ts.length = 0
  ·have e1 : ts = [] := List.eq_nil_of_length_eq_zero h0
   have e2 : us = [] := List.eq_nil_of_length_eq_zero (by omega)
   subst e1 e2
   clear hl hnn h0
   go_enter Tryz.func131, Tryz.ntmps131
   go_wp2_with fail
   go_loop [14] (fun i => i = .int .i64 0) (fun _ => 0)
   case atStart => exact rfl
   case round =>
    obtain rfl := hrel
    go_wp2_with fail
    go_ret
    exact ⟨rfl, Below.refl _ _⟩
  have hne1 : ts ≠ [] := fun e => h0 (by rw [e]; rfl)
  have hne2 : us ≠ [] := fun e => h0 (by rw [hl, e]; rfl)
  obtain ⟨⟨b, off, spot⟩, rfl⟩ : ∃ a, p = some a := by
   cases p with
   | none => exact absurd (h2 rfl) hne1
   | some a => exact ⟨a, rfl⟩
  obtain ⟨⟨c, ofc, spoc⟩, rfl⟩ : ∃ a, q = some a := by
   cases q with
   | none => exact absurd (k2 rfl) hne2
   | some a => exact ⟨a, rfl⟩
  obtain rfl : spot = none := h1 _ rfl hne1
  obtain rfl : spoc = none := k1 _ rfl hne2
  have H3 := Lib.hid (h3 _ rfl)
  have K3 := Lib.hid (k3 _ rfl)
  have hl1 : ts.length ≤ us.length := by omega
  have hl2 : us.length ≤ ts.length := by omega
  clear h3 k3 h1 h2 k1 k2 hne1 hne2 hl h0
  go_enter Tryz.func131, Tryz.ntmps131
  go_wp2_with fail
  go_loopw [14] (fun i wr => ∃ k : Nat, k ≤ ts.length ∧ i = .int .i64 k ∧ (∀ j : Nat, j < k → ts[j]? = us[j]?) ∧ Below w.heap.size w wr) (fun i _ => ts.length - (intOf i).toNat)
  case atStart => exact ⟨0, Nat.zero_le _, rfl, fun j h => absurd h (Nat.not_lt_zero _), Below.refl _ _⟩
  case round =>
   obtain ⟨k, hk, rfl, hr, hbl⟩ := hrel
   have HR := Lib.hid hr
   clear hr
   have hs := hbl.size
   by_cases hlt : k < ts.length
   ·obtain ⟨⟨x0, x1⟩, hx⟩ : ∃ t, ts[k]? = some t := ⟨_, List.getElem?_eq_getElem hlt⟩
    obtain ⟨⟨y0, y1⟩, hy⟩ : ∃ t, us[k]? = some t := ⟨_, List.getElem?_eq_getElem (by omega)⟩
    obtain ⟨cx0, cx1⟩ := H3.out k _ hx
    obtain ⟨cy0, cy1⟩ := K3.out k _ hy
    simp only at cx0 cx1 cy0 cy1
    have gx := World.block_lt_of_cell? _ _ cx0
    have gy := World.block_lt_of_cell? _ _ cy0
    simp only at gx gy
    rw [← hbl.cell (p := ⟨_, _, _⟩) gx] at cx0 cx1
    rw [← hbl.cell (p := ⟨_, _, _⟩) gy] at cy0 cy1
    have gy1 : c < wr.heap.size := by omega
    have gy2 : ¬ c = wr.heap.size := by omega
    have HX := Lib.hid hx
    have HY := Lib.hid hy
    clear hx hy
    by_cases e : x0 = y0
    ·subst e
     by_cases e : x1 = y1
     ·subst e
      have HS : Hid (∀ j : Nat, j < k + 1 → ts[j]? = us[j]?) := Lib.hid (by
       intro j hj
       by_cases e : j = k
       ·subst e; rw [HX.out, HY.out]
       ·exact HR.out j (by omega))
      go_wp2_with fail
      go_quiet (fail)
      go_wp2_with fail
      go_roundw
      case rel => exact ⟨k + 1, by omega, by go_num, HS.out, by repeat (first | assumption | refine below_drewN ?_ _ | refine Below.drew ?_ | refine Below.alloc ?_ (by omega) _)⟩
      case measure => simp [intOf]; omega
     ·have HF : Hid (sameB ts us = false) := Lib.hid (sameB_ne (k := k) (by rw [HX.out, HY.out]; intro h; simp only [Option.some.injEq, Prod.mk.injEq] at h; exact e h.2))
      have e1 : ¬ x1.toList = y1.toList := fun h => e (toList_inj h)
      have e2 : (x1.toList == y1.toList) = false := by rw [beq_eq_false_iff_ne]; exact e1
      clear e
      go_wp2_with fail
      go_quiet (fail)
      go_wp2_with fail
      go_ret
      refine ⟨ret_bool HF.out.symm, ?_⟩
      repeat (first | assumption | refine below_drewN ?_ _ | refine Below.drew ?_ | refine Below.alloc ?_ (by omega) _)
    ·have HF : Hid (sameB ts us = false) := Lib.hid (sameB_ne (k := k) (by rw [HX.out, HY.out]; intro h; simp only [Option.some.injEq, Prod.mk.injEq] at h; exact e h.1))
     have e2 : (x0 == y0) = false := by rw [beq_eq_false_iff_ne]; exact e
     go_wp2_with fail
     go_quiet (fail)
     go_wp2_with fail
     go_ret
     refine ⟨ret_bool HF.out.symm, ?_⟩
     repeat (first | assumption | refine below_drewN ?_ _ | refine Below.drew ?_ | refine Below.alloc ?_ (by omega) _)
   ·go_wp2_with fail
    go_ret
    exact ⟨ret_bool (sameB_get HL.out (fun i hi => HR.out i (by omega))).symm, hbl⟩
 ·have hnn : (((ts.length : Nat) : Int) != (us.length : Nat)) = true := by rw [bne_iff_ne]; omega
  have HF := Lib.hid (sameB_len hl)
  clear hl h1 h2 h3 k1 k2 k3
  go_enter Tryz.func131, Tryz.ntmps131
  go_wp2_with fail
  go_ret
  exact ⟨ret_bool HF.out.symm, Below.refl _ _⟩
end Go.Proofs.YtijnimjmimeefaaGreat.D
namespace Go.Proofs.YtijnimjmimeefaaGreat.D
open Go.RowKit
theorem wp_appT {w : World} {ops : Array Oper} {rest : List Oper} {o : Oper} {a : Act} {Q : Exit → Act → World → Prop} (hgd : o.guard = none) (s x : Operand)
  (ho : o.op = .call { callee := .builtin .append, args := #[s, x], argTypes := #[53, 53] })
  (B : Nat) (v : Value) (ts : List Ty) (hs : a.eval s = v) (hown : OwnT w B v ts) (t : Ty) (nb : Nat) (hx : a.eval x = .slice (some ⟨nb, 0, none⟩) 1 1)
  (hc0 : w.cell? ⟨nb, 0, none⟩ = some (.int .i64 t.1)) (hc1 : w.cell? ⟨nb, 1, none⟩ = some (.string t.2))
  (hb : ts.length + 1 ≤ 1000000) (hbase : B ≤ w.heap.size)
  (h : ∀ v' w', OwnT w' B v' (ts ++ [t]) → w.grownBy w' v.ownBlock → wpList Tryz.prog ops Q rest (a.put o.dst v') w') :
  wpList Tryz.prog ops Q (o :: rest) a w := by
 obtain ⟨i0, hi, hz0, hz1, hz2⟩ := info_parts tyInfo
 refine wpList_append_own w hgd s x 53 ho B 55 i0 (.agg #[.int .i64 0, .string ⟨#[]⟩]) 2 24 Tryz.underlying53 hi hz0 hz1 hz2 rfl (by decide) v ts.length (tyCells ts) hs hown ⟨nb, 0, none⟩ 1 1 [.int .i64 t.1, .string t.2] hx (by simp) ?_ ?_
   (by unfold maxLen; omega) (by omega) hbase ?_
 ·intro j u hj
  match j, hj with
  | 0, hj => simp at hj; subst hj; simpa [add0] using hc0
  | 1, hj => simp at hj; subst hj; simpa [add0] using hc1
 ·intro u hu
  simp at hu
  rcases hu with rfl | rfl <;> rfl
 ·intro v' w' h1 h2 _
  refine h v' w' ?_ h2
  unfold OwnT
  rw [List.length_append, tyCells_app]
  exact h1
theorem pre_yes {s : ByteArray} {c : UInt8} {r : List UInt8} (h : s.data.toList = c :: r) (w : World) :
  Calls Tryz.prog 179 #[.string s, .string ⟨#[c]⟩] w fun e w' => e = .returned (.tuple #[.string (bx r), .bool true]) ∧ w = w' := by
 refine (Tryz.strings_CutPrefix s ⟨#[c]⟩ w).mono fun e w' ⟨h1, h2⟩ => ⟨?_, h2.symm⟩
 rw [h1, h]
 have : Lib.hasPrefix (c :: r) [c] = true := by simp [Lib.hasPrefix]
 show Ending.returned (.tuple #[.string ⟨(Lib.trimPrefix (c :: r) [c]).toArray⟩, .bool (Lib.hasPrefix (c :: r) [c])]) = _
 unfold Lib.trimPrefix
 rw [this]; rfl
theorem pre_no {s : ByteArray} {c : UInt8} (h : Lib.hasPrefix s.data.toList [c] = false) (w : World) :
  Calls Tryz.prog 179 #[.string s, .string ⟨#[c]⟩] w fun e w' => e = .returned (.tuple #[.string s, .bool false]) ∧ w = w' := by
 refine (Tryz.strings_CutPrefix s ⟨#[c]⟩ w).mono fun e w' ⟨h1, h2⟩ => ⟨?_, h2.symm⟩
 rw [h1]
 show Ending.returned (.tuple #[.string ⟨(Lib.trimPrefix s.data.toList [c]).toArray⟩, .bool (Lib.hasPrefix s.data.toList [c])]) = _
 unfold Lib.trimPrefix
 rw [h]; rfl
theorem OwnT.setCell {w : World} {B : Nat} {v : Value} {ts : List Ty} (h : OwnT w B v ts) {a : Addr} (ha : a.block < B) (u : Value) : OwnT (w.setCell a u) B v ts := ownsRow_setCell_below h ha u
theorem OwnT.alloc {w : World} {B : Nat} {v : Value} {ts : List Ty} (h : OwnT w B v ts) (o : Obj) : OwnT (w.alloc o) B v ts := h.below ((Below.refl w.heap.size w).alloc (Nat.le_refl _) o) (Nat.le_refl _)
theorem OwnT.drew {w : World} {B : Nat} {v : Value} {ts : List Ty} (h : OwnT w B v ts) : OwnT w.drew B v ts := h
theorem OwnT.drewN {w : World} {B : Nat} {v : Value} {ts : List Ty} (h : OwnT w B v ts) (n : Nat) : OwnT (w.drewN n) B v ts := h
theorem OwnT.mono {w : World} {B C : Nat} {v : Value} {ts : List Ty} (h : OwnT w B v ts) (hC : C ≤ B) : OwnT w C v ts := by
 refine ⟨h.1, ?_⟩
 rcases h.2 with h' | ⟨g, cap, cur, e, hB, r⟩
 ·exact .inl h'
 ·exact .inr ⟨g, cap, cur, e, Nat.le_trans hC hB, r⟩
theorem box_next {w w1 w2 : World} {a b : Value} (h : w.heap.size < w1.heap.size ∧ ¬ w.heap.size = w1.heap.size ∧ w1.cell? ⟨w.heap.size, 0, none⟩ = some a ∧ w1.cell? ⟨w.heap.size, 1, none⟩ = some b ∧
   w1.frozen? ⟨w.heap.size, 0, none⟩ = false ∧ w1.frozen? ⟨w.heap.size, 1, none⟩ = false ∧ Below w.heap.size w w1) (hb : Below w1.heap.size w1 w2) :
  w.heap.size < w2.heap.size ∧ ¬ w.heap.size = w2.heap.size ∧ w2.cell? ⟨w.heap.size, 0, none⟩ = some a ∧ w2.cell? ⟨w.heap.size, 1, none⟩ = some b ∧
   w2.frozen? ⟨w.heap.size, 0, none⟩ = false ∧ w2.frozen? ⟨w.heap.size, 1, none⟩ = false ∧ Below w.heap.size w w2 := by
 obtain ⟨h1, h2, h3, h4, h5, h6, h7⟩ := h
 have hs := hb.size
 exact ⟨by omega, by omega, (hb.cell (p := ⟨w.heap.size, 0, none⟩) h1).trans h3, (hb.cell (p := ⟨w.heap.size, 1, none⟩) h1).trans h4,
  (hb.frozen (p := ⟨w.heap.size, 0, none⟩) h1).trans h5, (hb.frozen (p := ⟨w.heap.size, 1, none⟩) h1).trans h6, h7.trans (hb.mono (by omega))⟩
theorem listR_false : ∀ (n : Nat) (ps : List Ty) (s : List UInt8) {x : List Ty} {rest : List UInt8}, listR n ps s = (x, rest, false) → x = [] ∧ rest = []
 | 0, _, _, _, _, h => by
  simp only [listR, Prod.mk.injEq, and_true] at h
  exact ⟨h.1.symm, h.2.symm⟩
 | n + 1, ps, s, x, rest, h => by
  unfold listR at h
  by_cases hp : Lib.hasPrefix s [41] = true
  ·rw [if_pos hp] at h
   simp at h
  ·rw [if_neg hp] at h
   by_cases hc : (firstR s).2.2 = false ∨ (firstR s).1.1 = 5 ∨ ps.length = 8
   ·rw [if_pos hc] at h
    simp only [Prod.mk.injEq, and_true] at h
    exact ⟨h.1.symm, h.2.symm⟩
   ·rw [if_neg hc] at h
    exact listR_false n _ _ h
def strLen : Value → Nat
 | .string b => b.size
 | _ => 0
theorem listR_yes {n : Nat} {ps : List Ty} {r : List UInt8} : listR (n + 1) ps (41 :: r) = (ps, r, true) := by
 unfold listR; rw [if_pos (by simp [Lib.hasPrefix])]; rfl
theorem listR_no {n : Nat} {ps : List Ty} {l : List UInt8} (h : Lib.hasPrefix l [41] = false) : listR (n + 1) ps l = if (firstR l).2.2 = false ∨ (firstR l).1.1 = 5 ∨ ps.length = 8 then ([], [], false) else listR n (ps ++ [(firstR l).1]) (firstR l).2.1 := by
 rw [listR, if_neg (by rw [h]; decide)]
set_option maxHeartbeats 1000000 in
theorem list_any (s : ByteArray) (w : World) (hg : Glob w) (hs : s.size ≤ 4294967280) :
  Calls Tryz.prog 180 #[.string s] w fun e w' => ∃ v ps rest ok, Hid (listR (s.size + 1) [] s.data.toList = (ps, rest, ok)) ∧ e = .returned (.tuple #[v, .string (bx rest), .bool ok]) ∧ OwnT w' w.heap.size v ps ∧ Below w.heap.size w w' := by
 go_enter Tryz.func180, Tryz.ntmps180
 go_wp2_with fail
 go_loopw [0, 5] (fun x p wr => ∃ (n : Nat) (ts : List Ty) (l : List UInt8), x = .string (bx l) ∧ OwnT wr w.heap.size p ts ∧ Hid (listR (s.size + 1) [] s.data.toList = listR n ts l) ∧ l.length < n ∧ ts.length ≤ 8 ∧ l.length ≤ 4294967280 ∧ Below w.heap.size w wr) (fun x _ _ => strLen x)
 case atStart => exact ⟨s.size + 1, [], s.data.toList, by rw [bx, Lib.mk_data], OwnT.nil _ _, Lib.hid rfl, by rw [← Lib.size_eq]; omega, by simp, by rw [← Lib.size_eq]; exact hs, Below.refl _ _⟩
 case round =>
  obtain ⟨n, ts, l, rfl, ho, HL, hn, ht8, hl, hbl⟩ := hrel
  have hsr := hbl.size
  cases hp : Lib.hasPrefix l [41] with
  | true =>
   have hp2 := pre41 41 hp
   obtain ⟨r, rfl⟩ : ∃ r, l = 41 :: r := ⟨_, hp2⟩
   have HF : Hid (listR (s.size + 1) [] s.data.toList = (ts, r, true)) := Lib.hid (by
    rw [HL.out]
    obtain ⟨m, rfl⟩ : ∃ m, n = m + 1 := ⟨n - 1, by omega⟩
    exact listR_yes)
   clear hp hp2 HL
   go_wp2_with fail
   refine (pre_yes (s := bx (41 :: r)) (c := 41) (r := r) rfl _).mono ?_
   rintro e w1 ⟨rfl, rfl⟩
   go_wp2_with fail
   go_ret3
   exact ⟨_, _, _, _, HF, rfl, ho, hbl⟩
  | false =>
   obtain ⟨⟨k, c⟩, rest, ok, hR⟩ : ∃ t rest ok, firstR l = (t, rest, ok) := ⟨_, _, _, rfl⟩
   have HV : Hid (ret3 (firstR (bx l).data.toList) = Value.tuple #[.agg #[.int .i64 k, .string c], .string (bx rest), .bool ok]) := Lib.hid (by rw [bx_data, hR]; rfl)
   have HN : Hid (listR (s.size + 1) [] s.data.toList = if ok = false ∨ k = 5 ∨ ts.length = 8 then ([], [], false) else listR (n - 1) (ts ++ [(k, c)]) rest) := Lib.hid (by
    rw [HL.out]
    obtain ⟨m, rfl⟩ : ∃ m, n = m + 1 := ⟨n - 1, by omega⟩
    rw [listR_no hp, hR]; rfl)
   have HP := Lib.hid hp
   have hlr : ok = true → rest.length < l.length := by
    intro h
    subst h
    exact firstR_len hR
   have HLR := Lib.hid hlr
   have hgr := hg.below hbl (Nat.le_refl _)
   clear hp HL hR hlr
   by_cases hcond : ok = false ∨ k = 5 ∨ ts.length = 8
   ·have HF : Hid (listR (s.size + 1) [] s.data.toList = ([], [], false)) := Lib.hid (by rw [HN.out, if_pos hcond])
    clear HN
    cases ok with
    | false =>
     clear hcond
     go_wp2_with fail
     refine (pre_no (s := bx l) (c := 41) HP.out _).mono ?_
     rintro e w1 ⟨rfl, rfl⟩
     go_wp2_with fail
     refine (first_any (bx l) _ hgr (by rw [bx_size]; exact hl)).mono ?_
     rintro e w2 ⟨rfl, hb2⟩
     rw [HV.out]
     go_wp2_with fail
     go_ret3
     exact ⟨_, [], [], _, HF, rfl, OwnT.nil _ _, (hbl.trans (hb2.mono (by omega))).alloc (by have := hb2.size; omega) _⟩
    | true =>
     by_cases h5 : k = 5
     ·subst h5
      clear hcond
      go_wp2_with fail
      refine (pre_no (s := bx l) (c := 41) HP.out _).mono ?_
      rintro e w1 ⟨rfl, rfl⟩
      go_wp2_with fail
      refine (first_any (bx l) _ hgr (by rw [bx_size]; exact hl)).mono ?_
      rintro e w2 ⟨rfl, hb2⟩
      rw [HV.out]
      go_wp2_with fail
      go_ret3
      exact ⟨_, [], [], _, HF, rfl, OwnT.nil _ _, (hbl.trans (hb2.mono (by omega))).alloc (by have := hb2.size; omega) _⟩
     ·have h5' : (k == 5) = false := by rw [beq_eq_false_iff_ne]; exact h5
      have h8 : ts.length = 8 := by rcases hcond with h | h | h; (cases h); exact absurd h h5; exact h
      have h8' : ((ts.length : Int) == 8) = true := by rw [beq_iff_eq]; omega
      obtain ⟨pa, pc, hv, _⟩ := ho.rd
      subst hv
      clear hcond h8 h5
      go_wp2_with fail
      refine (pre_no (s := bx l) (c := 41) HP.out _).mono ?_
      rintro e w1 ⟨rfl, rfl⟩
      go_wp2_with fail
      refine (first_any (bx l) _ hgr (by rw [bx_size]; exact hl)).mono ?_
      rintro e w2 ⟨rfl, hb2⟩
      rw [HV.out]
      go_wp2_with fail
      go_ret3
      exact ⟨_, [], [], _, HF, rfl, OwnT.nil _ _, (hbl.trans (hb2.mono (by omega))).alloc (by have := hb2.size; omega) _⟩
   ·have HF : Hid (listR (s.size + 1) [] s.data.toList = listR (n - 1) (ts ++ [(k, c)]) rest) := Lib.hid (by rw [HN.out, if_neg hcond])
    have hok : ok = true := by
     cases ok with
     | false => exact absurd (.inl rfl) hcond
     | true => rfl
    subst hok
    have hrl := HLR.out rfl
    have h5 : ¬ k = 5 := fun e => hcond (.inr (.inl e))
    have h8 : ¬ ts.length = 8 := fun e => hcond (.inr (.inr e))
    have h5' : (k == 5) = false := by rw [beq_eq_false_iff_ne]; exact h5
    have h8' : ((ts.length : Int) == 8) = false := by rw [beq_eq_false_iff_ne]; omega
    have h8l : ts.length < 8 := by omega
    obtain ⟨pa, pc, hv, _⟩ := ho.rd
    subst hv
    clear hcond HN HLR h5 h8
    go_wp2_with fail
    refine (pre_no (s := bx l) (c := 41) HP.out _).mono ?_
    rintro e w1 ⟨rfl, rfl⟩
    go_wp2_with fail
    refine (first_any (bx l) _ hgr (by rw [bx_size]; exact hl)).mono ?_
    rintro e w2 ⟨rfl, hb2⟩
    rw [HV.out]
    have hs2 := hb2.size
    have hb3 : Below w.heap.size w ((w2.alloc (.cells #[.int .i64 k, .string c] 55)).alloc (.cells #[.int .i64 k, .string c] 55)) := ((hbl.trans (hb2.mono (by omega))).alloc (by omega) _).alloc (by simp; omega) _
    have ho2 : OwnT ((w2.alloc (.cells #[.int .i64 k, .string c] 55)).alloc (.cells #[.int .i64 k, .string c] 55)) w.heap.size (.slice pa ts.length pc) ts :=
     (ho.below hb2 (Nat.le_refl _)).below (((Below.refl w2.heap.size w2).alloc (Nat.le_refl _) _).alloc (by simp) _) (Nat.le_refl _)
    go_wp2_with (at_builtin; refine wp_appT rfl _ _ rfl w.heap.size _ ts rfl ho2 (k, c) (w2.heap.size + 1) rfl ?d1 ?d2 ?d3 ?d4 ?_)
    case d3 => omega
    case d4 => simp; omega
    intro v' w3 ho3 hg3
    have hb4 : Below w.heap.size w w3 := hb3.grown hg3 (by simp; omega) (fun g hg => (ho2.lt hg).1)
    clear ho2 hb3 hb2 hg3 ho hbl hgr
    go_wp2_with fail
    go_roundw
    case rel => exact ⟨n - 1, ts ++ [(k, c)], rest, rfl, ho3, HF, by omega, by simp; omega, by omega, hb4⟩
    case measure => simp [strLen, bx_size]; omega
theorem parseR_no {s : List UInt8} (h : Lib.hasPrefix s [40] = false) : parseR s = ([], t0, false) := by
 unfold parseR; rw [if_neg (by rw [h]; decide)]
theorem parseR_yes (r : List UInt8) {ps : List Ty} {rest : List UInt8} {ok : Bool} (n : Nat) (hn : r.length < n) (h : listR n [] r = (ps, rest, ok)) : parseR (40 :: r) = if ok && (oneR rest).2 then (ps, (oneR rest).1, true) else ([], t0, false) := by
 unfold parseR
 rw [if_pos (by simp [Lib.hasPrefix])]
 have : listR (40 :: r).length [] ((40 :: r).drop 1) = (ps, rest, ok) := by
  rw [← h]
  exact listR_fuel _ _ _ _ (by simp) (by simpa using hn)
 rw [this]
set_option maxHeartbeats 1000000 in
theorem parse_any (s : ByteArray) (w : World) (hg : Glob w) (hs : s.size ≤ 4294967280) :
  Calls Tryz.prog 145 #[.string s] w fun e w' => ∃ v ps t ok, Hid (parseR s.data.toList = (ps, t, ok)) ∧ e = .returned (.tuple #[v, tyv t, .bool ok]) ∧ OwnT w' w.heap.size v ps ∧ Below w.heap.size w w' := by
 cases hp : Lib.hasPrefix s.data.toList [40] with
 | false =>
  have HF := Lib.hid (parseR_no hp)
  have HP := Lib.hid hp
  clear hp
  go_enter Tryz.func145, Tryz.ntmps145
  go_wp2_with fail
  refine (pre_no (s := s) (c := 40) HP.out _).mono ?_
  rintro e w1 ⟨rfl, rfl⟩
  go_wp2_with fail
  refine bodyPost_ret (v := .tuple #[.slice none 0 0, .agg #[.int .i64 0, .string (bx [])], .bool false]) (by simp [*, results, Tryz.results145, go_sem, bx]) rfl ⟨_, [], t0, false, HF, rfl, OwnT.nil _ _, ?_⟩
  repeat (first | exact Below.refl _ _ | assumption | refine Below.setCell (p := ⟨_, _, _⟩) ?_ (by first | (simp; done) | (simp; omega) | omega) _ | refine below_drewN ?_ _ | refine Below.drew ?_ | refine Below.alloc ?_ (by first | (simp; done) | (simp; omega) | omega) _)
 | true =>
  have hp2 := pre41 40 hp
  obtain ⟨r, hr⟩ : ∃ r, s.data.toList = 40 :: r := ⟨_, hp2⟩
  have HP := Lib.hid hr
  have hrl : r.length + 1 = s.size := by rw [Lib.size_eq, hr]; simp
  have hrl2 : r.length ≤ 4294967280 := by omega
  clear hp hp2 hr hrl
  go_enter Tryz.func145, Tryz.ntmps145
  go_wp2_with fail
  refine (pre_yes HP.out _).mono ?_
  rintro e w1 ⟨rfl, rfl⟩
  go_wp2_with fail
  refine (list_any (bx r) _ (hg.alloc _) (by rw [bx_size]; exact hrl2)).mono ?_
  rintro e w2 ⟨v, ps, rest, ok, HL, rfl, ho, hb1⟩
  have HY := Lib.hid (parseR_yes r ((bx r).size + 1) (by rw [bx_size]; omega) HL.out)
  have hrs : rest.length ≤ 4294967280 := by
   cases ok with
   | false =>
    have := (listR_false _ _ _ HL.out).2
    subst this
    simp
   | true =>
    obtain ⟨qs, _, h2, _⟩ := listR_text _ _ _ _ _ HL.out
    have := congrArg List.length h2
    rw [bx_data] at this
    simp at this
    omega
  have hbx := box2 hb1
  obtain ⟨⟨k, c⟩, ok2, hO⟩ : ∃ t ok2, oneR rest = (t, ok2) := ⟨_, _, rfl⟩
  have HV : Hid (Value.tuple #[tyv (oneR (bx rest).data.toList).1, .bool (oneR (bx rest).data.toList).2] = Value.tuple #[.agg #[.int .i64 k, .string c], .bool ok2]) := Lib.hid (by rw [bx_data, hO]; rfl)
  rw [hO] at HY
  clear hO HL
  cases ok with
  | false =>
   have HF : Hid (parseR s.data.toList = ([], t0, false)) := Lib.hid (by rw [HP.out]; exact HY.out)
   go_wp2_with fail
   refine (one_any (bx rest) _ (hg.below hbx.2.2.2.2.2.2 (Nat.le_refl _)) (by rw [bx_size]; exact hrs)).mono ?_
   rintro e w3 ⟨rfl, hb3⟩
   rw [HV.out]
   obtain ⟨hlt1, hne1, hc0, hc1, hf0, hf1, hb2⟩ := box_next hbx hb3
   have ho3 := ho.below hb3 (Nat.le_refl _)
   clear hb3 hbx ho hb1
   go_wp2_with fail
   refine bodyPost_ret (v := .tuple #[.slice none 0 0, .agg #[.int .i64 0, .string (bx [])], .bool false]) (by simp [*, results, Tryz.results145, go_sem, bx]) rfl ⟨_, [], t0, false, HF, rfl, OwnT.nil _ _, ?_⟩
   repeat (first | exact Below.refl _ _ | assumption | refine Below.setCell (p := ⟨_, _, _⟩) ?_ (by first | (simp; done) | (simp; omega) | omega) _ | refine below_drewN ?_ _ | refine Below.drew ?_ | refine Below.alloc ?_ (by first | (simp; done) | (simp; omega) | omega) _)
  | true =>
   cases ok2 with
   | false =>
    have HF : Hid (parseR s.data.toList = ([], t0, false)) := Lib.hid (by rw [HP.out]; exact HY.out)
    go_wp2_with fail
    refine (one_any (bx rest) _ (hg.below hbx.2.2.2.2.2.2 (Nat.le_refl _)) (by rw [bx_size]; exact hrs)).mono ?_
    rintro e w3 ⟨rfl, hb3⟩
    rw [HV.out]
    obtain ⟨hlt1, hne1, hc0, hc1, hf0, hf1, hb2⟩ := box_next hbx hb3
    have ho3 := ho.below hb3 (Nat.le_refl _)
    clear hb3 hbx ho hb1
    go_wp2_with fail
    refine bodyPost_ret (v := .tuple #[.slice none 0 0, .agg #[.int .i64 0, .string (bx [])], .bool false]) (by simp [*, results, Tryz.results145, go_sem, bx]) rfl ⟨_, [], t0, false, HF, rfl, OwnT.nil _ _, ?_⟩
    repeat (first | exact Below.refl _ _ | assumption | refine Below.setCell (p := ⟨_, _, _⟩) ?_ (by first | (simp; done) | (simp; omega) | omega) _ | refine below_drewN ?_ _ | refine Below.drew ?_ | refine Below.alloc ?_ (by first | (simp; done) | (simp; omega) | omega) _)
   | true =>
    have HF : Hid (parseR s.data.toList = (ps, (k, c), true)) := Lib.hid (by rw [HP.out]; exact HY.out)
    go_wp2_with fail
    refine (one_any (bx rest) _ (hg.below hbx.2.2.2.2.2.2 (Nat.le_refl _)) (by rw [bx_size]; exact hrs)).mono ?_
    rintro e w3 ⟨rfl, hb3⟩
    rw [HV.out]
    obtain ⟨hlt1, hne1, hc0, hc1, hf0, hf1, hb2⟩ := box_next hbx hb3
    have ho3 := ho.below hb3 (Nat.le_refl _)
    clear hb3 hbx ho hb1
    go_wp2_with fail
    have ho4 : OwnT w3 w.heap.size v ps := ho3.mono (by simp)
    have ho5 : OwnT w3 (w.heap.size + 1) v ps := ho3.mono (by simp)
    go_region
    all_goals go_wp2_with fail
    all_goals refine bodyPost_ret (v := .tuple #[v, .agg #[.int .i64 k, .string c], .bool true]) ?_ rfl ⟨_, ps, (k, c), true, HF, rfl, ?_, ?_⟩
    all_goals first | (simp [*, results, Tryz.results145, go_sem]; done) | exact ((((ho5.setCell (by simp) _).setCell (by simp) _).alloc _).drew).mono (by omega) | (repeat (first | exact Below.refl _ _ | assumption | refine Below.setCell (p := ⟨_, _, _⟩) ?_ (by first | (simp; done) | (simp; omega) | omega) _ | refine below_drewN ?_ _ | refine Below.drew ?_ | refine Below.alloc ?_ (by first | (simp; done) | (simp; omega) | omega) _))
end Go.Proofs.YtijnimjmimeefaaGreat.D
namespace Go.Proofs.YtijnimjmimeefaaGreat.O
open Go.Proofs.YtijnimjmimeefaaGreat.D
open Go.RowKit
def usesI (o : Int) : Int :=
 if o = 1 then 1 else if o = 2 then 2 else if o = 4 then 3 else if o = 5 then 3 else if o = 19 then 3 else if o = 20 then 3 else
 if o = 26 then 4 else if o = 27 then 4 else if o = 28 then 4 else if o = 29 then 4 else
 if o = 34 then 5 else if o = 35 then 5 else if o = 36 then 5 else if o = 37 then 5 else
 if o = 25 then 6 else if o = 30 then 6 else if o = 31 then 6 else 0
def knownB (o : Int) : Bool := decide (0 < o ∧ o < 44)
theorem ret_i64 {a b : Int} (h : a = b) : Ending.returned (.int .i64 a) = .returned (.int .i64 b) := by rw [h]
theorem knownop_any (o : Int) (w : World) :
  Calls Tryz.prog 206 #[.int .i64 o] w fun e w' => e = .returned (.bool (knownB o)) ∧ w = w' := by
 go_enter Tryz.func206, Tryz.ntmps206
 go_wp2
 all_goals go_ret
 all_goals refine ⟨ret_bool ?_, rfl⟩
 all_goals (rw [Bool.eq_iff_iff]; simp [knownB]; try omega)
set_option maxHeartbeats 1000000 in
theorem uses_any (o : Int) (w : World) :
  Calls Tryz.prog 182 #[.int .i64 o] w fun e w' => e = .returned (.int .i64 (usesI o)) ∧ w = w' := by
 go_enter Tryz.func182, Tryz.ntmps182
 go_wp2
 all_goals go_ret
 all_goals refine ⟨ret_i64 ?_, rfl⟩
 all_goals simp_all [usesI]
end Go.Proofs.YtijnimjmimeefaaGreat.O
