/- What Name answers. -/
import Derived.Test.YtibciicpgjgjbaaDoorDBase
import Derived.Outline
import Derived.Lib.Strings
namespace Go.Proofs.YtibciicpgjgjbaaDoor
open Go.RowKit

def midB (c : Int) : Bool := letB c || digB c || decide (c = 95)

/-- which texts are names -/
def nameL (l : List UInt8) : Bool :=
  decide (0 < l.length) && decide (l.length ≤ 64) && letB ((l.getD 0 0).toNat : Int) && l.all fun c => midB (c.toNat : Int)
def nameB (s : ByteArray) : Bool := nameL s.data.toList

theorem toList_ne {s : ByteArray} (h : 0 < s.size) : ¬ s.toList = [] := by
  intro e
  have := congrArg List.length e
  rw [Lib.toList_data, ← Lib.size_eq] at this
  simp only [List.length_nil] at this
  omega
theorem isEmpty_ne {s : ByteArray} (h : 0 < s.size) : s.toList.isEmpty = false := by
  cases he : s.toList.isEmpty with
  | false => rfl
  | true => exact absurd (List.isEmpty_iff.1 he) (toList_ne h)
theorem size_of_toList {s : ByteArray} (h : s.toList = []) : s.size = 0 := by
  by_cases h0 : 0 < s.size
  · exact absurd h (toList_ne h0)
  · omega

theorem nameB_short {s : ByteArray} (h : s.size = 0) : nameB s = false := by
  have : s.data.toList.length = 0 := by simpa using h
  unfold nameB nameL; simp [this]
theorem nameB_long {s : ByteArray} (h : 64 < s.size) : nameB s = false := by
  have : s.data.toList.length = s.size := (Lib.size_eq s).symm
  unfold nameB nameL; rw [this]; simp [show ¬ s.size ≤ 64 by omega]
theorem getD0 {s : ByteArray} (h : 0 < s.size) : s.data.toList.getD 0 0 = s[0] := by
  rw [List.getD_eq_getElem?_getD, List.getElem?_eq_getElem (by simpa using h)]; rfl
theorem nameB_first {s : ByteArray} (h0 : 0 < s.size) (h : letB (s[0].toNat : Int) = false) : nameB s = false := by
  unfold nameB nameL; rw [getD0 h0, h]; simp
theorem nameB_mid {s : ByteArray} (k : Nat) (hk : k < s.size) (h : midB (s[k].toNat : Int) = false) : nameB s = false := by
  have : s.data.toList.all (fun c => midB (c.toNat : Int)) = false := by
    rw [List.all_eq_false]
    exact ⟨s[k], by show s.data[k] ∈ _; simp, by rw [h]; simp⟩
  unfold nameB nameL; rw [this]; simp
theorem nameB_true {s : ByteArray} (h0 : 0 < s.size) (h1 : s.size ≤ 64) (h2 : letB (s[0].toNat : Int) = true) (h : ∀ (j : Nat) (hj : j < s.size), midB (s[j].toNat : Int) = true) : nameB s = true := by
  have e : s.data.toList.all (fun c => midB (c.toNat : Int)) = true := by
    rw [List.all_eq_true]
    intro x hx
    obtain ⟨j, hj, rfl⟩ := List.mem_iff_getElem.1 hx
    exact h j (by simpa using hj)
  have hl : s.data.toList.length = s.size := (Lib.size_eq s).symm
  unfold nameB nameL; rw [e, getD0 h0, h2, hl]; simp [h0, h1]

theorem letter_mid {c : Int} (h : letB c = true) : midB c = true := by unfold midB; rw [h]; rfl

set_option maxHeartbeats 400000 in
theorem name_any (s : ByteArray) (w : World) (hs : s.size ≤ maxLen) :
    Calls Tryd.prog 27 #[.string s] w fun e w' => e = .returned (.bool (nameB s)) ∧ w = w' := by
  unfold maxLen at hs
  by_cases h0 : s.size = 0
  · have HF := Lib.hid (nameB_short h0)
    obtain rfl : s = ByteArray.empty := by
      obtain ⟨⟨l⟩⟩ := s
      have : l.length = 0 := h0
      rw [List.eq_nil_of_length_eq_zero this]; rfl
    clear h0
    go_enter Tryd.func27, Tryd.ntmps27
    go_wp2
    go_ret
    exact ⟨ret_bool HF.out.symm, rfl⟩
  have h0' : 0 < s.size := by omega
  have hE := isEmpty_ne h0'
  have hN := toList_ne h0'
  clear h0
  by_cases h1 : 64 < s.size
  · go_enter Tryd.func27, Tryd.ntmps27
    go_wp2
    go_ret
    exact ⟨ret_bool (nameB_long h1).symm, rfl⟩
  have h1' : s.size ≤ 64 := by omega
  clear h1
  cases h2 : letB (s[0].toNat : Int) with
  | false =>
    have HF := Lib.hid (nameB_first h0' h2)
    go_enter Tryd.func27, Tryd.ntmps27
    go_wp2_with (go_at_call 32; refine (letter_any _ _).mono ?_; rintro e w' ⟨rfl, rfl⟩)
    go_ret
    exact ⟨ret_bool HF.out.symm, rfl⟩
  | true =>
    have H2 := Lib.hid h2
    go_enter Tryd.func27, Tryd.ntmps27
    go_wp2_with (go_at_call 32; refine (letter_any _ _).mono ?_; rintro e w' ⟨rfl, rfl⟩)
    clear h2
    go_loop [19] (fun i => ∃ k : Nat, k ≤ s.size ∧ i = .int .i64 k ∧ ∀ (j : Nat) (hj : j < s.size), j < k → midB (s[j].toNat : Int) = true) (fun i => s.size - (intOf i).toNat)
    case atStart => exact ⟨0, Nat.zero_le _, rfl, fun j _ h => absurd h (Nat.not_lt_zero _)⟩
    case round =>
      obtain ⟨k, hk, rfl, hr⟩ := hrel
      have HR := Lib.hid hr
      clear hr
      by_cases hlt : k < s.size
      · cases hm : midB (s[k].toNat : Int) with
        | false =>
          have HF := Lib.hid (nameB_mid k hlt hm)
          unfold midB at hm
          simp only [Bool.or_eq_false_iff, decide_eq_false_iff_not] at hm
          obtain ⟨⟨hm1, hm2⟩, hm3⟩ := hm
          have hm4 : (((s[k].toNat : Int)) != 95) = true := by rw [bne_iff_ne]; exact hm3
          have hm5 : (((s[k].toNat : Int)) == 95) = false := by rw [beq_eq_false_iff_ne]; exact hm3
          go_wp2_with (first | (go_at_call 32; refine (letter_any _ _).mono ?_; rintro e w' ⟨rfl, rfl⟩) | (go_at_call 33; refine (digit_any _ _).mono ?_; rintro e w' ⟨rfl, rfl⟩))
          go_ret
          exact ⟨ret_bool HF.out.symm, rfl⟩
        | true =>
          have HM := Lib.hid hm
          clear hm
          have hs1 : ∀ (j : Nat) (hj : j < s.size), j < k + 1 → midB (s[j].toNat : Int) = true := by
            intro j hj h
            by_cases e : j = k
            · subst e; exact HM.out
            · exact HR.out j hj (by omega)
          have HS := Lib.hid hs1
          clear hs1
          have hm := HM.out
          unfold midB at hm
          simp only [Bool.or_eq_true, decide_eq_true_eq] at hm
          cases c1 : letB (s[k].toNat : Int)
          · cases c2 : digB (s[k].toNat : Int)
            · have c3 : (s[k].toNat : Int) = 95 := by rw [c1, c2] at hm; simpa using hm
              have c4 : (((s[k].toNat : Int)) != 95) = false := by rw [c3]; rfl
              have c5 : (((s[k].toNat : Int)) == 95) = true := by rw [c3]; rfl
              clear hm c3
              go_wp2_with (first | (go_at_call 32; refine (letter_any _ _).mono ?_; rintro e w' ⟨rfl, rfl⟩) | (go_at_call 33; refine (digit_any _ _).mono ?_; rintro e w' ⟨rfl, rfl⟩))
              go_round
              case rel => exact ⟨k + 1, by omega, by go_num, HS.out⟩
              case measure => simp [intOf]; omega
            · clear hm
              go_wp2_with (first | (go_at_call 32; refine (letter_any _ _).mono ?_; rintro e w' ⟨rfl, rfl⟩) | (go_at_call 33; refine (digit_any _ _).mono ?_; rintro e w' ⟨rfl, rfl⟩))
              go_round
              case rel => exact ⟨k + 1, by omega, by go_num, HS.out⟩
              case measure => simp [intOf]; omega
          · clear hm
            go_wp2_with (first | (go_at_call 32; refine (letter_any _ _).mono ?_; rintro e w' ⟨rfl, rfl⟩) | (go_at_call 33; refine (digit_any _ _).mono ?_; rintro e w' ⟨rfl, rfl⟩))
            go_round
            case rel => exact ⟨k + 1, by omega, by go_num, HS.out⟩
            case measure => simp [intOf]; omega
      · go_wp2
        go_ret
        exact ⟨ret_bool (nameB_true h0' h1' H2.out (fun j hj => HR.out j hj (by omega))).symm, rfl⟩

theorem size_pos_of {s : ByteArray} {k : Nat} (h : k < s.size) : 0 < s.size := by omega

set_option maxHeartbeats 400000 in
theorem rname_any (s : ByteArray) (w : World) (hs : s.size ≤ maxLen) :
    Calls Tryd.prog 25 #[.string s] w fun e w' => e = .returned (.bool (nameB s)) ∧ w = w' := by
  unfold maxLen at hs
  go_enter Tryd.func25, Tryd.ntmps25
  go_wp2
  go_loop [3] (fun i => ∃ k : Nat, k ≤ s.size ∧ i = .int .i64 k ∧ (∀ (hj : 0 < s.size), 0 < k → letB (s[0].toNat : Int) = true) ∧ ∀ (j : Nat) (hj : j < s.size), j < k → midB (s[j].toNat : Int) = true) (fun i => s.size - (intOf i).toNat)
  case atStart => exact ⟨0, Nat.zero_le _, rfl, fun _ h => absurd h (Nat.not_lt_zero _), fun j _ h => absurd h (Nat.not_lt_zero _)⟩
  case round =>
    obtain ⟨k, hk, rfl, hr1, hr⟩ := hrel
    have HR := Lib.hid hr
    have HR1 := Lib.hid hr1
    clear hr hr1
    by_cases hlt : k < s.size
    · cases c1 : letB (s[k].toNat : Int)
      · by_cases hk0 : k = 0
        · subst hk0
          have HF := Lib.hid (nameB_first hlt c1)
          go_wp2_with (go_at_call 29; refine (rletter_any _ _).mono ?_; rintro e w' ⟨rfl, rfl⟩)
          go_ret
          exact ⟨ret_bool HF.out.symm, rfl⟩
        · have k1 : ((k : Int) == 0) = false := by rw [beq_eq_false_iff_ne]; omega
          cases hm : midB (s[k].toNat : Int) with
          | false =>
            have HF := Lib.hid (nameB_mid k hlt hm)
            unfold midB at hm
            simp only [Bool.or_eq_false_iff, decide_eq_false_iff_not] at hm
            obtain ⟨⟨_, hm2⟩, hm3⟩ := hm
            have hm4 : (((s[k].toNat : Int)) != 95) = true := by rw [bne_iff_ne]; exact hm3
            unfold digB at hm2
            simp only [decide_eq_false_iff_not] at hm2
            by_cases h48 : (s[k].toNat : Int) < 48
            · clear hm2 hm3
              go_wp2_with (go_at_call 29; refine (rletter_any _ _).mono ?_; rintro e w' ⟨rfl, rfl⟩)
              go_ret
              exact ⟨ret_bool HF.out.symm, rfl⟩
            · have h57 : 57 < (s[k].toNat : Int) := by omega
              have h48' : 48 ≤ (s[k].toNat : Int) := by omega
              clear hm2 hm3 h48
              go_wp2_with (go_at_call 29; refine (rletter_any _ _).mono ?_; rintro e w' ⟨rfl, rfl⟩)
              go_ret
              exact ⟨ret_bool HF.out.symm, rfl⟩
          | true =>
            have HS : Hid (∀ (j : Nat) (hj : j < s.size), j < k + 1 → midB (s[j].toNat : Int) = true) := Lib.hid (by
              intro j hj h
              by_cases e : j = k
              · subst e; exact hm
              · exact HR.out j hj (by omega))
            have HS1 : Hid (∀ (hj : 0 < s.size), 0 < k + 1 → letB (s[0].toNat : Int) = true) := Lib.hid (fun hj _ => HR1.out hj (by omega))
            unfold midB at hm
            simp only [Bool.or_eq_true, decide_eq_true_eq] at hm
            rw [c1] at hm
            by_cases c3 : (s[k].toNat : Int) = 95
            · have c4 : (((s[k].toNat : Int)) != 95) = false := by rw [c3]; rfl
              clear hm c3
              go_wp2_with (go_at_call 29; refine (rletter_any _ _).mono ?_; rintro e w' ⟨rfl, rfl⟩)
              go_round
              case rel => exact ⟨k + 1, by omega, by go_num, HS1.out, HS.out⟩
              case measure => simp [intOf]; omega
            · have c4 : (((s[k].toNat : Int)) != 95) = true := by rw [bne_iff_ne]; exact c3
              have c2 : digB (s[k].toNat : Int) = true := by simpa [c3] using hm
              unfold digB at c2
              simp only [decide_eq_true_eq] at c2
              obtain ⟨c5, c6⟩ := c2
              clear hm c3
              go_wp2_with (go_at_call 29; refine (rletter_any _ _).mono ?_; rintro e w' ⟨rfl, rfl⟩)
              go_round
              case rel => exact ⟨k + 1, by omega, by go_num, HS1.out, HS.out⟩
              case measure => simp [intOf]; omega
      · have HS : Hid (∀ (j : Nat) (hj : j < s.size), j < k + 1 → midB (s[j].toNat : Int) = true) := Lib.hid (by
          intro j hj h
          by_cases e : j = k
          · subst e; exact letter_mid c1
          · exact HR.out j hj (by omega))
        have HS1 : Hid (∀ (hj : 0 < s.size), 0 < k + 1 → letB (s[0].toNat : Int) = true) := Lib.hid (by
          intro hj _
          by_cases e : k = 0
          · subst e; exact c1
          · exact HR1.out hj (by omega))
        go_wp2_with (go_at_call 29; refine (rletter_any _ _).mono ?_; rintro e w' ⟨rfl, rfl⟩)
        go_round
        case rel => exact ⟨k + 1, by omega, by go_num, HS1.out, HS.out⟩
        case measure => simp [intOf]; omega
    · by_cases h0 : s.size = 0
      · have hx : ¬ (1 ≤ s.size) := by omega
        have HF := Lib.hid (nameB_short h0)
        have h0' : s.size ≤ 0 := by omega
        clear h0
        go_wp2
        go_ret
        exact ⟨ret_bool (by rw [HF.out]), rfl⟩
      · have h0' : 1 ≤ s.size := by omega
        by_cases h1 : 64 < s.size
        · go_wp2
          go_ret
          exact ⟨ret_bool (by rw [nameB_long h1, decide_eq_false_iff_not]; omega), rfl⟩
        · have h1' : s.size ≤ 64 := by omega
          go_wp2
          go_ret
          exact ⟨ret_bool (by rw [nameB_true h0' h1' (HR1.out h0' (by omega)) (fun j hj => HR.out j hj (by omega)), decide_eq_true_eq]; omega), rfl⟩
end Go.Proofs.YtibciicpgjgjbaaDoor
