/- What Right and Type answer. -/
import Derived.Test.YtijbgbggmakfoaaDName
import Derived.Below
namespace Go.Proofs.Ytijbgbggmakfoaa
open Go.RowKit

def rightB (k : Int) (c : ByteArray) : Bool := if k = 4 then nameB c else decide (1 ≤ k ∧ k ≤ 5) && decide (c.size = 0)

/-- the text of a type -/
def typeT (k : Int) (c : ByteArray) : ByteArray :=
  if k = 1 then ⟨#[73]⟩ else if k = 2 then ⟨#[83]⟩ else if k = 3 then ⟨#[65]⟩ else if k = 5 then ⟨#[86]⟩ else if k = 4 then (⟨#[76]⟩ ++ c) ++ ⟨#[59]⟩ else ⟨#[]⟩

set_option maxHeartbeats 400000 in
theorem type_any (k : Int) (c : ByteArray) (w : World) (hc : c.size ≤ 4294967280) :
    Calls Try.prog 17 #[.agg #[.int .i64 k, .string c]] w fun e w' => e = .returned (.string (typeT k c)) ∧ Below w.heap.size w w' := by
  by_cases h1 : k = 1
  · subst h1
    go_enter Try.func17, Try.ntmps17
    go_wp2
    go_ret
    exact ⟨rfl, (Below.refl _ _).alloc (Nat.le_refl _) _⟩
  by_cases h2 : k = 2
  · subst h2
    go_enter Try.func17, Try.ntmps17
    go_wp2
    go_ret
    exact ⟨rfl, (Below.refl _ _).alloc (Nat.le_refl _) _⟩
  by_cases h3 : k = 3
  · subst h3
    go_enter Try.func17, Try.ntmps17
    go_wp2
    go_ret
    exact ⟨rfl, (Below.refl _ _).alloc (Nat.le_refl _) _⟩
  by_cases h5 : k = 5
  · subst h5
    go_enter Try.func17, Try.ntmps17
    go_wp2
    go_ret
    exact ⟨rfl, (Below.refl _ _).alloc (Nat.le_refl _) _⟩
  by_cases h4 : k = 4
  · subst h4
    go_enter Try.func17, Try.ntmps17
    go_wp2
    go_ret
    exact ⟨rfl, (Below.refl _ _).alloc (Nat.le_refl _) _⟩
  have HF : Hid (typeT k c = ⟨#[]⟩) := Lib.hid (by unfold typeT; rw [if_neg h1, if_neg h2, if_neg h3, if_neg h5, if_neg h4])
  replace h1 : (k == 1) = false := by rw [beq_eq_false_iff_ne]; exact h1
  replace h2 : (k == 2) = false := by rw [beq_eq_false_iff_ne]; exact h2
  replace h3 : (k == 3) = false := by rw [beq_eq_false_iff_ne]; exact h3
  replace h5 : (k == 5) = false := by rw [beq_eq_false_iff_ne]; exact h5
  replace h4 : (k == 4) = false := by rw [beq_eq_false_iff_ne]; exact h4
  go_enter Try.func17, Try.ntmps17
  go_wp2
  go_ret
  exact ⟨ret_str HF.out.symm, (Below.refl _ _).alloc (Nat.le_refl _) _⟩

set_option maxHeartbeats 400000 in
theorem rtype_any (k : Int) (c : ByteArray) (w : World) (hc : c.size ≤ 4294967280) :
    Calls Try.prog 20 #[.agg #[.int .i64 k, .string c]] w fun e w' => e = .returned (.string (typeT k c)) ∧ Below w.heap.size w w' := by
  by_cases h1 : k = 1
  · subst h1
    go_enter Try.func20, Try.ntmps20
    go_wp2
    go_ret
    exact ⟨rfl, (Below.refl _ _).alloc (Nat.le_refl _) _⟩
  by_cases h2 : k = 2
  · subst h2
    go_enter Try.func20, Try.ntmps20
    go_wp2
    go_ret
    exact ⟨rfl, (Below.refl _ _).alloc (Nat.le_refl _) _⟩
  by_cases h3 : k = 3
  · subst h3
    go_enter Try.func20, Try.ntmps20
    go_wp2
    go_ret
    exact ⟨rfl, (Below.refl _ _).alloc (Nat.le_refl _) _⟩
  by_cases h5 : k = 5
  · subst h5
    go_enter Try.func20, Try.ntmps20
    go_wp2
    go_ret
    exact ⟨rfl, (Below.refl _ _).alloc (Nat.le_refl _) _⟩
  by_cases h4 : k = 4
  · subst h4
    go_enter Try.func20, Try.ntmps20
    go_wp2
    go_ret
    exact ⟨rfl, (Below.refl _ _).alloc (Nat.le_refl _) _⟩
  have HF : Hid (typeT k c = ⟨#[]⟩) := Lib.hid (by unfold typeT; rw [if_neg h1, if_neg h2, if_neg h3, if_neg h5, if_neg h4])
  replace h1 : (k == 1) = false := by rw [beq_eq_false_iff_ne]; exact h1
  replace h2 : (k == 2) = false := by rw [beq_eq_false_iff_ne]; exact h2
  replace h3 : (k == 3) = false := by rw [beq_eq_false_iff_ne]; exact h3
  replace h5 : (k == 5) = false := by rw [beq_eq_false_iff_ne]; exact h5
  replace h4 : (k == 4) = false := by rw [beq_eq_false_iff_ne]; exact h4
  go_enter Try.func20, Try.ntmps20
  go_wp2
  go_ret
  exact ⟨ret_str HF.out.symm, (Below.refl _ _).alloc (Nat.le_refl _) _⟩

set_option maxHeartbeats 400000 in
theorem right_any (k : Int) (c : ByteArray) (w : World) (hc : c.size ≤ 4294967280) :
    Calls Try.prog 18 #[.agg #[.int .i64 k, .string c]] w fun e w' => e = .returned (.bool (rightB k c)) ∧ Below w.heap.size w w' := by
  have hc' : c.size ≤ maxLen := by unfold maxLen; omega
  have hce : (decide (c.size = 0)) = c.toList.isEmpty := by
    by_cases h0 : c.size = 0
    · rw [decide_eq_true h0, Lib.toList_data]
      have := Lib.size_eq c
      rw [List.eq_nil_of_length_eq_zero (l := c.data.toList) (by omega)]; rfl
    · rw [decide_eq_false h0, isEmpty_ne (by omega)]
  have HE := Lib.hid hce
  clear hce
  by_cases h1 : k = 1
  · subst h1
    have HF : Hid (rightB 1 c = c.toList.isEmpty) := Lib.hid (by unfold rightB; rw [if_neg (by decide), HE.out]; rfl)
    go_enter Try.func18, Try.ntmps18
    go_wp2
    all_goals go_ret
    all_goals exact ⟨ret_bool (by first | exact HF.out.symm | (rw [HF.out]; simp [*])), (Below.refl _ _).alloc (Nat.le_refl _) _⟩
  by_cases h2 : k = 2
  · subst h2
    have HF : Hid (rightB 2 c = c.toList.isEmpty) := Lib.hid (by unfold rightB; rw [if_neg (by decide), HE.out]; rfl)
    go_enter Try.func18, Try.ntmps18
    go_wp2
    all_goals go_ret
    all_goals exact ⟨ret_bool (by first | exact HF.out.symm | (rw [HF.out]; simp [*])), (Below.refl _ _).alloc (Nat.le_refl _) _⟩
  by_cases h3 : k = 3
  · subst h3
    have HF : Hid (rightB 3 c = c.toList.isEmpty) := Lib.hid (by unfold rightB; rw [if_neg (by decide), HE.out]; rfl)
    go_enter Try.func18, Try.ntmps18
    go_wp2
    all_goals go_ret
    all_goals exact ⟨ret_bool (by first | exact HF.out.symm | (rw [HF.out]; simp [*])), (Below.refl _ _).alloc (Nat.le_refl _) _⟩
  by_cases h5 : k = 5
  · subst h5
    have HF : Hid (rightB 5 c = c.toList.isEmpty) := Lib.hid (by unfold rightB; rw [if_neg (by decide), HE.out]; rfl)
    go_enter Try.func18, Try.ntmps18
    go_wp2
    all_goals go_ret
    all_goals exact ⟨ret_bool (by first | exact HF.out.symm | (rw [HF.out]; simp [*])), (Below.refl _ _).alloc (Nat.le_refl _) _⟩
  by_cases h4 : k = 4
  · subst h4
    go_enter Try.func18, Try.ntmps18
    go_wp2_with (go_at_call 14; refine (name_any _ _ hc').mono ?_; rintro e w' ⟨rfl, rfl⟩)
    go_ret
    exact ⟨rfl, (Below.refl _ _).alloc (Nat.le_refl _) _⟩
  have HF : Hid (rightB k c = false) := Lib.hid (by
    unfold rightB
    rw [if_neg h4, decide_eq_false (by omega)]; rfl)
  replace h1 : (k == 1) = false := by rw [beq_eq_false_iff_ne]; exact h1
  replace h2 : (k == 2) = false := by rw [beq_eq_false_iff_ne]; exact h2
  replace h3 : (k == 3) = false := by rw [beq_eq_false_iff_ne]; exact h3
  replace h5 : (k == 5) = false := by rw [beq_eq_false_iff_ne]; exact h5
  replace h4 : (k == 4) = false := by rw [beq_eq_false_iff_ne]; exact h4
  go_enter Try.func18, Try.ntmps18
  go_wp2
  go_ret
  exact ⟨ret_bool HF.out.symm, (Below.refl _ _).alloc (Nat.le_refl _) _⟩

set_option maxHeartbeats 400000 in
theorem rright_any (k : Int) (c : ByteArray) (w : World) (hc : c.size ≤ 4294967280) :
    Calls Try.prog 19 #[.agg #[.int .i64 k, .string c]] w fun e w' => e = .returned (.bool (rightB k c)) ∧ Below w.heap.size w w' := by
  have hc' : c.size ≤ maxLen := by unfold maxLen; omega
  have hce : (decide (c.size = 0)) = c.toList.isEmpty := by
    by_cases h0 : c.size = 0
    · rw [decide_eq_true h0, Lib.toList_data]
      have := Lib.size_eq c
      rw [List.eq_nil_of_length_eq_zero (l := c.data.toList) (by omega)]; rfl
    · rw [decide_eq_false h0, isEmpty_ne (by omega)]
  have HE := Lib.hid hce
  clear hce
  by_cases h1 : k = 1
  · subst h1
    have HF : Hid (rightB 1 c = c.toList.isEmpty) := Lib.hid (by unfold rightB; rw [if_neg (by decide), HE.out]; rfl)
    go_enter Try.func19, Try.ntmps19
    go_wp2
    all_goals go_ret
    all_goals exact ⟨ret_bool (by first | exact HF.out.symm | (rw [HF.out]; simp [*])), (Below.refl _ _).alloc (Nat.le_refl _) _⟩
  by_cases h2 : k = 2
  · subst h2
    have HF : Hid (rightB 2 c = c.toList.isEmpty) := Lib.hid (by unfold rightB; rw [if_neg (by decide), HE.out]; rfl)
    go_enter Try.func19, Try.ntmps19
    go_wp2
    all_goals go_ret
    all_goals exact ⟨ret_bool (by first | exact HF.out.symm | (rw [HF.out]; simp [*])), (Below.refl _ _).alloc (Nat.le_refl _) _⟩
  by_cases h3 : k = 3
  · subst h3
    have HF : Hid (rightB 3 c = c.toList.isEmpty) := Lib.hid (by unfold rightB; rw [if_neg (by decide), HE.out]; rfl)
    go_enter Try.func19, Try.ntmps19
    go_wp2
    all_goals go_ret
    all_goals exact ⟨ret_bool (by first | exact HF.out.symm | (rw [HF.out]; simp [*])), (Below.refl _ _).alloc (Nat.le_refl _) _⟩
  by_cases h5 : k = 5
  · subst h5
    have HF : Hid (rightB 5 c = c.toList.isEmpty) := Lib.hid (by unfold rightB; rw [if_neg (by decide), HE.out]; rfl)
    go_enter Try.func19, Try.ntmps19
    go_wp2
    all_goals go_ret
    all_goals exact ⟨ret_bool (by first | exact HF.out.symm | (rw [HF.out]; simp [*])), (Below.refl _ _).alloc (Nat.le_refl _) _⟩
  by_cases h4 : k = 4
  · subst h4
    go_enter Try.func19, Try.ntmps19
    go_wp2_with (go_at_call 15; refine (rname_any _ _ hc').mono ?_; rintro e w' ⟨rfl, rfl⟩)
    go_ret
    exact ⟨rfl, (Below.refl _ _).alloc (Nat.le_refl _) _⟩
  have HF : Hid (rightB k c = false) := Lib.hid (by
    unfold rightB
    rw [if_neg h4, decide_eq_false (by omega)]; rfl)
  have h4' : (k == 4) = false := by rw [beq_eq_false_iff_ne]; exact h4
  by_cases hlo : 1 ≤ k
  · have hhi : 5 < k := by omega
    clear h1 h2 h3 h5 h4
    go_enter Try.func19, Try.ntmps19
    go_wp2
    go_ret
    exact ⟨ret_bool HF.out.symm, (Below.refl _ _).alloc (Nat.le_refl _) _⟩
  · have hlo' : k < 1 := by omega
    clear h1 h2 h3 h5 h4 hlo
    go_enter Try.func19, Try.ntmps19
    go_wp2
    go_ret
    exact ⟨ret_bool HF.out.symm, (Below.refl _ _).alloc (Nat.le_refl _) _⟩

end Go.Proofs.Ytijbgbggmakfoaa
