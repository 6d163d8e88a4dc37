/- The law OpNames walked. -/
import Derived.Test.YtibciicpgjgjbaaDoorOKnown
namespace Go.Proofs.YtibciicpgjgjbaaDoor
open Go.RowKit

theorem opname_none (o : Int) (w : World) (ht : Tab w) (h : o ≤ 0 ∨ 44 ≤ o) :
    Calls Tryd.prog 8 #[.int .i64 o] w fun e w' => e = .returned (.string ⟨#[]⟩) ∧ w = w' := by
  have := opname_any o w ht
  rw [opName_out (by unfold knownB; rw [decide_eq_false_iff_not]; omega)] at this
  exact this

theorem opName_long {n : Nat} (h : n < 43) : 1 < (opName ((n : Int) + 1)).size := by
  have := opName_in (n := n + 1) (by omega) (by omega)
  rw [show ((n : Int) + 1) = ((n + 1 : Nat) : Int) by omega, this]
  have all : ((List.range 43).all fun n => decide (1 < (tabL.getD (n + 1) ⟨#[]⟩).size)) = true := by kernel_rfl
  exact of_decide_eq_true (List.all_eq_true.1 all n (List.mem_range.2 h))

theorem opName_one {n m : Nat} (h : n < 43) (h' : m < 43) (e : (opName ((n : Int) + 1)).toList = (opName ((m : Int) + 1)).toList) : n = m := by
  have e1 := opName_in (n := n + 1) (by omega) (by omega)
  have e2 := opName_in (n := m + 1) (by omega) (by omega)
  rw [show ((n : Int) + 1) = ((n + 1 : Nat) : Int) by omega, show ((m : Int) + 1) = ((m + 1 : Nat) : Int) by omega, e1, e2] at e
  have e3 := congrArg (fun b : ByteArray => b.data.toList) (str_ext e)
  have all : ((List.range 43).all fun n => (List.range 43).all fun m => n == m || (tabL.getD (n + 1) ⟨#[]⟩).data.toList != (tabL.getD (m + 1) ⟨#[]⟩).data.toList) = true := by kernel_rfl
  have := List.all_eq_true.1 (List.all_eq_true.1 all n (List.mem_range.2 h)) m (List.mem_range.2 h')
  simp only [Bool.or_eq_true, beq_iff_eq, bne_iff_ne, ne_eq] at this
  rcases this with h | h
  · exact h
  · exact absurd e3 h

theorem jumps_uses {o : Int} (h : jumpsB o = true) : usesI o = 3 := by
  unfold jumpsB at h
  simp only [decide_eq_true_eq] at h
  rcases h with rfl | rfl <;> rfl
theorem ends_calls {o : Int} (h : endsB o = true) : callsB o = false := by
  unfold endsB at h
  simp only [decide_eq_true_eq] at h
  rw [callsB_eq, decide_eq_false_iff_not]
  omega
theorem calls_uses (o : Int) : (callsB o == (usesI o == 5)) = true := by
  unfold callsB
  rw [beq_iff_eq, Bool.eq_iff_iff]; simp

set_option maxHeartbeats 8000000 in
theorem names_law (a b : Int) (w : World) (ht : Tab w) (hg : Glob w) (ha0 : 0 ≤ a) (_ : a ≤ 255) (hb0 : 0 ≤ b) (_ : b ≤ 255) :
    Calls Tryd.prog 5 #[.int .u8 a, .int .u8 b] w fun e w' => e = .returned (.bool true) ∧ Below w.heap.size w w' := by
  obtain ⟨n, hn, hn1⟩ : ∃ n : Nat, a.tmod 43 = n ∧ n < 43 := ⟨(a % 43).toNat, by rw [Int.tmod_eq_emod_of_nonneg ha0]; omega, by omega⟩
  obtain ⟨m, hm, hm1⟩ : ∃ m : Nat, b.tmod 43 = m ∧ m < 43 := ⟨(b % 43).toNat, by rw [Int.tmod_eq_emod_of_nonneg hb0]; omega, by omega⟩
  have hl : (1 : Int) < ((opName ((n : Int) + 1)).size : Int) := by have := opName_long hn1; omega
  have hce := calls_uses ((n : Int) + 1)
  have hone := @opName_one n m hn1 hm1
  have HO := Lib.hid hone
  clear hone
  go_enter Tryd.func5, Tryd.ntmps5
  go_wp2_with fail
  refine (known_any _ ht hg).mono ?_
  rintro e w1 ⟨rfl, hk1⟩
  have ht1 := ht.below hk1 (Nat.le_refl _)
  clear ht hg
  by_cases hnm : n = m
  · subst hnm
    cases hj : jumpsB ((n : Int) + 1) with
    | false =>
      cases he : endsB ((n : Int) + 1)
      · skip
        go_wp2_with fail
        refine (opname_any _ _ ht1).mono ?_
        rintro e w' ⟨rfl, rfl⟩
        go_wp2_with fail
        refine (opname_any _ _ ht1).mono ?_
        rintro e w' ⟨rfl, rfl⟩
        go_wp2_with fail
        refine (opname_any _ _ ht1).mono ?_
        rintro e w' ⟨rfl, rfl⟩
        go_wp2_with fail
        refine (opname_none _ _ ht1 (by omega)).mono ?_
        rintro e w' ⟨rfl, rfl⟩
        go_wp2_with fail
        refine (opname_none _ _ ht1 (by omega)).mono ?_
        rintro e w' ⟨rfl, rfl⟩
        go_wp2_with fail
        refine (jumps_any _ _).mono ?_
        rintro e w' ⟨rfl, rfl⟩
        go_wp2_with fail
        refine (calls_any _ _).mono ?_
        rintro e w' ⟨rfl, rfl⟩
        go_wp2_with fail
        refine (uses_any _ _).mono ?_
        rintro e w' ⟨rfl, rfl⟩
        go_wp2_with fail
        refine (ends_any _ _).mono ?_
        rintro e w' ⟨rfl, rfl⟩
        go_wp2_with fail
        go_ret
        exact ⟨ret_bool (by first | rfl | simp [*]), hk1⟩
      · skip
        have hc := ends_calls he
        have hu5 : (usesI ((n : Int) + 1) == 5) = false := by rw [hc] at hce; simpa using hce
        go_wp2_with fail
        refine (opname_any _ _ ht1).mono ?_
        rintro e w' ⟨rfl, rfl⟩
        go_wp2_with fail
        refine (opname_any _ _ ht1).mono ?_
        rintro e w' ⟨rfl, rfl⟩
        go_wp2_with fail
        refine (opname_any _ _ ht1).mono ?_
        rintro e w' ⟨rfl, rfl⟩
        go_wp2_with fail
        refine (opname_none _ _ ht1 (by omega)).mono ?_
        rintro e w' ⟨rfl, rfl⟩
        go_wp2_with fail
        refine (opname_none _ _ ht1 (by omega)).mono ?_
        rintro e w' ⟨rfl, rfl⟩
        go_wp2_with fail
        refine (jumps_any _ _).mono ?_
        rintro e w' ⟨rfl, rfl⟩
        go_wp2_with fail
        refine (calls_any _ _).mono ?_
        rintro e w' ⟨rfl, rfl⟩
        go_wp2_with fail
        refine (uses_any _ _).mono ?_
        rintro e w' ⟨rfl, rfl⟩
        go_wp2_with fail
        refine (ends_any _ _).mono ?_
        rintro e w' ⟨rfl, rfl⟩
        go_wp2_with fail
        refine (calls_any _ _).mono ?_
        rintro e w' ⟨rfl, rfl⟩
        go_wp2_with fail
        go_ret
        exact ⟨ret_bool (by first | rfl | simp [*]), hk1⟩
        | true =>
      have hu := jumps_uses hj
      have hc : callsB ((n : Int) + 1) = false := by unfold callsB; rw [hu]; rfl
      cases he : endsB ((n : Int) + 1)
      · skip
        go_wp2_with fail
        refine (opname_any _ _ ht1).mono ?_
        rintro e w' ⟨rfl, rfl⟩
        go_wp2_with fail
        refine (opname_any _ _ ht1).mono ?_
        rintro e w' ⟨rfl, rfl⟩
        go_wp2_with fail
        refine (opname_any _ _ ht1).mono ?_
        rintro e w' ⟨rfl, rfl⟩
        go_wp2_with fail
        refine (opname_none _ _ ht1 (by omega)).mono ?_
        rintro e w' ⟨rfl, rfl⟩
        go_wp2_with fail
        refine (opname_none _ _ ht1 (by omega)).mono ?_
        rintro e w' ⟨rfl, rfl⟩
        go_wp2_with fail
        refine (jumps_any _ _).mono ?_
        rintro e w' ⟨rfl, rfl⟩
        go_wp2_with fail
        refine (uses_any _ _).mono ?_
        rintro e w' ⟨rfl, rfl⟩
        go_wp2_with fail
        refine (calls_any _ _).mono ?_
        rintro e w' ⟨rfl, rfl⟩
        go_wp2_with fail
        refine (uses_any _ _).mono ?_
        rintro e w' ⟨rfl, rfl⟩
        go_wp2_with fail
        refine (ends_any _ _).mono ?_
        rintro e w' ⟨rfl, rfl⟩
        go_wp2_with fail
        go_ret
        exact ⟨ret_bool (by first | rfl | simp [*]), hk1⟩
      · skip
        go_wp2_with fail
        refine (opname_any _ _ ht1).mono ?_
        rintro e w' ⟨rfl, rfl⟩
        go_wp2_with fail
        refine (opname_any _ _ ht1).mono ?_
        rintro e w' ⟨rfl, rfl⟩
        go_wp2_with fail
        refine (opname_any _ _ ht1).mono ?_
        rintro e w' ⟨rfl, rfl⟩
        go_wp2_with fail
        refine (opname_none _ _ ht1 (by omega)).mono ?_
        rintro e w' ⟨rfl, rfl⟩
        go_wp2_with fail
        refine (opname_none _ _ ht1 (by omega)).mono ?_
        rintro e w' ⟨rfl, rfl⟩
        go_wp2_with fail
        refine (jumps_any _ _).mono ?_
        rintro e w' ⟨rfl, rfl⟩
        go_wp2_with fail
        refine (uses_any _ _).mono ?_
        rintro e w' ⟨rfl, rfl⟩
        go_wp2_with fail
        refine (calls_any _ _).mono ?_
        rintro e w' ⟨rfl, rfl⟩
        go_wp2_with fail
        refine (uses_any _ _).mono ?_
        rintro e w' ⟨rfl, rfl⟩
        go_wp2_with fail
        refine (ends_any _ _).mono ?_
        rintro e w' ⟨rfl, rfl⟩
        go_wp2_with fail
        refine (calls_any _ _).mono ?_
        rintro e w' ⟨rfl, rfl⟩
        go_wp2_with fail
        go_ret
        exact ⟨ret_bool (by first | rfl | simp [*]), hk1⟩
  · have x1 : ((n : Int) == (m : Int)) = false := by rw [beq_eq_false_iff_ne]; omega
    have x2 : ((n : Int) + 1 == (m : Int) + 1) = false := by rw [beq_eq_false_iff_ne]; omega
    have x3 : ¬ (n : Int) = (m : Int) := by omega
    have x4 : ¬ (opName ((n : Int) + 1)).toList = (opName ((m : Int) + 1)).toList := fun e => hnm (HO.out e)
    have x5 : ((opName ((n : Int) + 1)).toList == (opName ((m : Int) + 1)).toList) = false := by rw [beq_eq_false_iff_ne]; exact x4
    have x6 : ¬ n = m := hnm
    cases hj : jumpsB ((n : Int) + 1) with
    | false =>
      cases he : endsB ((n : Int) + 1)
      · skip
        go_wp2_with fail
        refine (opname_any _ _ ht1).mono ?_
        rintro e w' ⟨rfl, rfl⟩
        go_wp2_with fail
        refine (opname_any _ _ ht1).mono ?_
        rintro e w' ⟨rfl, rfl⟩
        go_wp2_with fail
        refine (opname_any _ _ ht1).mono ?_
        rintro e w' ⟨rfl, rfl⟩
        go_wp2_with fail
        refine (opname_none _ _ ht1 (by omega)).mono ?_
        rintro e w' ⟨rfl, rfl⟩
        go_wp2_with fail
        refine (opname_none _ _ ht1 (by omega)).mono ?_
        rintro e w' ⟨rfl, rfl⟩
        go_wp2_with fail
        refine (jumps_any _ _).mono ?_
        rintro e w' ⟨rfl, rfl⟩
        go_wp2_with fail
        refine (calls_any _ _).mono ?_
        rintro e w' ⟨rfl, rfl⟩
        go_wp2_with fail
        refine (uses_any _ _).mono ?_
        rintro e w' ⟨rfl, rfl⟩
        go_wp2_with fail
        refine (ends_any _ _).mono ?_
        rintro e w' ⟨rfl, rfl⟩
        go_wp2_with fail
        go_ret
        exact ⟨ret_bool (by first | rfl | simp [*]), hk1⟩
      · skip
        have hc := ends_calls he
        have hu5 : (usesI ((n : Int) + 1) == 5) = false := by rw [hc] at hce; simpa using hce
        go_wp2_with fail
        refine (opname_any _ _ ht1).mono ?_
        rintro e w' ⟨rfl, rfl⟩
        go_wp2_with fail
        refine (opname_any _ _ ht1).mono ?_
        rintro e w' ⟨rfl, rfl⟩
        go_wp2_with fail
        refine (opname_any _ _ ht1).mono ?_
        rintro e w' ⟨rfl, rfl⟩
        go_wp2_with fail
        refine (opname_none _ _ ht1 (by omega)).mono ?_
        rintro e w' ⟨rfl, rfl⟩
        go_wp2_with fail
        refine (opname_none _ _ ht1 (by omega)).mono ?_
        rintro e w' ⟨rfl, rfl⟩
        go_wp2_with fail
        refine (jumps_any _ _).mono ?_
        rintro e w' ⟨rfl, rfl⟩
        go_wp2_with fail
        refine (calls_any _ _).mono ?_
        rintro e w' ⟨rfl, rfl⟩
        go_wp2_with fail
        refine (uses_any _ _).mono ?_
        rintro e w' ⟨rfl, rfl⟩
        go_wp2_with fail
        refine (ends_any _ _).mono ?_
        rintro e w' ⟨rfl, rfl⟩
        go_wp2_with fail
        refine (calls_any _ _).mono ?_
        rintro e w' ⟨rfl, rfl⟩
        go_wp2_with fail
        go_ret
        exact ⟨ret_bool (by first | rfl | simp [*]), hk1⟩
        | true =>
      have hu := jumps_uses hj
      have hc : callsB ((n : Int) + 1) = false := by unfold callsB; rw [hu]; rfl
      cases he : endsB ((n : Int) + 1)
      · skip
        go_wp2_with fail
        refine (opname_any _ _ ht1).mono ?_
        rintro e w' ⟨rfl, rfl⟩
        go_wp2_with fail
        refine (opname_any _ _ ht1).mono ?_
        rintro e w' ⟨rfl, rfl⟩
        go_wp2_with fail
        refine (opname_any _ _ ht1).mono ?_
        rintro e w' ⟨rfl, rfl⟩
        go_wp2_with fail
        refine (opname_none _ _ ht1 (by omega)).mono ?_
        rintro e w' ⟨rfl, rfl⟩
        go_wp2_with fail
        refine (opname_none _ _ ht1 (by omega)).mono ?_
        rintro e w' ⟨rfl, rfl⟩
        go_wp2_with fail
        refine (jumps_any _ _).mono ?_
        rintro e w' ⟨rfl, rfl⟩
        go_wp2_with fail
        refine (uses_any _ _).mono ?_
        rintro e w' ⟨rfl, rfl⟩
        go_wp2_with fail
        refine (calls_any _ _).mono ?_
        rintro e w' ⟨rfl, rfl⟩
        go_wp2_with fail
        refine (uses_any _ _).mono ?_
        rintro e w' ⟨rfl, rfl⟩
        go_wp2_with fail
        refine (ends_any _ _).mono ?_
        rintro e w' ⟨rfl, rfl⟩
        go_wp2_with fail
        go_ret
        exact ⟨ret_bool (by first | rfl | simp [*]), hk1⟩
      · skip
        go_wp2_with fail
        refine (opname_any _ _ ht1).mono ?_
        rintro e w' ⟨rfl, rfl⟩
        go_wp2_with fail
        refine (opname_any _ _ ht1).mono ?_
        rintro e w' ⟨rfl, rfl⟩
        go_wp2_with fail
        refine (opname_any _ _ ht1).mono ?_
        rintro e w' ⟨rfl, rfl⟩
        go_wp2_with fail
        refine (opname_none _ _ ht1 (by omega)).mono ?_
        rintro e w' ⟨rfl, rfl⟩
        go_wp2_with fail
        refine (opname_none _ _ ht1 (by omega)).mono ?_
        rintro e w' ⟨rfl, rfl⟩
        go_wp2_with fail
        refine (jumps_any _ _).mono ?_
        rintro e w' ⟨rfl, rfl⟩
        go_wp2_with fail
        refine (uses_any _ _).mono ?_
        rintro e w' ⟨rfl, rfl⟩
        go_wp2_with fail
        refine (calls_any _ _).mono ?_
        rintro e w' ⟨rfl, rfl⟩
        go_wp2_with fail
        refine (uses_any _ _).mono ?_
        rintro e w' ⟨rfl, rfl⟩
        go_wp2_with fail
        refine (ends_any _ _).mono ?_
        rintro e w' ⟨rfl, rfl⟩
        go_wp2_with fail
        refine (calls_any _ _).mono ?_
        rintro e w' ⟨rfl, rfl⟩
        go_wp2_with fail
        go_ret
        exact ⟨ret_bool (by first | rfl | simp [*]), hk1⟩

end Go.Proofs.YtibciicpgjgjbaaDoor
