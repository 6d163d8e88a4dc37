/- The law OpUses walked. -/
import Derived.Test.YtibciicpgjgjbaaDoorOKnown
import Derived.Laws.BitsLemmas
namespace Go.Proofs.YtibciicpgjgjbaaDoor
open Go.RowKit

theorem and1023 (n : Int) : bits .and .i64 n 1023 = n % 1024 := by
  have hm : (BitVec.ofInt 64 1023).toNat = 2 ^ 10 - 1 := by decide
  have e : (BitVec.ofInt 64 n &&& BitVec.ofInt 64 1023).toNat = (n % ((2 ^ 64 : Nat) : Int)).toNat % 2 ^ 10 := by
    rw [BitVec.toNat_and, BitVec.toNat_ofInt, hm, Nat.and_two_pow_sub_one_eq_mod]
  show IntKind.i64.wrap ((BitVec.ofInt 64 n &&& BitVec.ofInt 64 1023).toNat : Nat) = n % 1024
  rw [e, IntKind.wrap_i64]
  omega

theorem empty_iff (s : ByteArray) : s = ⟨#[]⟩ ↔ s.toList.isEmpty = true := by
  constructor
  · intro e; subst e; rw [Lib.toList_data]; rfl
  · intro e
    exact str_ext (by rw [List.isEmpty_iff.1 e, Lib.toList_data])

theorem ibox_at (w : World) (o n k : Int) (s c m d : ByteArray) :
    (w.alloc (.cells #[.int .i64 o, .int .i32 n, .int .i64 k, .string s, .string c, .string m, .string d] 29)).cell? ⟨w.heap.size, 0, none⟩ = some (.int .i64 o) ∧ (w.alloc (.cells #[.int .i64 o, .int .i32 n, .int .i64 k, .string s, .string c, .string m, .string d] 29)).cell? ⟨w.heap.size, 1, none⟩ = some (.int .i32 n) ∧ (w.alloc (.cells #[.int .i64 o, .int .i32 n, .int .i64 k, .string s, .string c, .string m, .string d] 29)).cell? ⟨w.heap.size, 2, none⟩ = some (.int .i64 k) ∧ (w.alloc (.cells #[.int .i64 o, .int .i32 n, .int .i64 k, .string s, .string c, .string m, .string d] 29)).cell? ⟨w.heap.size, 3, none⟩ = some (.string s) ∧ (w.alloc (.cells #[.int .i64 o, .int .i32 n, .int .i64 k, .string s, .string c, .string m, .string d] 29)).cell? ⟨w.heap.size, 4, none⟩ = some (.string c) ∧ (w.alloc (.cells #[.int .i64 o, .int .i32 n, .int .i64 k, .string s, .string c, .string m, .string d] 29)).cell? ⟨w.heap.size, 5, none⟩ = some (.string m) ∧ (w.alloc (.cells #[.int .i64 o, .int .i32 n, .int .i64 k, .string s, .string c, .string m, .string d] 29)).cell? ⟨w.heap.size, 6, none⟩ = some (.string d) := by
  have hb := heap_alloc_new w (.cells #[.int .i64 o, .int .i32 n, .int .i64 k, .string s, .string c, .string m, .string d] 29)
  exact ⟨Lib.cell_of_heap hb 0, Lib.cell_of_heap hb 1, Lib.cell_of_heap hb 2, Lib.cell_of_heap hb 3, Lib.cell_of_heap hb 4, Lib.cell_of_heap hb 5, Lib.cell_of_heap hb 6⟩
theorem ibox3y (w : World) (x z : Obj) (o n k : Int) (s c m d : ByteArray) :
    (((w.alloc x).alloc (.cells #[.int .i64 o, .int .i32 n, .int .i64 k, .string s, .string c, .string m, .string d] 29)).alloc z).cell? ⟨(w.heap.size + 1), 0, none⟩ = some (.int .i64 o) ∧ (((w.alloc x).alloc (.cells #[.int .i64 o, .int .i32 n, .int .i64 k, .string s, .string c, .string m, .string d] 29)).alloc z).cell? ⟨(w.heap.size + 1), 1, none⟩ = some (.int .i32 n) ∧ (((w.alloc x).alloc (.cells #[.int .i64 o, .int .i32 n, .int .i64 k, .string s, .string c, .string m, .string d] 29)).alloc z).cell? ⟨(w.heap.size + 1), 2, none⟩ = some (.int .i64 k) ∧ (((w.alloc x).alloc (.cells #[.int .i64 o, .int .i32 n, .int .i64 k, .string s, .string c, .string m, .string d] 29)).alloc z).cell? ⟨(w.heap.size + 1), 3, none⟩ = some (.string s) ∧ (((w.alloc x).alloc (.cells #[.int .i64 o, .int .i32 n, .int .i64 k, .string s, .string c, .string m, .string d] 29)).alloc z).cell? ⟨(w.heap.size + 1), 4, none⟩ = some (.string c) ∧ (((w.alloc x).alloc (.cells #[.int .i64 o, .int .i32 n, .int .i64 k, .string s, .string c, .string m, .string d] 29)).alloc z).cell? ⟨(w.heap.size + 1), 5, none⟩ = some (.string m) ∧ (((w.alloc x).alloc (.cells #[.int .i64 o, .int .i32 n, .int .i64 k, .string s, .string c, .string m, .string d] 29)).alloc z).cell? ⟨(w.heap.size + 1), 6, none⟩ = some (.string d) := by
  have h := ibox_at (w.alloc x) o n k s c m d
  rw [show (w.alloc x).heap.size = w.heap.size + 1 by simp] at h
  exact ibox_next h (by simp) ((Below.refl _ _).alloc (Nat.le_refl _) z)
theorem ibox3z (w : World) (x y : Obj) (o n k : Int) (s c m d : ByteArray) :
    (((w.alloc x).alloc y).alloc (.cells #[.int .i64 o, .int .i32 n, .int .i64 k, .string s, .string c, .string m, .string d] 29)).cell? ⟨(w.heap.size + 1 + 1), 0, none⟩ = some (.int .i64 o) ∧ (((w.alloc x).alloc y).alloc (.cells #[.int .i64 o, .int .i32 n, .int .i64 k, .string s, .string c, .string m, .string d] 29)).cell? ⟨(w.heap.size + 1 + 1), 1, none⟩ = some (.int .i32 n) ∧ (((w.alloc x).alloc y).alloc (.cells #[.int .i64 o, .int .i32 n, .int .i64 k, .string s, .string c, .string m, .string d] 29)).cell? ⟨(w.heap.size + 1 + 1), 2, none⟩ = some (.int .i64 k) ∧ (((w.alloc x).alloc y).alloc (.cells #[.int .i64 o, .int .i32 n, .int .i64 k, .string s, .string c, .string m, .string d] 29)).cell? ⟨(w.heap.size + 1 + 1), 3, none⟩ = some (.string s) ∧ (((w.alloc x).alloc y).alloc (.cells #[.int .i64 o, .int .i32 n, .int .i64 k, .string s, .string c, .string m, .string d] 29)).cell? ⟨(w.heap.size + 1 + 1), 4, none⟩ = some (.string c) ∧ (((w.alloc x).alloc y).alloc (.cells #[.int .i64 o, .int .i32 n, .int .i64 k, .string s, .string c, .string m, .string d] 29)).cell? ⟨(w.heap.size + 1 + 1), 5, none⟩ = some (.string m) ∧ (((w.alloc x).alloc y).alloc (.cells #[.int .i64 o, .int .i32 n, .int .i64 k, .string s, .string c, .string m, .string d] 29)).cell? ⟨(w.heap.size + 1 + 1), 6, none⟩ = some (.string d) := by
  have h := ibox_at ((w.alloc x).alloc y) o n k s c m d
  rw [show ((w.alloc x).alloc y).heap.size = w.heap.size + 1 + 1 by simp] at h
  exact h

theorem nA : nameB ⟨#[65]⟩ = true := by kernel_rfl
theorem nM : nameB ⟨#[109]⟩ = true := by kernel_rfl
theorem nE : nameB ⟨#[]⟩ = false := by kernel_rfl
theorem pD : parsesB ⟨#[40, 41, 86]⟩ = true := by kernel_rfl
theorem ne1 : ¬ (⟨#[65]⟩ : ByteArray) = ⟨#[]⟩ := by decide
theorem ne2 : ¬ (⟨#[109]⟩ : ByteArray) = ⟨#[]⟩ := by decide
theorem ne3 : ¬ (⟨#[40, 41, 86]⟩ : ByteArray) = ⟨#[]⟩ := by decide

theorem ry0 {o n k : Int} {s : ByteArray} (hk : knownB o = true) (hu : usesI o = 0) : rightI (o, n, k, s, ⟨#[]⟩, ⟨#[]⟩, ⟨#[]⟩) = (decide (n = 0) && decide (k = 0) && s.toList.isEmpty) := by
  rw [Bool.eq_iff_iff]
  simp [rightI, usedI, withinB, hu, hk, empty_iff s, and_assoc]
theorem rx0 {o : Int} (hk : knownB o = true) (hu : usesI o = 0) : rightI (o, 0, 0, ⟨#[]⟩, ⟨#[65]⟩, ⟨#[109]⟩, ⟨#[40, 41, 86]⟩) = false := by
  simp [rightI, usedI, withinB, hu, hk]
theorem rz0 {o : Int} (hk : knownB o = true) (hu : usesI o = 0) : rightI (o, 0, 0, ⟨#[]⟩, ⟨#[]⟩, ⟨#[]⟩, ⟨#[]⟩) = true := by
  simp [rightI, usedI, withinB, hu, hk]

theorem ry1 {o n k : Int} {s : ByteArray} (hk : knownB o = true) (hu : usesI o = 1) : rightI (o, n, k, s, ⟨#[]⟩, ⟨#[]⟩, ⟨#[]⟩) = (decide (k = 0) && s.toList.isEmpty) := by
  rw [Bool.eq_iff_iff]
  simp [rightI, usedI, withinB, hu, hk, empty_iff s]
theorem rx1 {o : Int} (hk : knownB o = true) (hu : usesI o = 1) : rightI (o, 0, 0, ⟨#[]⟩, ⟨#[65]⟩, ⟨#[109]⟩, ⟨#[40, 41, 86]⟩) = false := by
  simp [rightI, usedI, withinB, hu, hk]
theorem rz1 {o : Int} (hk : knownB o = true) (hu : usesI o = 1) : rightI (o, 0, 0, ⟨#[]⟩, ⟨#[]⟩, ⟨#[]⟩, ⟨#[]⟩) = true := by
  simp [rightI, usedI, withinB, hu, hk]

theorem ry2 {o n k : Int} {s : ByteArray} (hk : knownB o = true) (hu : usesI o = 2) (hs : s.size ≤ 100) : rightI (o, n, k, s, ⟨#[]⟩, ⟨#[]⟩, ⟨#[]⟩) = (decide (n = 0) && decide (k = 0)) := by
  rw [Bool.eq_iff_iff]
  simp [rightI, usedI, withinB, hu, hk]; omega
theorem rx2 {o : Int} (hk : knownB o = true) (hu : usesI o = 2) : rightI (o, 0, 0, ⟨#[]⟩, ⟨#[65]⟩, ⟨#[109]⟩, ⟨#[40, 41, 86]⟩) = false := by
  simp [rightI, usedI, withinB, hu, hk]
theorem rz2 {o : Int} (hk : knownB o = true) (hu : usesI o = 2) : rightI (o, 0, 0, ⟨#[]⟩, ⟨#[]⟩, ⟨#[]⟩, ⟨#[]⟩) = true := by
  simp [rightI, usedI, withinB, hu, hk]; decide

theorem ry3 {o n k : Int} {s : ByteArray} (hk : knownB o = true) (hu : usesI o = 3) (k0 : 0 ≤ k) (k1 : k ≤ 1023) : rightI (o, n, k, s, ⟨#[]⟩, ⟨#[]⟩, ⟨#[]⟩) = (decide (n = 0) && s.toList.isEmpty) := by
  rw [Bool.eq_iff_iff]
  simp [rightI, usedI, withinB, hu, hk, empty_iff s]; omega
theorem rx3 {o : Int} (hk : knownB o = true) (hu : usesI o = 3) : rightI (o, 0, 0, ⟨#[]⟩, ⟨#[65]⟩, ⟨#[109]⟩, ⟨#[40, 41, 86]⟩) = false := by
  simp [rightI, usedI, withinB, hu, hk]
theorem rz3 {o : Int} (hk : knownB o = true) (hu : usesI o = 3) : rightI (o, 0, 0, ⟨#[]⟩, ⟨#[]⟩, ⟨#[]⟩, ⟨#[]⟩) = true := by
  simp [rightI, usedI, withinB, hu, hk]

theorem ry4 {o n k : Int} {s : ByteArray} (hk : knownB o = true) (hu : usesI o = 4) : rightI (o, n, k, s, ⟨#[]⟩, ⟨#[]⟩, ⟨#[]⟩) = (false) := by
  rw [Bool.eq_iff_iff]
  simp [rightI, usedI, withinB, hu, hk, nE]
theorem rx4 {o : Int} (hk : knownB o = true) (hu : usesI o = 4) : rightI (o, 0, 0, ⟨#[]⟩, ⟨#[65]⟩, ⟨#[109]⟩, ⟨#[40, 41, 86]⟩) = false := by
  simp [rightI, usedI, withinB, hu, hk]
theorem rz4 {o : Int} (hk : knownB o = true) (hu : usesI o = 4) : rightI (o, 0, 0, ⟨#[]⟩, ⟨#[65]⟩, ⟨#[109]⟩, ⟨#[]⟩) = true := by
  simp [rightI, usedI, withinB, hu, hk, nA, nM]

theorem ry5 {o n k : Int} {s : ByteArray} (hk : knownB o = true) (hu : usesI o = 5) : rightI (o, n, k, s, ⟨#[]⟩, ⟨#[]⟩, ⟨#[]⟩) = (false) := by
  rw [Bool.eq_iff_iff]
  simp [rightI, usedI, withinB, hu, hk, nE]
theorem rx5 {o : Int} (hk : knownB o = true) (hu : usesI o = 5) : rightI (o, 0, 0, ⟨#[]⟩, ⟨#[65]⟩, ⟨#[109]⟩, ⟨#[40, 41, 86]⟩) = true := by
  simp [rightI, usedI, withinB, hu, hk, nA, nM, pD]
theorem rz5 {o : Int} (hk : knownB o = true) (hu : usesI o = 5) : rightI (o, 0, 0, ⟨#[]⟩, ⟨#[65]⟩, ⟨#[109]⟩, ⟨#[40, 41, 86]⟩) = true := by
  simp [rightI, usedI, withinB, hu, hk, nA, nM, pD]

theorem ry6 {o n k : Int} {s : ByteArray} (hk : knownB o = true) (hu : usesI o = 6) : rightI (o, n, k, s, ⟨#[]⟩, ⟨#[]⟩, ⟨#[]⟩) = (false) := by
  rw [Bool.eq_iff_iff]
  simp [rightI, usedI, withinB, hu, hk, nE]
theorem rx6 {o : Int} (hk : knownB o = true) (hu : usesI o = 6) : rightI (o, 0, 0, ⟨#[]⟩, ⟨#[65]⟩, ⟨#[109]⟩, ⟨#[40, 41, 86]⟩) = false := by
  simp [rightI, usedI, withinB, hu, hk]
theorem rz6 {o : Int} (hk : knownB o = true) (hu : usesI o = 6) : rightI (o, 0, 0, ⟨#[]⟩, ⟨#[65]⟩, ⟨#[]⟩, ⟨#[]⟩) = true := by
  simp [rightI, usedI, withinB, hu, hk, nA]

theorem usesI_seven (o : Int) : usesI o = 0 ∨ usesI o = 1 ∨ usesI o = 2 ∨ usesI o = 3 ∨ usesI o = 4 ∨ usesI o = 5 ∨ usesI o = 6 := by
  unfold usesI; omega

set_option maxHeartbeats 4000000 in
theorem uses_law0_0 (a : Int) (n : Int) (k : Int) (kk : Int) (s : ByteArray) (w : World) (ht : Tab w) (hg : Glob w) (o : Nat) (ho : a.tmod 43 = o) (ho1 : o < 43) (hs : s.size ≤ 100) (hu : usesI ((o : Int) + 1) = 0) (hkk : bits .and .i64 k 1023 = kk) (hn : ¬ n = 0) :
    Calls Tryd.prog 6 #[.int .u8 a, .int .i32 n, .int .i64 k, .string s] w fun e w' => e = .returned (.bool true) ∧ Below w.heap.size w w' := by
  have hkn : knownB ((o : Int) + 1) = true := by unfold knownB; rw [decide_eq_true_eq]; omega
  have rx := rx0 hkn hu
  have rz := rz0 hkn hu
  have n1 : (n == 0) = false := by rw [beq_eq_false_iff_ne]; exact hn
  have ry : rightI (((o : Int) + 1), n, kk, s, ⟨#[]⟩, ⟨#[]⟩, ⟨#[]⟩) = false := by
    rw [ry0 hkn hu]; (first | rfl | simp [*])
  clear hkn
  go_enter Tryd.func6, Tryd.ntmps6
  simp only [List.append_eq, List.cons_append, List.nil_append]
  go_wp2_with fail
  refine (known_any _ ht hg).mono ?_
  rintro e w1 ⟨rfl, hb1⟩
  go_wp2_with fail
  refine (uses_any _ _).mono ?_
  rintro e w' ⟨rfl, rfl⟩
  go_wp2_with fail
  have hs1 := hb1.size
  have hB3 : Below w.heap.size w (((w1.alloc (.cells #[.int .i64 ((o : Int) + 1), .int .i32 0, .int .i64 0, .string ⟨#[]⟩, .string ⟨#[65]⟩, .string ⟨#[109]⟩, .string ⟨#[40, 41, 86]⟩] 29)).alloc (.cells #[.int .i64 ((o : Int) + 1), .int .i32 n, .int .i64 kk, .string s, .string ⟨#[]⟩, .string ⟨#[]⟩, .string ⟨#[]⟩] 29)).alloc (.cells #[.int .i64 ((o : Int) + 1), .int .i32 0, .int .i64 0, .string ⟨#[]⟩, .string ⟨#[]⟩, .string ⟨#[]⟩, .string ⟨#[]⟩] 29)) := ((hb1.alloc hs1 _).alloc (by simp; omega) _).alloc (by simp; omega) _
  have hg3 := hg.below hB3 (Nat.le_refl _)
  have hy3 := ibox3y w1 (.cells #[.int .i64 ((o : Int) + 1), .int .i32 0, .int .i64 0, .string ⟨#[]⟩, .string ⟨#[65]⟩, .string ⟨#[109]⟩, .string ⟨#[40, 41, 86]⟩] 29) (.cells #[.int .i64 ((o : Int) + 1), .int .i32 0, .int .i64 0, .string ⟨#[]⟩, .string ⟨#[]⟩, .string ⟨#[]⟩, .string ⟨#[]⟩] 29) ((o : Int) + 1) n kk s ⟨#[]⟩ ⟨#[]⟩ ⟨#[]⟩
  have hz3 := ibox3z w1 (.cells #[.int .i64 ((o : Int) + 1), .int .i32 0, .int .i64 0, .string ⟨#[]⟩, .string ⟨#[65]⟩, .string ⟨#[109]⟩, .string ⟨#[40, 41, 86]⟩] 29) (.cells #[.int .i64 ((o : Int) + 1), .int .i32 n, .int .i64 kk, .string s, .string ⟨#[]⟩, .string ⟨#[]⟩, .string ⟨#[]⟩] 29) ((o : Int) + 1) 0 0 ⟨#[]⟩ ⟨#[]⟩ ⟨#[]⟩ ⟨#[]⟩
  refine (rightv_any _ _ _ _ _ _ _ _ hg3 (by decide) (by decide) (by decide)).mono ?_
  rintro e w4 ⟨rfl, hb4⟩
  have hy4 := ibox_next hy3 (by simp) hb4
  have hz4 := ibox_next hz3 (by simp) hb4
  have hs4 : w1.heap.size + 1 + 1 < w4.heap.size := Nat.lt_of_lt_of_le (by simp) hb4.size
  have hB4 := hB3.trans (hb4.mono hB3.size)
  have hg4 := hg.below hB4 (Nat.le_refl _)
  clear hy3 hz3 hg3 hb4 hB3
  go_wp2_with fail
  refine (rightv_any _ _ _ _ _ _ _ _ hg4 (by decide) (by decide) (by decide)).mono ?_
  rintro e w5 ⟨rfl, hb5⟩
  have hy5 := ibox_next hy4 (by omega) hb5
  have hB5 := hB4.trans (hb5.mono hB4.size)
  have hg5 := hg.below hB5 (Nat.le_refl _)
  clear hy4 hz4 hg4 hb5 hB4
  go_wp2_with fail
  refine (rightv_any _ _ _ _ _ _ _ _ hg5 (by decide) (by decide) (by decide)).mono ?_
  rintro e w6 ⟨rfl, hb6⟩
  have hB6 := hB5.trans (hb6.mono hB5.size)
  clear hy5 hg5 hb6 hB5 hs4 hs1
  go_wp2_with fail
  go_ret
  exact ⟨ret_bool (by first | rfl | simp [*]), hB6⟩

set_option maxHeartbeats 4000000 in
theorem uses_law0_1 (a : Int) (k : Int) (kk : Int) (s : ByteArray) (w : World) (ht : Tab w) (hg : Glob w) (o : Nat) (ho : a.tmod 43 = o) (ho1 : o < 43) (hs : s.size ≤ 100) (hu : usesI ((o : Int) + 1) = 0) (hkk : bits .and .i64 k 1023 = kk) (hkn0 : ¬ kk = 0) :
    Calls Tryd.prog 6 #[.int .u8 a, .int .i32 0, .int .i64 k, .string s] w fun e w' => e = .returned (.bool true) ∧ Below w.heap.size w w' := by
  have hkn : knownB ((o : Int) + 1) = true := by unfold knownB; rw [decide_eq_true_eq]; omega
  have rx := rx0 hkn hu
  have rz := rz0 hkn hu
  have k1 : (kk == 0) = false := by rw [beq_eq_false_iff_ne]; exact hkn0
  have ry : rightI (((o : Int) + 1), 0, kk, s, ⟨#[]⟩, ⟨#[]⟩, ⟨#[]⟩) = false := by
    rw [ry0 hkn hu]; (first | rfl | simp [*])
  clear hkn
  go_enter Tryd.func6, Tryd.ntmps6
  simp only [List.append_eq, List.cons_append, List.nil_append]
  go_wp2_with fail
  refine (known_any _ ht hg).mono ?_
  rintro e w1 ⟨rfl, hb1⟩
  go_wp2_with fail
  refine (uses_any _ _).mono ?_
  rintro e w' ⟨rfl, rfl⟩
  go_wp2_with fail
  have hs1 := hb1.size
  have hB3 : Below w.heap.size w (((w1.alloc (.cells #[.int .i64 ((o : Int) + 1), .int .i32 0, .int .i64 0, .string ⟨#[]⟩, .string ⟨#[65]⟩, .string ⟨#[109]⟩, .string ⟨#[40, 41, 86]⟩] 29)).alloc (.cells #[.int .i64 ((o : Int) + 1), .int .i32 0, .int .i64 kk, .string s, .string ⟨#[]⟩, .string ⟨#[]⟩, .string ⟨#[]⟩] 29)).alloc (.cells #[.int .i64 ((o : Int) + 1), .int .i32 0, .int .i64 0, .string ⟨#[]⟩, .string ⟨#[]⟩, .string ⟨#[]⟩, .string ⟨#[]⟩] 29)) := ((hb1.alloc hs1 _).alloc (by simp; omega) _).alloc (by simp; omega) _
  have hg3 := hg.below hB3 (Nat.le_refl _)
  have hy3 := ibox3y w1 (.cells #[.int .i64 ((o : Int) + 1), .int .i32 0, .int .i64 0, .string ⟨#[]⟩, .string ⟨#[65]⟩, .string ⟨#[109]⟩, .string ⟨#[40, 41, 86]⟩] 29) (.cells #[.int .i64 ((o : Int) + 1), .int .i32 0, .int .i64 0, .string ⟨#[]⟩, .string ⟨#[]⟩, .string ⟨#[]⟩, .string ⟨#[]⟩] 29) ((o : Int) + 1) 0 kk s ⟨#[]⟩ ⟨#[]⟩ ⟨#[]⟩
  have hz3 := ibox3z w1 (.cells #[.int .i64 ((o : Int) + 1), .int .i32 0, .int .i64 0, .string ⟨#[]⟩, .string ⟨#[65]⟩, .string ⟨#[109]⟩, .string ⟨#[40, 41, 86]⟩] 29) (.cells #[.int .i64 ((o : Int) + 1), .int .i32 0, .int .i64 kk, .string s, .string ⟨#[]⟩, .string ⟨#[]⟩, .string ⟨#[]⟩] 29) ((o : Int) + 1) 0 0 ⟨#[]⟩ ⟨#[]⟩ ⟨#[]⟩ ⟨#[]⟩
  refine (rightv_any _ _ _ _ _ _ _ _ hg3 (by decide) (by decide) (by decide)).mono ?_
  rintro e w4 ⟨rfl, hb4⟩
  have hy4 := ibox_next hy3 (by simp) hb4
  have hz4 := ibox_next hz3 (by simp) hb4
  have hs4 : w1.heap.size + 1 + 1 < w4.heap.size := Nat.lt_of_lt_of_le (by simp) hb4.size
  have hB4 := hB3.trans (hb4.mono hB3.size)
  have hg4 := hg.below hB4 (Nat.le_refl _)
  clear hy3 hz3 hg3 hb4 hB3
  go_wp2_with fail
  refine (rightv_any _ _ _ _ _ _ _ _ hg4 (by decide) (by decide) (by decide)).mono ?_
  rintro e w5 ⟨rfl, hb5⟩
  have hy5 := ibox_next hy4 (by omega) hb5
  have hB5 := hB4.trans (hb5.mono hB4.size)
  have hg5 := hg.below hB5 (Nat.le_refl _)
  clear hy4 hz4 hg4 hb5 hB4
  go_wp2_with fail
  refine (rightv_any _ _ _ _ _ _ _ _ hg5 (by decide) (by decide) (by decide)).mono ?_
  rintro e w6 ⟨rfl, hb6⟩
  have hB6 := hB5.trans (hb6.mono hB5.size)
  clear hy5 hg5 hb6 hB5 hs4 hs1
  go_wp2_with fail
  go_ret
  exact ⟨ret_bool (by first | rfl | simp [*]), hB6⟩

set_option maxHeartbeats 4000000 in
theorem uses_law0_2 (a : Int) (k : Int) (s : ByteArray) (w : World) (ht : Tab w) (hg : Glob w) (o : Nat) (ho : a.tmod 43 = o) (ho1 : o < 43) (hs : s.size ≤ 100) (hu : usesI ((o : Int) + 1) = 0) (hkk : bits .and .i64 k 1023 = 0) (hsn : ¬ s = ⟨#[]⟩) :
    Calls Tryd.prog 6 #[.int .u8 a, .int .i32 0, .int .i64 k, .string s] w fun e w' => e = .returned (.bool true) ∧ Below w.heap.size w w' := by
  have hkn : knownB ((o : Int) + 1) = true := by unfold knownB; rw [decide_eq_true_eq]; omega
  have rx := rx0 hkn hu
  have rz := rz0 hkn hu
  have s1 : s.toList.isEmpty = false := by
    cases he : s.toList.isEmpty with
    | false => rfl
    | true => exact absurd ((empty_iff s).2 he) hsn
  have s2 : ¬ s.toList = [] := fun e => hsn ((empty_iff s).2 (by rw [e]; rfl))
  have ry : rightI (((o : Int) + 1), 0, 0, s, ⟨#[]⟩, ⟨#[]⟩, ⟨#[]⟩) = false := by
    rw [ry0 hkn hu]; (first | rfl | simp [*])
  clear hkn
  go_enter Tryd.func6, Tryd.ntmps6
  simp only [List.append_eq, List.cons_append, List.nil_append]
  go_wp2_with fail
  refine (known_any _ ht hg).mono ?_
  rintro e w1 ⟨rfl, hb1⟩
  go_wp2_with fail
  refine (uses_any _ _).mono ?_
  rintro e w' ⟨rfl, rfl⟩
  go_wp2_with fail
  have hs1 := hb1.size
  have hB3 : Below w.heap.size w (((w1.alloc (.cells #[.int .i64 ((o : Int) + 1), .int .i32 0, .int .i64 0, .string ⟨#[]⟩, .string ⟨#[65]⟩, .string ⟨#[109]⟩, .string ⟨#[40, 41, 86]⟩] 29)).alloc (.cells #[.int .i64 ((o : Int) + 1), .int .i32 0, .int .i64 0, .string s, .string ⟨#[]⟩, .string ⟨#[]⟩, .string ⟨#[]⟩] 29)).alloc (.cells #[.int .i64 ((o : Int) + 1), .int .i32 0, .int .i64 0, .string ⟨#[]⟩, .string ⟨#[]⟩, .string ⟨#[]⟩, .string ⟨#[]⟩] 29)) := ((hb1.alloc hs1 _).alloc (by simp; omega) _).alloc (by simp; omega) _
  have hg3 := hg.below hB3 (Nat.le_refl _)
  have hy3 := ibox3y w1 (.cells #[.int .i64 ((o : Int) + 1), .int .i32 0, .int .i64 0, .string ⟨#[]⟩, .string ⟨#[65]⟩, .string ⟨#[109]⟩, .string ⟨#[40, 41, 86]⟩] 29) (.cells #[.int .i64 ((o : Int) + 1), .int .i32 0, .int .i64 0, .string ⟨#[]⟩, .string ⟨#[]⟩, .string ⟨#[]⟩, .string ⟨#[]⟩] 29) ((o : Int) + 1) 0 0 s ⟨#[]⟩ ⟨#[]⟩ ⟨#[]⟩
  have hz3 := ibox3z w1 (.cells #[.int .i64 ((o : Int) + 1), .int .i32 0, .int .i64 0, .string ⟨#[]⟩, .string ⟨#[65]⟩, .string ⟨#[109]⟩, .string ⟨#[40, 41, 86]⟩] 29) (.cells #[.int .i64 ((o : Int) + 1), .int .i32 0, .int .i64 0, .string s, .string ⟨#[]⟩, .string ⟨#[]⟩, .string ⟨#[]⟩] 29) ((o : Int) + 1) 0 0 ⟨#[]⟩ ⟨#[]⟩ ⟨#[]⟩ ⟨#[]⟩
  refine (rightv_any _ _ _ _ _ _ _ _ hg3 (by decide) (by decide) (by decide)).mono ?_
  rintro e w4 ⟨rfl, hb4⟩
  have hy4 := ibox_next hy3 (by simp) hb4
  have hz4 := ibox_next hz3 (by simp) hb4
  have hs4 : w1.heap.size + 1 + 1 < w4.heap.size := Nat.lt_of_lt_of_le (by simp) hb4.size
  have hB4 := hB3.trans (hb4.mono hB3.size)
  have hg4 := hg.below hB4 (Nat.le_refl _)
  clear hy3 hz3 hg3 hb4 hB3
  go_wp2_with fail
  refine (rightv_any _ _ _ _ _ _ _ _ hg4 (by decide) (by decide) (by decide)).mono ?_
  rintro e w5 ⟨rfl, hb5⟩
  have hy5 := ibox_next hy4 (by omega) hb5
  have hB5 := hB4.trans (hb5.mono hB4.size)
  have hg5 := hg.below hB5 (Nat.le_refl _)
  clear hy4 hz4 hg4 hb5 hB4
  go_wp2_with fail
  refine (rightv_any _ _ _ _ _ _ _ _ hg5 (by decide) (by decide) (by decide)).mono ?_
  rintro e w6 ⟨rfl, hb6⟩
  have hB6 := hB5.trans (hb6.mono hB5.size)
  clear hy5 hg5 hb6 hB5 hs4 hs1
  go_wp2_with fail
  go_ret
  exact ⟨ret_bool (by first | rfl | simp [*]), hB6⟩

set_option maxHeartbeats 4000000 in
theorem uses_law0_3 (a : Int) (k : Int) (w : World) (ht : Tab w) (hg : Glob w) (o : Nat) (ho : a.tmod 43 = o) (ho1 : o < 43) (hu : usesI ((o : Int) + 1) = 0) (hkk : bits .and .i64 k 1023 = 0) :
    Calls Tryd.prog 6 #[.int .u8 a, .int .i32 0, .int .i64 k, .string ⟨#[]⟩] w fun e w' => e = .returned (.bool true) ∧ Below w.heap.size w w' := by
  have hkn : knownB ((o : Int) + 1) = true := by unfold knownB; rw [decide_eq_true_eq]; omega
  have rx := rx0 hkn hu
  have rz := rz0 hkn hu
  have ry : rightI (((o : Int) + 1), 0, 0, ⟨#[]⟩, ⟨#[]⟩, ⟨#[]⟩, ⟨#[]⟩) = true := by
    rw [ry0 hkn hu]; (first | rfl | simp [*])
  clear hkn
  go_enter Tryd.func6, Tryd.ntmps6
  simp only [List.append_eq, List.cons_append, List.nil_append]
  go_wp2_with fail
  refine (known_any _ ht hg).mono ?_
  rintro e w1 ⟨rfl, hb1⟩
  go_wp2_with fail
  refine (uses_any _ _).mono ?_
  rintro e w' ⟨rfl, rfl⟩
  go_wp2_with fail
  have hs1 := hb1.size
  have hB3 : Below w.heap.size w (((w1.alloc (.cells #[.int .i64 ((o : Int) + 1), .int .i32 0, .int .i64 0, .string ⟨#[]⟩, .string ⟨#[65]⟩, .string ⟨#[109]⟩, .string ⟨#[40, 41, 86]⟩] 29)).alloc (.cells #[.int .i64 ((o : Int) + 1), .int .i32 0, .int .i64 0, .string ⟨#[]⟩, .string ⟨#[]⟩, .string ⟨#[]⟩, .string ⟨#[]⟩] 29)).alloc (.cells #[.int .i64 ((o : Int) + 1), .int .i32 0, .int .i64 0, .string ⟨#[]⟩, .string ⟨#[]⟩, .string ⟨#[]⟩, .string ⟨#[]⟩] 29)) := ((hb1.alloc hs1 _).alloc (by simp; omega) _).alloc (by simp; omega) _
  have hg3 := hg.below hB3 (Nat.le_refl _)
  have hy3 := ibox3y w1 (.cells #[.int .i64 ((o : Int) + 1), .int .i32 0, .int .i64 0, .string ⟨#[]⟩, .string ⟨#[65]⟩, .string ⟨#[109]⟩, .string ⟨#[40, 41, 86]⟩] 29) (.cells #[.int .i64 ((o : Int) + 1), .int .i32 0, .int .i64 0, .string ⟨#[]⟩, .string ⟨#[]⟩, .string ⟨#[]⟩, .string ⟨#[]⟩] 29) ((o : Int) + 1) 0 0 ⟨#[]⟩ ⟨#[]⟩ ⟨#[]⟩ ⟨#[]⟩
  have hz3 := ibox3z w1 (.cells #[.int .i64 ((o : Int) + 1), .int .i32 0, .int .i64 0, .string ⟨#[]⟩, .string ⟨#[65]⟩, .string ⟨#[109]⟩, .string ⟨#[40, 41, 86]⟩] 29) (.cells #[.int .i64 ((o : Int) + 1), .int .i32 0, .int .i64 0, .string ⟨#[]⟩, .string ⟨#[]⟩, .string ⟨#[]⟩, .string ⟨#[]⟩] 29) ((o : Int) + 1) 0 0 ⟨#[]⟩ ⟨#[]⟩ ⟨#[]⟩ ⟨#[]⟩
  refine (rightv_any _ _ _ _ _ _ _ _ hg3 (by decide) (by decide) (by decide)).mono ?_
  rintro e w4 ⟨rfl, hb4⟩
  have hy4 := ibox_next hy3 (by simp) hb4
  have hz4 := ibox_next hz3 (by simp) hb4
  have hs4 : w1.heap.size + 1 + 1 < w4.heap.size := Nat.lt_of_lt_of_le (by simp) hb4.size
  have hB4 := hB3.trans (hb4.mono hB3.size)
  have hg4 := hg.below hB4 (Nat.le_refl _)
  clear hy3 hz3 hg3 hb4 hB3
  go_wp2_with fail
  refine (rightv_any _ _ _ _ _ _ _ _ hg4 (by decide) (by decide) (by decide)).mono ?_
  rintro e w5 ⟨rfl, hb5⟩
  have hy5 := ibox_next hy4 (by omega) hb5
  have hB5 := hB4.trans (hb5.mono hB4.size)
  have hg5 := hg.below hB5 (Nat.le_refl _)
  clear hy4 hz4 hg4 hb5 hB4
  go_wp2_with fail
  refine (rightv_any _ _ _ _ _ _ _ _ hg5 (by decide) (by decide) (by decide)).mono ?_
  rintro e w6 ⟨rfl, hb6⟩
  have hB6 := hB5.trans (hb6.mono hB5.size)
  clear hy5 hg5 hb6 hB5 hs4 hs1
  go_wp2_with fail
  go_ret
  exact ⟨ret_bool (by first | rfl | simp [*]), hB6⟩

set_option maxHeartbeats 4000000 in
theorem uses_law1_0 (a : Int) (n : Int) (k : Int) (kk : Int) (s : ByteArray) (w : World) (ht : Tab w) (hg : Glob w) (o : Nat) (ho : a.tmod 43 = o) (ho1 : o < 43) (hs : s.size ≤ 100) (hu : usesI ((o : Int) + 1) = 1) (hkk : bits .and .i64 k 1023 = kk) (hkn0 : ¬ kk = 0) :
    Calls Tryd.prog 6 #[.int .u8 a, .int .i32 n, .int .i64 k, .string s] w fun e w' => e = .returned (.bool true) ∧ Below w.heap.size w w' := by
  have hkn : knownB ((o : Int) + 1) = true := by unfold knownB; rw [decide_eq_true_eq]; omega
  have rx := rx1 hkn hu
  have rz := rz1 hkn hu
  have k1 : (kk == 0) = false := by rw [beq_eq_false_iff_ne]; exact hkn0
  have ry : rightI (((o : Int) + 1), n, kk, s, ⟨#[]⟩, ⟨#[]⟩, ⟨#[]⟩) = false := by
    rw [ry1 hkn hu]; (first | rfl | simp [*])
  clear hkn
  go_enter Tryd.func6, Tryd.ntmps6
  simp only [List.append_eq, List.cons_append, List.nil_append]
  go_wp2_with fail
  refine (known_any _ ht hg).mono ?_
  rintro e w1 ⟨rfl, hb1⟩
  go_wp2_with fail
  refine (uses_any _ _).mono ?_
  rintro e w' ⟨rfl, rfl⟩
  go_wp2_with fail
  have hs1 := hb1.size
  have hB3 : Below w.heap.size w (((w1.alloc (.cells #[.int .i64 ((o : Int) + 1), .int .i32 0, .int .i64 0, .string ⟨#[]⟩, .string ⟨#[65]⟩, .string ⟨#[109]⟩, .string ⟨#[40, 41, 86]⟩] 29)).alloc (.cells #[.int .i64 ((o : Int) + 1), .int .i32 n, .int .i64 kk, .string s, .string ⟨#[]⟩, .string ⟨#[]⟩, .string ⟨#[]⟩] 29)).alloc (.cells #[.int .i64 ((o : Int) + 1), .int .i32 0, .int .i64 0, .string ⟨#[]⟩, .string ⟨#[]⟩, .string ⟨#[]⟩, .string ⟨#[]⟩] 29)) := ((hb1.alloc hs1 _).alloc (by simp; omega) _).alloc (by simp; omega) _
  have hg3 := hg.below hB3 (Nat.le_refl _)
  have hy3 := ibox3y w1 (.cells #[.int .i64 ((o : Int) + 1), .int .i32 0, .int .i64 0, .string ⟨#[]⟩, .string ⟨#[65]⟩, .string ⟨#[109]⟩, .string ⟨#[40, 41, 86]⟩] 29) (.cells #[.int .i64 ((o : Int) + 1), .int .i32 0, .int .i64 0, .string ⟨#[]⟩, .string ⟨#[]⟩, .string ⟨#[]⟩, .string ⟨#[]⟩] 29) ((o : Int) + 1) n kk s ⟨#[]⟩ ⟨#[]⟩ ⟨#[]⟩
  have hz3 := ibox3z w1 (.cells #[.int .i64 ((o : Int) + 1), .int .i32 0, .int .i64 0, .string ⟨#[]⟩, .string ⟨#[65]⟩, .string ⟨#[109]⟩, .string ⟨#[40, 41, 86]⟩] 29) (.cells #[.int .i64 ((o : Int) + 1), .int .i32 n, .int .i64 kk, .string s, .string ⟨#[]⟩, .string ⟨#[]⟩, .string ⟨#[]⟩] 29) ((o : Int) + 1) 0 0 ⟨#[]⟩ ⟨#[]⟩ ⟨#[]⟩ ⟨#[]⟩
  refine (rightv_any _ _ _ _ _ _ _ _ hg3 (by decide) (by decide) (by decide)).mono ?_
  rintro e w4 ⟨rfl, hb4⟩
  have hy4 := ibox_next hy3 (by simp) hb4
  have hz4 := ibox_next hz3 (by simp) hb4
  have hs4 : w1.heap.size + 1 + 1 < w4.heap.size := Nat.lt_of_lt_of_le (by simp) hb4.size
  have hB4 := hB3.trans (hb4.mono hB3.size)
  have hg4 := hg.below hB4 (Nat.le_refl _)
  clear hy3 hz3 hg3 hb4 hB3
  go_wp2_with fail
  refine (rightv_any _ _ _ _ _ _ _ _ hg4 (by decide) (by decide) (by decide)).mono ?_
  rintro e w5 ⟨rfl, hb5⟩
  have hy5 := ibox_next hy4 (by omega) hb5
  have hB5 := hB4.trans (hb5.mono hB4.size)
  have hg5 := hg.below hB5 (Nat.le_refl _)
  clear hy4 hz4 hg4 hb5 hB4
  go_wp2_with fail
  refine (rightv_any _ _ _ _ _ _ _ _ hg5 (by decide) (by decide) (by decide)).mono ?_
  rintro e w6 ⟨rfl, hb6⟩
  have hB6 := hB5.trans (hb6.mono hB5.size)
  clear hy5 hg5 hb6 hB5 hs4 hs1
  go_wp2_with fail
  go_ret
  exact ⟨ret_bool (by first | rfl | simp [*]), hB6⟩

set_option maxHeartbeats 4000000 in
theorem uses_law1_1 (a : Int) (n : Int) (k : Int) (s : ByteArray) (w : World) (ht : Tab w) (hg : Glob w) (o : Nat) (ho : a.tmod 43 = o) (ho1 : o < 43) (hs : s.size ≤ 100) (hu : usesI ((o : Int) + 1) = 1) (hkk : bits .and .i64 k 1023 = 0) (hsn : ¬ s = ⟨#[]⟩) :
    Calls Tryd.prog 6 #[.int .u8 a, .int .i32 n, .int .i64 k, .string s] w fun e w' => e = .returned (.bool true) ∧ Below w.heap.size w w' := by
  have hkn : knownB ((o : Int) + 1) = true := by unfold knownB; rw [decide_eq_true_eq]; omega
  have rx := rx1 hkn hu
  have rz := rz1 hkn hu
  have s1 : s.toList.isEmpty = false := by
    cases he : s.toList.isEmpty with
    | false => rfl
    | true => exact absurd ((empty_iff s).2 he) hsn
  have s2 : ¬ s.toList = [] := fun e => hsn ((empty_iff s).2 (by rw [e]; rfl))
  have ry : rightI (((o : Int) + 1), n, 0, s, ⟨#[]⟩, ⟨#[]⟩, ⟨#[]⟩) = false := by
    rw [ry1 hkn hu]; (first | rfl | simp [*])
  clear hkn
  go_enter Tryd.func6, Tryd.ntmps6
  simp only [List.append_eq, List.cons_append, List.nil_append]
  go_wp2_with fail
  refine (known_any _ ht hg).mono ?_
  rintro e w1 ⟨rfl, hb1⟩
  go_wp2_with fail
  refine (uses_any _ _).mono ?_
  rintro e w' ⟨rfl, rfl⟩
  go_wp2_with fail
  have hs1 := hb1.size
  have hB3 : Below w.heap.size w (((w1.alloc (.cells #[.int .i64 ((o : Int) + 1), .int .i32 0, .int .i64 0, .string ⟨#[]⟩, .string ⟨#[65]⟩, .string ⟨#[109]⟩, .string ⟨#[40, 41, 86]⟩] 29)).alloc (.cells #[.int .i64 ((o : Int) + 1), .int .i32 n, .int .i64 0, .string s, .string ⟨#[]⟩, .string ⟨#[]⟩, .string ⟨#[]⟩] 29)).alloc (.cells #[.int .i64 ((o : Int) + 1), .int .i32 0, .int .i64 0, .string ⟨#[]⟩, .string ⟨#[]⟩, .string ⟨#[]⟩, .string ⟨#[]⟩] 29)) := ((hb1.alloc hs1 _).alloc (by simp; omega) _).alloc (by simp; omega) _
  have hg3 := hg.below hB3 (Nat.le_refl _)
  have hy3 := ibox3y w1 (.cells #[.int .i64 ((o : Int) + 1), .int .i32 0, .int .i64 0, .string ⟨#[]⟩, .string ⟨#[65]⟩, .string ⟨#[109]⟩, .string ⟨#[40, 41, 86]⟩] 29) (.cells #[.int .i64 ((o : Int) + 1), .int .i32 0, .int .i64 0, .string ⟨#[]⟩, .string ⟨#[]⟩, .string ⟨#[]⟩, .string ⟨#[]⟩] 29) ((o : Int) + 1) n 0 s ⟨#[]⟩ ⟨#[]⟩ ⟨#[]⟩
  have hz3 := ibox3z w1 (.cells #[.int .i64 ((o : Int) + 1), .int .i32 0, .int .i64 0, .string ⟨#[]⟩, .string ⟨#[65]⟩, .string ⟨#[109]⟩, .string ⟨#[40, 41, 86]⟩] 29) (.cells #[.int .i64 ((o : Int) + 1), .int .i32 n, .int .i64 0, .string s, .string ⟨#[]⟩, .string ⟨#[]⟩, .string ⟨#[]⟩] 29) ((o : Int) + 1) 0 0 ⟨#[]⟩ ⟨#[]⟩ ⟨#[]⟩ ⟨#[]⟩
  refine (rightv_any _ _ _ _ _ _ _ _ hg3 (by decide) (by decide) (by decide)).mono ?_
  rintro e w4 ⟨rfl, hb4⟩
  have hy4 := ibox_next hy3 (by simp) hb4
  have hz4 := ibox_next hz3 (by simp) hb4
  have hs4 : w1.heap.size + 1 + 1 < w4.heap.size := Nat.lt_of_lt_of_le (by simp) hb4.size
  have hB4 := hB3.trans (hb4.mono hB3.size)
  have hg4 := hg.below hB4 (Nat.le_refl _)
  clear hy3 hz3 hg3 hb4 hB3
  go_wp2_with fail
  refine (rightv_any _ _ _ _ _ _ _ _ hg4 (by decide) (by decide) (by decide)).mono ?_
  rintro e w5 ⟨rfl, hb5⟩
  have hy5 := ibox_next hy4 (by omega) hb5
  have hB5 := hB4.trans (hb5.mono hB4.size)
  have hg5 := hg.below hB5 (Nat.le_refl _)
  clear hy4 hz4 hg4 hb5 hB4
  go_wp2_with fail
  refine (rightv_any _ _ _ _ _ _ _ _ hg5 (by decide) (by decide) (by decide)).mono ?_
  rintro e w6 ⟨rfl, hb6⟩
  have hB6 := hB5.trans (hb6.mono hB5.size)
  clear hy5 hg5 hb6 hB5 hs4 hs1
  go_wp2_with fail
  go_ret
  exact ⟨ret_bool (by first | rfl | simp [*]), hB6⟩

set_option maxHeartbeats 4000000 in
theorem uses_law1_2 (a : Int) (n : Int) (k : Int) (w : World) (ht : Tab w) (hg : Glob w) (o : Nat) (ho : a.tmod 43 = o) (ho1 : o < 43) (hu : usesI ((o : Int) + 1) = 1) (hkk : bits .and .i64 k 1023 = 0) :
    Calls Tryd.prog 6 #[.int .u8 a, .int .i32 n, .int .i64 k, .string ⟨#[]⟩] w fun e w' => e = .returned (.bool true) ∧ Below w.heap.size w w' := by
  have hkn : knownB ((o : Int) + 1) = true := by unfold knownB; rw [decide_eq_true_eq]; omega
  have rx := rx1 hkn hu
  have rz := rz1 hkn hu
  have ry : rightI (((o : Int) + 1), n, 0, ⟨#[]⟩, ⟨#[]⟩, ⟨#[]⟩, ⟨#[]⟩) = true := by
    rw [ry1 hkn hu]; (first | rfl | simp [*])
  clear hkn
  go_enter Tryd.func6, Tryd.ntmps6
  simp only [List.append_eq, List.cons_append, List.nil_append]
  go_wp2_with fail
  refine (known_any _ ht hg).mono ?_
  rintro e w1 ⟨rfl, hb1⟩
  go_wp2_with fail
  refine (uses_any _ _).mono ?_
  rintro e w' ⟨rfl, rfl⟩
  go_wp2_with fail
  have hs1 := hb1.size
  have hB3 : Below w.heap.size w (((w1.alloc (.cells #[.int .i64 ((o : Int) + 1), .int .i32 0, .int .i64 0, .string ⟨#[]⟩, .string ⟨#[65]⟩, .string ⟨#[109]⟩, .string ⟨#[40, 41, 86]⟩] 29)).alloc (.cells #[.int .i64 ((o : Int) + 1), .int .i32 n, .int .i64 0, .string ⟨#[]⟩, .string ⟨#[]⟩, .string ⟨#[]⟩, .string ⟨#[]⟩] 29)).alloc (.cells #[.int .i64 ((o : Int) + 1), .int .i32 0, .int .i64 0, .string ⟨#[]⟩, .string ⟨#[]⟩, .string ⟨#[]⟩, .string ⟨#[]⟩] 29)) := ((hb1.alloc hs1 _).alloc (by simp; omega) _).alloc (by simp; omega) _
  have hg3 := hg.below hB3 (Nat.le_refl _)
  have hy3 := ibox3y w1 (.cells #[.int .i64 ((o : Int) + 1), .int .i32 0, .int .i64 0, .string ⟨#[]⟩, .string ⟨#[65]⟩, .string ⟨#[109]⟩, .string ⟨#[40, 41, 86]⟩] 29) (.cells #[.int .i64 ((o : Int) + 1), .int .i32 0, .int .i64 0, .string ⟨#[]⟩, .string ⟨#[]⟩, .string ⟨#[]⟩, .string ⟨#[]⟩] 29) ((o : Int) + 1) n 0 ⟨#[]⟩ ⟨#[]⟩ ⟨#[]⟩ ⟨#[]⟩
  have hz3 := ibox3z w1 (.cells #[.int .i64 ((o : Int) + 1), .int .i32 0, .int .i64 0, .string ⟨#[]⟩, .string ⟨#[65]⟩, .string ⟨#[109]⟩, .string ⟨#[40, 41, 86]⟩] 29) (.cells #[.int .i64 ((o : Int) + 1), .int .i32 n, .int .i64 0, .string ⟨#[]⟩, .string ⟨#[]⟩, .string ⟨#[]⟩, .string ⟨#[]⟩] 29) ((o : Int) + 1) 0 0 ⟨#[]⟩ ⟨#[]⟩ ⟨#[]⟩ ⟨#[]⟩
  refine (rightv_any _ _ _ _ _ _ _ _ hg3 (by decide) (by decide) (by decide)).mono ?_
  rintro e w4 ⟨rfl, hb4⟩
  have hy4 := ibox_next hy3 (by simp) hb4
  have hz4 := ibox_next hz3 (by simp) hb4
  have hs4 : w1.heap.size + 1 + 1 < w4.heap.size := Nat.lt_of_lt_of_le (by simp) hb4.size
  have hB4 := hB3.trans (hb4.mono hB3.size)
  have hg4 := hg.below hB4 (Nat.le_refl _)
  clear hy3 hz3 hg3 hb4 hB3
  go_wp2_with fail
  refine (rightv_any _ _ _ _ _ _ _ _ hg4 (by decide) (by decide) (by decide)).mono ?_
  rintro e w5 ⟨rfl, hb5⟩
  have hy5 := ibox_next hy4 (by omega) hb5
  have hB5 := hB4.trans (hb5.mono hB4.size)
  have hg5 := hg.below hB5 (Nat.le_refl _)
  clear hy4 hz4 hg4 hb5 hB4
  go_wp2_with fail
  refine (rightv_any _ _ _ _ _ _ _ _ hg5 (by decide) (by decide) (by decide)).mono ?_
  rintro e w6 ⟨rfl, hb6⟩
  have hB6 := hB5.trans (hb6.mono hB5.size)
  clear hy5 hg5 hb6 hB5 hs4 hs1
  go_wp2_with fail
  go_ret
  exact ⟨ret_bool (by first | rfl | simp [*]), hB6⟩

set_option maxHeartbeats 4000000 in
theorem uses_law2_0 (a : Int) (n : Int) (k : Int) (kk : Int) (s : ByteArray) (w : World) (ht : Tab w) (hg : Glob w) (o : Nat) (ho : a.tmod 43 = o) (ho1 : o < 43) (hs : s.size ≤ 100) (hu : usesI ((o : Int) + 1) = 2) (hkk : bits .and .i64 k 1023 = kk) (hn : ¬ n = 0) :
    Calls Tryd.prog 6 #[.int .u8 a, .int .i32 n, .int .i64 k, .string s] w fun e w' => e = .returned (.bool true) ∧ Below w.heap.size w w' := by
  have hkn : knownB ((o : Int) + 1) = true := by unfold knownB; rw [decide_eq_true_eq]; omega
  have rx := rx2 hkn hu
  have rz := rz2 hkn hu
  have n1 : (n == 0) = false := by rw [beq_eq_false_iff_ne]; exact hn
  have ry : rightI (((o : Int) + 1), n, kk, s, ⟨#[]⟩, ⟨#[]⟩, ⟨#[]⟩) = false := by
    rw [ry2 hkn hu hs]; (first | rfl | simp [*])
  clear hkn
  go_enter Tryd.func6, Tryd.ntmps6
  simp only [List.append_eq, List.cons_append, List.nil_append]
  go_wp2_with fail
  refine (known_any _ ht hg).mono ?_
  rintro e w1 ⟨rfl, hb1⟩
  go_wp2_with fail
  refine (uses_any _ _).mono ?_
  rintro e w' ⟨rfl, rfl⟩
  go_wp2_with fail
  have hs1 := hb1.size
  have hB3 : Below w.heap.size w (((w1.alloc (.cells #[.int .i64 ((o : Int) + 1), .int .i32 0, .int .i64 0, .string ⟨#[]⟩, .string ⟨#[65]⟩, .string ⟨#[109]⟩, .string ⟨#[40, 41, 86]⟩] 29)).alloc (.cells #[.int .i64 ((o : Int) + 1), .int .i32 n, .int .i64 kk, .string s, .string ⟨#[]⟩, .string ⟨#[]⟩, .string ⟨#[]⟩] 29)).alloc (.cells #[.int .i64 ((o : Int) + 1), .int .i32 0, .int .i64 0, .string ⟨#[]⟩, .string ⟨#[]⟩, .string ⟨#[]⟩, .string ⟨#[]⟩] 29)) := ((hb1.alloc hs1 _).alloc (by simp; omega) _).alloc (by simp; omega) _
  have hg3 := hg.below hB3 (Nat.le_refl _)
  have hy3 := ibox3y w1 (.cells #[.int .i64 ((o : Int) + 1), .int .i32 0, .int .i64 0, .string ⟨#[]⟩, .string ⟨#[65]⟩, .string ⟨#[109]⟩, .string ⟨#[40, 41, 86]⟩] 29) (.cells #[.int .i64 ((o : Int) + 1), .int .i32 0, .int .i64 0, .string ⟨#[]⟩, .string ⟨#[]⟩, .string ⟨#[]⟩, .string ⟨#[]⟩] 29) ((o : Int) + 1) n kk s ⟨#[]⟩ ⟨#[]⟩ ⟨#[]⟩
  have hz3 := ibox3z w1 (.cells #[.int .i64 ((o : Int) + 1), .int .i32 0, .int .i64 0, .string ⟨#[]⟩, .string ⟨#[65]⟩, .string ⟨#[109]⟩, .string ⟨#[40, 41, 86]⟩] 29) (.cells #[.int .i64 ((o : Int) + 1), .int .i32 n, .int .i64 kk, .string s, .string ⟨#[]⟩, .string ⟨#[]⟩, .string ⟨#[]⟩] 29) ((o : Int) + 1) 0 0 ⟨#[]⟩ ⟨#[]⟩ ⟨#[]⟩ ⟨#[]⟩
  refine (rightv_any _ _ _ _ _ _ _ _ hg3 (by decide) (by decide) (by decide)).mono ?_
  rintro e w4 ⟨rfl, hb4⟩
  have hy4 := ibox_next hy3 (by simp) hb4
  have hz4 := ibox_next hz3 (by simp) hb4
  have hs4 : w1.heap.size + 1 + 1 < w4.heap.size := Nat.lt_of_lt_of_le (by simp) hb4.size
  have hB4 := hB3.trans (hb4.mono hB3.size)
  have hg4 := hg.below hB4 (Nat.le_refl _)
  clear hy3 hz3 hg3 hb4 hB3
  go_wp2_with fail
  refine (rightv_any _ _ _ _ _ _ _ _ hg4 (by decide) (by decide) (by decide)).mono ?_
  rintro e w5 ⟨rfl, hb5⟩
  have hy5 := ibox_next hy4 (by omega) hb5
  have hB5 := hB4.trans (hb5.mono hB4.size)
  have hg5 := hg.below hB5 (Nat.le_refl _)
  clear hy4 hz4 hg4 hb5 hB4
  go_wp2_with fail
  refine (rightv_any _ _ _ _ _ _ _ _ hg5 (by decide) (by decide) (by decide)).mono ?_
  rintro e w6 ⟨rfl, hb6⟩
  have hB6 := hB5.trans (hb6.mono hB5.size)
  clear hy5 hg5 hb6 hB5 hs4 hs1
  go_wp2_with fail
  go_ret
  exact ⟨ret_bool (by first | rfl | simp [*]), hB6⟩

set_option maxHeartbeats 4000000 in
theorem uses_law2_1 (a : Int) (k : Int) (kk : Int) (s : ByteArray) (w : World) (ht : Tab w) (hg : Glob w) (o : Nat) (ho : a.tmod 43 = o) (ho1 : o < 43) (hs : s.size ≤ 100) (hu : usesI ((o : Int) + 1) = 2) (hkk : bits .and .i64 k 1023 = kk) (hkn0 : ¬ kk = 0) :
    Calls Tryd.prog 6 #[.int .u8 a, .int .i32 0, .int .i64 k, .string s] w fun e w' => e = .returned (.bool true) ∧ Below w.heap.size w w' := by
  have hkn : knownB ((o : Int) + 1) = true := by unfold knownB; rw [decide_eq_true_eq]; omega
  have rx := rx2 hkn hu
  have rz := rz2 hkn hu
  have k1 : (kk == 0) = false := by rw [beq_eq_false_iff_ne]; exact hkn0
  have ry : rightI (((o : Int) + 1), 0, kk, s, ⟨#[]⟩, ⟨#[]⟩, ⟨#[]⟩) = false := by
    rw [ry2 hkn hu hs]; (first | rfl | simp [*])
  clear hkn
  go_enter Tryd.func6, Tryd.ntmps6
  simp only [List.append_eq, List.cons_append, List.nil_append]
  go_wp2_with fail
  refine (known_any _ ht hg).mono ?_
  rintro e w1 ⟨rfl, hb1⟩
  go_wp2_with fail
  refine (uses_any _ _).mono ?_
  rintro e w' ⟨rfl, rfl⟩
  go_wp2_with fail
  have hs1 := hb1.size
  have hB3 : Below w.heap.size w (((w1.alloc (.cells #[.int .i64 ((o : Int) + 1), .int .i32 0, .int .i64 0, .string ⟨#[]⟩, .string ⟨#[65]⟩, .string ⟨#[109]⟩, .string ⟨#[40, 41, 86]⟩] 29)).alloc (.cells #[.int .i64 ((o : Int) + 1), .int .i32 0, .int .i64 kk, .string s, .string ⟨#[]⟩, .string ⟨#[]⟩, .string ⟨#[]⟩] 29)).alloc (.cells #[.int .i64 ((o : Int) + 1), .int .i32 0, .int .i64 0, .string ⟨#[]⟩, .string ⟨#[]⟩, .string ⟨#[]⟩, .string ⟨#[]⟩] 29)) := ((hb1.alloc hs1 _).alloc (by simp; omega) _).alloc (by simp; omega) _
  have hg3 := hg.below hB3 (Nat.le_refl _)
  have hy3 := ibox3y w1 (.cells #[.int .i64 ((o : Int) + 1), .int .i32 0, .int .i64 0, .string ⟨#[]⟩, .string ⟨#[65]⟩, .string ⟨#[109]⟩, .string ⟨#[40, 41, 86]⟩] 29) (.cells #[.int .i64 ((o : Int) + 1), .int .i32 0, .int .i64 0, .string ⟨#[]⟩, .string ⟨#[]⟩, .string ⟨#[]⟩, .string ⟨#[]⟩] 29) ((o : Int) + 1) 0 kk s ⟨#[]⟩ ⟨#[]⟩ ⟨#[]⟩
  have hz3 := ibox3z w1 (.cells #[.int .i64 ((o : Int) + 1), .int .i32 0, .int .i64 0, .string ⟨#[]⟩, .string ⟨#[65]⟩, .string ⟨#[109]⟩, .string ⟨#[40, 41, 86]⟩] 29) (.cells #[.int .i64 ((o : Int) + 1), .int .i32 0, .int .i64 kk, .string s, .string ⟨#[]⟩, .string ⟨#[]⟩, .string ⟨#[]⟩] 29) ((o : Int) + 1) 0 0 ⟨#[]⟩ ⟨#[]⟩ ⟨#[]⟩ ⟨#[]⟩
  refine (rightv_any _ _ _ _ _ _ _ _ hg3 (by decide) (by decide) (by decide)).mono ?_
  rintro e w4 ⟨rfl, hb4⟩
  have hy4 := ibox_next hy3 (by simp) hb4
  have hz4 := ibox_next hz3 (by simp) hb4
  have hs4 : w1.heap.size + 1 + 1 < w4.heap.size := Nat.lt_of_lt_of_le (by simp) hb4.size
  have hB4 := hB3.trans (hb4.mono hB3.size)
  have hg4 := hg.below hB4 (Nat.le_refl _)
  clear hy3 hz3 hg3 hb4 hB3
  go_wp2_with fail
  refine (rightv_any _ _ _ _ _ _ _ _ hg4 (by decide) (by decide) (by decide)).mono ?_
  rintro e w5 ⟨rfl, hb5⟩
  have hy5 := ibox_next hy4 (by omega) hb5
  have hB5 := hB4.trans (hb5.mono hB4.size)
  have hg5 := hg.below hB5 (Nat.le_refl _)
  clear hy4 hz4 hg4 hb5 hB4
  go_wp2_with fail
  refine (rightv_any _ _ _ _ _ _ _ _ hg5 (by decide) (by decide) (by decide)).mono ?_
  rintro e w6 ⟨rfl, hb6⟩
  have hB6 := hB5.trans (hb6.mono hB5.size)
  clear hy5 hg5 hb6 hB5 hs4 hs1
  go_wp2_with fail
  go_ret
  exact ⟨ret_bool (by first | rfl | simp [*]), hB6⟩

set_option maxHeartbeats 4000000 in
theorem uses_law2_2 (a : Int) (k : Int) (s : ByteArray) (w : World) (ht : Tab w) (hg : Glob w) (o : Nat) (ho : a.tmod 43 = o) (ho1 : o < 43) (hs : s.size ≤ 100) (hu : usesI ((o : Int) + 1) = 2) (hkk : bits .and .i64 k 1023 = 0) :
    Calls Tryd.prog 6 #[.int .u8 a, .int .i32 0, .int .i64 k, .string s] w fun e w' => e = .returned (.bool true) ∧ Below w.heap.size w w' := by
  have hkn : knownB ((o : Int) + 1) = true := by unfold knownB; rw [decide_eq_true_eq]; omega
  have rx := rx2 hkn hu
  have rz := rz2 hkn hu
  have ry : rightI (((o : Int) + 1), 0, 0, s, ⟨#[]⟩, ⟨#[]⟩, ⟨#[]⟩) = true := by
    rw [ry2 hkn hu hs]; (first | rfl | simp [*])
  clear hkn
  go_enter Tryd.func6, Tryd.ntmps6
  simp only [List.append_eq, List.cons_append, List.nil_append]
  go_wp2_with fail
  refine (known_any _ ht hg).mono ?_
  rintro e w1 ⟨rfl, hb1⟩
  go_wp2_with fail
  refine (uses_any _ _).mono ?_
  rintro e w' ⟨rfl, rfl⟩
  go_wp2_with fail
  have hs1 := hb1.size
  have hB3 : Below w.heap.size w (((w1.alloc (.cells #[.int .i64 ((o : Int) + 1), .int .i32 0, .int .i64 0, .string ⟨#[]⟩, .string ⟨#[65]⟩, .string ⟨#[109]⟩, .string ⟨#[40, 41, 86]⟩] 29)).alloc (.cells #[.int .i64 ((o : Int) + 1), .int .i32 0, .int .i64 0, .string s, .string ⟨#[]⟩, .string ⟨#[]⟩, .string ⟨#[]⟩] 29)).alloc (.cells #[.int .i64 ((o : Int) + 1), .int .i32 0, .int .i64 0, .string ⟨#[]⟩, .string ⟨#[]⟩, .string ⟨#[]⟩, .string ⟨#[]⟩] 29)) := ((hb1.alloc hs1 _).alloc (by simp; omega) _).alloc (by simp; omega) _
  have hg3 := hg.below hB3 (Nat.le_refl _)
  have hy3 := ibox3y w1 (.cells #[.int .i64 ((o : Int) + 1), .int .i32 0, .int .i64 0, .string ⟨#[]⟩, .string ⟨#[65]⟩, .string ⟨#[109]⟩, .string ⟨#[40, 41, 86]⟩] 29) (.cells #[.int .i64 ((o : Int) + 1), .int .i32 0, .int .i64 0, .string ⟨#[]⟩, .string ⟨#[]⟩, .string ⟨#[]⟩, .string ⟨#[]⟩] 29) ((o : Int) + 1) 0 0 s ⟨#[]⟩ ⟨#[]⟩ ⟨#[]⟩
  have hz3 := ibox3z w1 (.cells #[.int .i64 ((o : Int) + 1), .int .i32 0, .int .i64 0, .string ⟨#[]⟩, .string ⟨#[65]⟩, .string ⟨#[109]⟩, .string ⟨#[40, 41, 86]⟩] 29) (.cells #[.int .i64 ((o : Int) + 1), .int .i32 0, .int .i64 0, .string s, .string ⟨#[]⟩, .string ⟨#[]⟩, .string ⟨#[]⟩] 29) ((o : Int) + 1) 0 0 ⟨#[]⟩ ⟨#[]⟩ ⟨#[]⟩ ⟨#[]⟩
  refine (rightv_any _ _ _ _ _ _ _ _ hg3 (by decide) (by decide) (by decide)).mono ?_
  rintro e w4 ⟨rfl, hb4⟩
  have hy4 := ibox_next hy3 (by simp) hb4
  have hz4 := ibox_next hz3 (by simp) hb4
  have hs4 : w1.heap.size + 1 + 1 < w4.heap.size := Nat.lt_of_lt_of_le (by simp) hb4.size
  have hB4 := hB3.trans (hb4.mono hB3.size)
  have hg4 := hg.below hB4 (Nat.le_refl _)
  clear hy3 hz3 hg3 hb4 hB3
  go_wp2_with fail
  refine (rightv_any _ _ _ _ _ _ _ _ hg4 (by decide) (by decide) (by decide)).mono ?_
  rintro e w5 ⟨rfl, hb5⟩
  have hy5 := ibox_next hy4 (by omega) hb5
  have hB5 := hB4.trans (hb5.mono hB4.size)
  have hg5 := hg.below hB5 (Nat.le_refl _)
  clear hy4 hz4 hg4 hb5 hB4
  go_wp2_with fail
  refine (rightv_any _ _ _ _ _ _ _ _ hg5 (by decide) (by decide) (by decide)).mono ?_
  rintro e w6 ⟨rfl, hb6⟩
  have hB6 := hB5.trans (hb6.mono hB5.size)
  clear hy5 hg5 hb6 hB5 hs4 hs1
  go_wp2_with fail
  go_ret
  exact ⟨ret_bool (by first | rfl | simp [*]), hB6⟩

set_option maxHeartbeats 4000000 in
theorem uses_law3_0 (a : Int) (n : Int) (k : Int) (kk : Int) (s : ByteArray) (w : World) (ht : Tab w) (hg : Glob w) (o : Nat) (ho : a.tmod 43 = o) (ho1 : o < 43) (hs : s.size ≤ 100) (hu : usesI ((o : Int) + 1) = 3) (hkk : bits .and .i64 k 1023 = kk) (hk0 : 0 ≤ kk) (hk1 : kk ≤ 1023) (hn : ¬ n = 0) :
    Calls Tryd.prog 6 #[.int .u8 a, .int .i32 n, .int .i64 k, .string s] w fun e w' => e = .returned (.bool true) ∧ Below w.heap.size w w' := by
  have hkn : knownB ((o : Int) + 1) = true := by unfold knownB; rw [decide_eq_true_eq]; omega
  have rx := rx3 hkn hu
  have rz := rz3 hkn hu
  have n1 : (n == 0) = false := by rw [beq_eq_false_iff_ne]; exact hn
  have ry : rightI (((o : Int) + 1), n, kk, s, ⟨#[]⟩, ⟨#[]⟩, ⟨#[]⟩) = false := by
    rw [ry3 hkn hu hk0 hk1]; (first | rfl | simp [*])
  clear hkn
  go_enter Tryd.func6, Tryd.ntmps6
  simp only [List.append_eq, List.cons_append, List.nil_append]
  go_wp2_with fail
  refine (known_any _ ht hg).mono ?_
  rintro e w1 ⟨rfl, hb1⟩
  go_wp2_with fail
  refine (uses_any _ _).mono ?_
  rintro e w' ⟨rfl, rfl⟩
  go_wp2_with fail
  have hs1 := hb1.size
  have hB3 : Below w.heap.size w (((w1.alloc (.cells #[.int .i64 ((o : Int) + 1), .int .i32 0, .int .i64 0, .string ⟨#[]⟩, .string ⟨#[65]⟩, .string ⟨#[109]⟩, .string ⟨#[40, 41, 86]⟩] 29)).alloc (.cells #[.int .i64 ((o : Int) + 1), .int .i32 n, .int .i64 kk, .string s, .string ⟨#[]⟩, .string ⟨#[]⟩, .string ⟨#[]⟩] 29)).alloc (.cells #[.int .i64 ((o : Int) + 1), .int .i32 0, .int .i64 0, .string ⟨#[]⟩, .string ⟨#[]⟩, .string ⟨#[]⟩, .string ⟨#[]⟩] 29)) := ((hb1.alloc hs1 _).alloc (by simp; omega) _).alloc (by simp; omega) _
  have hg3 := hg.below hB3 (Nat.le_refl _)
  have hy3 := ibox3y w1 (.cells #[.int .i64 ((o : Int) + 1), .int .i32 0, .int .i64 0, .string ⟨#[]⟩, .string ⟨#[65]⟩, .string ⟨#[109]⟩, .string ⟨#[40, 41, 86]⟩] 29) (.cells #[.int .i64 ((o : Int) + 1), .int .i32 0, .int .i64 0, .string ⟨#[]⟩, .string ⟨#[]⟩, .string ⟨#[]⟩, .string ⟨#[]⟩] 29) ((o : Int) + 1) n kk s ⟨#[]⟩ ⟨#[]⟩ ⟨#[]⟩
  have hz3 := ibox3z w1 (.cells #[.int .i64 ((o : Int) + 1), .int .i32 0, .int .i64 0, .string ⟨#[]⟩, .string ⟨#[65]⟩, .string ⟨#[109]⟩, .string ⟨#[40, 41, 86]⟩] 29) (.cells #[.int .i64 ((o : Int) + 1), .int .i32 n, .int .i64 kk, .string s, .string ⟨#[]⟩, .string ⟨#[]⟩, .string ⟨#[]⟩] 29) ((o : Int) + 1) 0 0 ⟨#[]⟩ ⟨#[]⟩ ⟨#[]⟩ ⟨#[]⟩
  refine (rightv_any _ _ _ _ _ _ _ _ hg3 (by decide) (by decide) (by decide)).mono ?_
  rintro e w4 ⟨rfl, hb4⟩
  have hy4 := ibox_next hy3 (by simp) hb4
  have hz4 := ibox_next hz3 (by simp) hb4
  have hs4 : w1.heap.size + 1 + 1 < w4.heap.size := Nat.lt_of_lt_of_le (by simp) hb4.size
  have hB4 := hB3.trans (hb4.mono hB3.size)
  have hg4 := hg.below hB4 (Nat.le_refl _)
  clear hy3 hz3 hg3 hb4 hB3
  go_wp2_with fail
  refine (rightv_any _ _ _ _ _ _ _ _ hg4 (by decide) (by decide) (by decide)).mono ?_
  rintro e w5 ⟨rfl, hb5⟩
  have hy5 := ibox_next hy4 (by omega) hb5
  have hB5 := hB4.trans (hb5.mono hB4.size)
  have hg5 := hg.below hB5 (Nat.le_refl _)
  clear hy4 hz4 hg4 hb5 hB4
  go_wp2_with fail
  refine (rightv_any _ _ _ _ _ _ _ _ hg5 (by decide) (by decide) (by decide)).mono ?_
  rintro e w6 ⟨rfl, hb6⟩
  have hB6 := hB5.trans (hb6.mono hB5.size)
  clear hy5 hg5 hb6 hB5 hs4 hs1
  go_wp2_with fail
  go_ret
  exact ⟨ret_bool (by first | rfl | simp [*]), hB6⟩

set_option maxHeartbeats 4000000 in
theorem uses_law3_1 (a : Int) (k : Int) (kk : Int) (s : ByteArray) (w : World) (ht : Tab w) (hg : Glob w) (o : Nat) (ho : a.tmod 43 = o) (ho1 : o < 43) (hs : s.size ≤ 100) (hu : usesI ((o : Int) + 1) = 3) (hkk : bits .and .i64 k 1023 = kk) (hk0 : 0 ≤ kk) (hk1 : kk ≤ 1023) (hsn : ¬ s = ⟨#[]⟩) :
    Calls Tryd.prog 6 #[.int .u8 a, .int .i32 0, .int .i64 k, .string s] w fun e w' => e = .returned (.bool true) ∧ Below w.heap.size w w' := by
  have hkn : knownB ((o : Int) + 1) = true := by unfold knownB; rw [decide_eq_true_eq]; omega
  have rx := rx3 hkn hu
  have rz := rz3 hkn hu
  have s1 : s.toList.isEmpty = false := by
    cases he : s.toList.isEmpty with
    | false => rfl
    | true => exact absurd ((empty_iff s).2 he) hsn
  have s2 : ¬ s.toList = [] := fun e => hsn ((empty_iff s).2 (by rw [e]; rfl))
  have ry : rightI (((o : Int) + 1), 0, kk, s, ⟨#[]⟩, ⟨#[]⟩, ⟨#[]⟩) = false := by
    rw [ry3 hkn hu hk0 hk1]; (first | rfl | simp [*])
  clear hkn
  go_enter Tryd.func6, Tryd.ntmps6
  simp only [List.append_eq, List.cons_append, List.nil_append]
  go_wp2_with fail
  refine (known_any _ ht hg).mono ?_
  rintro e w1 ⟨rfl, hb1⟩
  go_wp2_with fail
  refine (uses_any _ _).mono ?_
  rintro e w' ⟨rfl, rfl⟩
  go_wp2_with fail
  have hs1 := hb1.size
  have hB3 : Below w.heap.size w (((w1.alloc (.cells #[.int .i64 ((o : Int) + 1), .int .i32 0, .int .i64 0, .string ⟨#[]⟩, .string ⟨#[65]⟩, .string ⟨#[109]⟩, .string ⟨#[40, 41, 86]⟩] 29)).alloc (.cells #[.int .i64 ((o : Int) + 1), .int .i32 0, .int .i64 kk, .string s, .string ⟨#[]⟩, .string ⟨#[]⟩, .string ⟨#[]⟩] 29)).alloc (.cells #[.int .i64 ((o : Int) + 1), .int .i32 0, .int .i64 0, .string ⟨#[]⟩, .string ⟨#[]⟩, .string ⟨#[]⟩, .string ⟨#[]⟩] 29)) := ((hb1.alloc hs1 _).alloc (by simp; omega) _).alloc (by simp; omega) _
  have hg3 := hg.below hB3 (Nat.le_refl _)
  have hy3 := ibox3y w1 (.cells #[.int .i64 ((o : Int) + 1), .int .i32 0, .int .i64 0, .string ⟨#[]⟩, .string ⟨#[65]⟩, .string ⟨#[109]⟩, .string ⟨#[40, 41, 86]⟩] 29) (.cells #[.int .i64 ((o : Int) + 1), .int .i32 0, .int .i64 0, .string ⟨#[]⟩, .string ⟨#[]⟩, .string ⟨#[]⟩, .string ⟨#[]⟩] 29) ((o : Int) + 1) 0 kk s ⟨#[]⟩ ⟨#[]⟩ ⟨#[]⟩
  have hz3 := ibox3z w1 (.cells #[.int .i64 ((o : Int) + 1), .int .i32 0, .int .i64 0, .string ⟨#[]⟩, .string ⟨#[65]⟩, .string ⟨#[109]⟩, .string ⟨#[40, 41, 86]⟩] 29) (.cells #[.int .i64 ((o : Int) + 1), .int .i32 0, .int .i64 kk, .string s, .string ⟨#[]⟩, .string ⟨#[]⟩, .string ⟨#[]⟩] 29) ((o : Int) + 1) 0 0 ⟨#[]⟩ ⟨#[]⟩ ⟨#[]⟩ ⟨#[]⟩
  refine (rightv_any _ _ _ _ _ _ _ _ hg3 (by decide) (by decide) (by decide)).mono ?_
  rintro e w4 ⟨rfl, hb4⟩
  have hy4 := ibox_next hy3 (by simp) hb4
  have hz4 := ibox_next hz3 (by simp) hb4
  have hs4 : w1.heap.size + 1 + 1 < w4.heap.size := Nat.lt_of_lt_of_le (by simp) hb4.size
  have hB4 := hB3.trans (hb4.mono hB3.size)
  have hg4 := hg.below hB4 (Nat.le_refl _)
  clear hy3 hz3 hg3 hb4 hB3
  go_wp2_with fail
  refine (rightv_any _ _ _ _ _ _ _ _ hg4 (by decide) (by decide) (by decide)).mono ?_
  rintro e w5 ⟨rfl, hb5⟩
  have hy5 := ibox_next hy4 (by omega) hb5
  have hB5 := hB4.trans (hb5.mono hB4.size)
  have hg5 := hg.below hB5 (Nat.le_refl _)
  clear hy4 hz4 hg4 hb5 hB4
  go_wp2_with fail
  refine (rightv_any _ _ _ _ _ _ _ _ hg5 (by decide) (by decide) (by decide)).mono ?_
  rintro e w6 ⟨rfl, hb6⟩
  have hB6 := hB5.trans (hb6.mono hB5.size)
  clear hy5 hg5 hb6 hB5 hs4 hs1
  go_wp2_with fail
  go_ret
  exact ⟨ret_bool (by first | rfl | simp [*]), hB6⟩

set_option maxHeartbeats 4000000 in
theorem uses_law3_2 (a : Int) (k : Int) (kk : Int) (w : World) (ht : Tab w) (hg : Glob w) (o : Nat) (ho : a.tmod 43 = o) (ho1 : o < 43) (hu : usesI ((o : Int) + 1) = 3) (hkk : bits .and .i64 k 1023 = kk) (hk0 : 0 ≤ kk) (hk1 : kk ≤ 1023) :
    Calls Tryd.prog 6 #[.int .u8 a, .int .i32 0, .int .i64 k, .string ⟨#[]⟩] w fun e w' => e = .returned (.bool true) ∧ Below w.heap.size w w' := by
  have hkn : knownB ((o : Int) + 1) = true := by unfold knownB; rw [decide_eq_true_eq]; omega
  have rx := rx3 hkn hu
  have rz := rz3 hkn hu
  have ry : rightI (((o : Int) + 1), 0, kk, ⟨#[]⟩, ⟨#[]⟩, ⟨#[]⟩, ⟨#[]⟩) = true := by
    rw [ry3 hkn hu hk0 hk1]; (first | rfl | simp [*])
  clear hkn
  go_enter Tryd.func6, Tryd.ntmps6
  simp only [List.append_eq, List.cons_append, List.nil_append]
  go_wp2_with fail
  refine (known_any _ ht hg).mono ?_
  rintro e w1 ⟨rfl, hb1⟩
  go_wp2_with fail
  refine (uses_any _ _).mono ?_
  rintro e w' ⟨rfl, rfl⟩
  go_wp2_with fail
  have hs1 := hb1.size
  have hB3 : Below w.heap.size w (((w1.alloc (.cells #[.int .i64 ((o : Int) + 1), .int .i32 0, .int .i64 0, .string ⟨#[]⟩, .string ⟨#[65]⟩, .string ⟨#[109]⟩, .string ⟨#[40, 41, 86]⟩] 29)).alloc (.cells #[.int .i64 ((o : Int) + 1), .int .i32 0, .int .i64 kk, .string ⟨#[]⟩, .string ⟨#[]⟩, .string ⟨#[]⟩, .string ⟨#[]⟩] 29)).alloc (.cells #[.int .i64 ((o : Int) + 1), .int .i32 0, .int .i64 0, .string ⟨#[]⟩, .string ⟨#[]⟩, .string ⟨#[]⟩, .string ⟨#[]⟩] 29)) := ((hb1.alloc hs1 _).alloc (by simp; omega) _).alloc (by simp; omega) _
  have hg3 := hg.below hB3 (Nat.le_refl _)
  have hy3 := ibox3y w1 (.cells #[.int .i64 ((o : Int) + 1), .int .i32 0, .int .i64 0, .string ⟨#[]⟩, .string ⟨#[65]⟩, .string ⟨#[109]⟩, .string ⟨#[40, 41, 86]⟩] 29) (.cells #[.int .i64 ((o : Int) + 1), .int .i32 0, .int .i64 0, .string ⟨#[]⟩, .string ⟨#[]⟩, .string ⟨#[]⟩, .string ⟨#[]⟩] 29) ((o : Int) + 1) 0 kk ⟨#[]⟩ ⟨#[]⟩ ⟨#[]⟩ ⟨#[]⟩
  have hz3 := ibox3z w1 (.cells #[.int .i64 ((o : Int) + 1), .int .i32 0, .int .i64 0, .string ⟨#[]⟩, .string ⟨#[65]⟩, .string ⟨#[109]⟩, .string ⟨#[40, 41, 86]⟩] 29) (.cells #[.int .i64 ((o : Int) + 1), .int .i32 0, .int .i64 kk, .string ⟨#[]⟩, .string ⟨#[]⟩, .string ⟨#[]⟩, .string ⟨#[]⟩] 29) ((o : Int) + 1) 0 0 ⟨#[]⟩ ⟨#[]⟩ ⟨#[]⟩ ⟨#[]⟩
  refine (rightv_any _ _ _ _ _ _ _ _ hg3 (by decide) (by decide) (by decide)).mono ?_
  rintro e w4 ⟨rfl, hb4⟩
  have hy4 := ibox_next hy3 (by simp) hb4
  have hz4 := ibox_next hz3 (by simp) hb4
  have hs4 : w1.heap.size + 1 + 1 < w4.heap.size := Nat.lt_of_lt_of_le (by simp) hb4.size
  have hB4 := hB3.trans (hb4.mono hB3.size)
  have hg4 := hg.below hB4 (Nat.le_refl _)
  clear hy3 hz3 hg3 hb4 hB3
  go_wp2_with fail
  refine (rightv_any _ _ _ _ _ _ _ _ hg4 (by decide) (by decide) (by decide)).mono ?_
  rintro e w5 ⟨rfl, hb5⟩
  have hy5 := ibox_next hy4 (by omega) hb5
  have hB5 := hB4.trans (hb5.mono hB4.size)
  have hg5 := hg.below hB5 (Nat.le_refl _)
  clear hy4 hz4 hg4 hb5 hB4
  go_wp2_with fail
  refine (rightv_any _ _ _ _ _ _ _ _ hg5 (by decide) (by decide) (by decide)).mono ?_
  rintro e w6 ⟨rfl, hb6⟩
  have hB6 := hB5.trans (hb6.mono hB5.size)
  clear hy5 hg5 hb6 hB5 hs4 hs1
  go_wp2_with fail
  go_ret
  exact ⟨ret_bool (by first | rfl | simp [*]), hB6⟩

set_option maxHeartbeats 4000000 in
theorem uses_law4_0 (a : Int) (n : Int) (k : Int) (kk : Int) (s : ByteArray) (w : World) (ht : Tab w) (hg : Glob w) (o : Nat) (ho : a.tmod 43 = o) (ho1 : o < 43) (hs : s.size ≤ 100) (hu : usesI ((o : Int) + 1) = 4) (hkk : bits .and .i64 k 1023 = kk) :
    Calls Tryd.prog 6 #[.int .u8 a, .int .i32 n, .int .i64 k, .string s] w fun e w' => e = .returned (.bool true) ∧ Below w.heap.size w w' := by
  have hkn : knownB ((o : Int) + 1) = true := by unfold knownB; rw [decide_eq_true_eq]; omega
  have rx := rx4 hkn hu
  have rz := rz4 hkn hu
  have ry : rightI (((o : Int) + 1), n, kk, s, ⟨#[]⟩, ⟨#[]⟩, ⟨#[]⟩) = false := by
    exact ry4 hkn hu
  clear hkn
  go_enter Tryd.func6, Tryd.ntmps6
  simp only [List.append_eq, List.cons_append, List.nil_append]
  go_wp2_with fail
  refine (known_any _ ht hg).mono ?_
  rintro e w1 ⟨rfl, hb1⟩
  go_wp2_with fail
  refine (uses_any _ _).mono ?_
  rintro e w' ⟨rfl, rfl⟩
  go_wp2_with fail
  have hs1 := hb1.size
  have hB3 : Below w.heap.size w (((w1.alloc (.cells #[.int .i64 ((o : Int) + 1), .int .i32 0, .int .i64 0, .string ⟨#[]⟩, .string ⟨#[65]⟩, .string ⟨#[109]⟩, .string ⟨#[40, 41, 86]⟩] 29)).alloc (.cells #[.int .i64 ((o : Int) + 1), .int .i32 n, .int .i64 kk, .string s, .string ⟨#[]⟩, .string ⟨#[]⟩, .string ⟨#[]⟩] 29)).alloc (.cells #[.int .i64 ((o : Int) + 1), .int .i32 0, .int .i64 0, .string ⟨#[]⟩, .string ⟨#[65]⟩, .string ⟨#[109]⟩, .string ⟨#[]⟩] 29)) := ((hb1.alloc hs1 _).alloc (by simp; omega) _).alloc (by simp; omega) _
  have hg3 := hg.below hB3 (Nat.le_refl _)
  have hy3 := ibox3y w1 (.cells #[.int .i64 ((o : Int) + 1), .int .i32 0, .int .i64 0, .string ⟨#[]⟩, .string ⟨#[65]⟩, .string ⟨#[109]⟩, .string ⟨#[40, 41, 86]⟩] 29) (.cells #[.int .i64 ((o : Int) + 1), .int .i32 0, .int .i64 0, .string ⟨#[]⟩, .string ⟨#[65]⟩, .string ⟨#[109]⟩, .string ⟨#[]⟩] 29) ((o : Int) + 1) n kk s ⟨#[]⟩ ⟨#[]⟩ ⟨#[]⟩
  have hz3 := ibox3z w1 (.cells #[.int .i64 ((o : Int) + 1), .int .i32 0, .int .i64 0, .string ⟨#[]⟩, .string ⟨#[65]⟩, .string ⟨#[109]⟩, .string ⟨#[40, 41, 86]⟩] 29) (.cells #[.int .i64 ((o : Int) + 1), .int .i32 n, .int .i64 kk, .string s, .string ⟨#[]⟩, .string ⟨#[]⟩, .string ⟨#[]⟩] 29) ((o : Int) + 1) 0 0 ⟨#[]⟩ ⟨#[65]⟩ ⟨#[109]⟩ ⟨#[]⟩
  refine (rightv_any _ _ _ _ _ _ _ _ hg3 (by decide) (by decide) (by decide)).mono ?_
  rintro e w4 ⟨rfl, hb4⟩
  have hy4 := ibox_next hy3 (by simp) hb4
  have hz4 := ibox_next hz3 (by simp) hb4
  have hs4 : w1.heap.size + 1 + 1 < w4.heap.size := Nat.lt_of_lt_of_le (by simp) hb4.size
  have hB4 := hB3.trans (hb4.mono hB3.size)
  have hg4 := hg.below hB4 (Nat.le_refl _)
  clear hy3 hz3 hg3 hb4 hB3
  go_wp2_with fail
  refine (rightv_any _ _ _ _ _ _ _ _ hg4 (by decide) (by decide) (by decide)).mono ?_
  rintro e w5 ⟨rfl, hb5⟩
  have hy5 := ibox_next hy4 (by omega) hb5
  have hB5 := hB4.trans (hb5.mono hB4.size)
  have hg5 := hg.below hB5 (Nat.le_refl _)
  clear hy4 hz4 hg4 hb5 hB4
  go_wp2_with fail
  refine (rightv_any _ _ _ _ _ _ _ _ hg5 (by decide) (by decide) (by decide)).mono ?_
  rintro e w6 ⟨rfl, hb6⟩
  have hB6 := hB5.trans (hb6.mono hB5.size)
  clear hy5 hg5 hb6 hB5 hs4 hs1
  go_wp2_with fail
  go_ret
  exact ⟨ret_bool (by first | rfl | simp [*]), hB6⟩

set_option maxHeartbeats 4000000 in
theorem uses_law5_0 (a : Int) (n : Int) (k : Int) (kk : Int) (s : ByteArray) (w : World) (ht : Tab w) (hg : Glob w) (o : Nat) (ho : a.tmod 43 = o) (ho1 : o < 43) (hs : s.size ≤ 100) (hu : usesI ((o : Int) + 1) = 5) (hkk : bits .and .i64 k 1023 = kk) :
    Calls Tryd.prog 6 #[.int .u8 a, .int .i32 n, .int .i64 k, .string s] w fun e w' => e = .returned (.bool true) ∧ Below w.heap.size w w' := by
  have hkn : knownB ((o : Int) + 1) = true := by unfold knownB; rw [decide_eq_true_eq]; omega
  have rx := rx5 hkn hu
  have rz := rz5 hkn hu
  have ry : rightI (((o : Int) + 1), n, kk, s, ⟨#[]⟩, ⟨#[]⟩, ⟨#[]⟩) = false := by
    exact ry5 hkn hu
  clear hkn
  go_enter Tryd.func6, Tryd.ntmps6
  simp only [List.append_eq, List.cons_append, List.nil_append]
  go_wp2_with fail
  refine (known_any _ ht hg).mono ?_
  rintro e w1 ⟨rfl, hb1⟩
  go_wp2_with fail
  refine (uses_any _ _).mono ?_
  rintro e w' ⟨rfl, rfl⟩
  go_wp2_with fail
  have hs1 := hb1.size
  have hB3 : Below w.heap.size w (((w1.alloc (.cells #[.int .i64 ((o : Int) + 1), .int .i32 0, .int .i64 0, .string ⟨#[]⟩, .string ⟨#[65]⟩, .string ⟨#[109]⟩, .string ⟨#[40, 41, 86]⟩] 29)).alloc (.cells #[.int .i64 ((o : Int) + 1), .int .i32 n, .int .i64 kk, .string s, .string ⟨#[]⟩, .string ⟨#[]⟩, .string ⟨#[]⟩] 29)).alloc (.cells #[.int .i64 ((o : Int) + 1), .int .i32 0, .int .i64 0, .string ⟨#[]⟩, .string ⟨#[65]⟩, .string ⟨#[109]⟩, .string ⟨#[40, 41, 86]⟩] 29)) := ((hb1.alloc hs1 _).alloc (by simp; omega) _).alloc (by simp; omega) _
  have hg3 := hg.below hB3 (Nat.le_refl _)
  have hy3 := ibox3y w1 (.cells #[.int .i64 ((o : Int) + 1), .int .i32 0, .int .i64 0, .string ⟨#[]⟩, .string ⟨#[65]⟩, .string ⟨#[109]⟩, .string ⟨#[40, 41, 86]⟩] 29) (.cells #[.int .i64 ((o : Int) + 1), .int .i32 0, .int .i64 0, .string ⟨#[]⟩, .string ⟨#[65]⟩, .string ⟨#[109]⟩, .string ⟨#[40, 41, 86]⟩] 29) ((o : Int) + 1) n kk s ⟨#[]⟩ ⟨#[]⟩ ⟨#[]⟩
  have hz3 := ibox3z w1 (.cells #[.int .i64 ((o : Int) + 1), .int .i32 0, .int .i64 0, .string ⟨#[]⟩, .string ⟨#[65]⟩, .string ⟨#[109]⟩, .string ⟨#[40, 41, 86]⟩] 29) (.cells #[.int .i64 ((o : Int) + 1), .int .i32 n, .int .i64 kk, .string s, .string ⟨#[]⟩, .string ⟨#[]⟩, .string ⟨#[]⟩] 29) ((o : Int) + 1) 0 0 ⟨#[]⟩ ⟨#[65]⟩ ⟨#[109]⟩ ⟨#[40, 41, 86]⟩
  refine (rightv_any _ _ _ _ _ _ _ _ hg3 (by decide) (by decide) (by decide)).mono ?_
  rintro e w4 ⟨rfl, hb4⟩
  have hy4 := ibox_next hy3 (by simp) hb4
  have hz4 := ibox_next hz3 (by simp) hb4
  have hs4 : w1.heap.size + 1 + 1 < w4.heap.size := Nat.lt_of_lt_of_le (by simp) hb4.size
  have hB4 := hB3.trans (hb4.mono hB3.size)
  have hg4 := hg.below hB4 (Nat.le_refl _)
  clear hy3 hz3 hg3 hb4 hB3
  go_wp2_with fail
  refine (rightv_any _ _ _ _ _ _ _ _ hg4 (by decide) (by decide) (by decide)).mono ?_
  rintro e w5 ⟨rfl, hb5⟩
  have hy5 := ibox_next hy4 (by omega) hb5
  have hB5 := hB4.trans (hb5.mono hB4.size)
  have hg5 := hg.below hB5 (Nat.le_refl _)
  clear hy4 hz4 hg4 hb5 hB4
  go_wp2_with fail
  refine (rightv_any _ _ _ _ _ _ _ _ hg5 (by decide) (by decide) (by decide)).mono ?_
  rintro e w6 ⟨rfl, hb6⟩
  have hB6 := hB5.trans (hb6.mono hB5.size)
  clear hy5 hg5 hb6 hB5 hs4 hs1
  go_wp2_with fail
  go_ret
  exact ⟨ret_bool (by first | rfl | simp [*]), hB6⟩

set_option maxHeartbeats 4000000 in
theorem uses_law6_0 (a : Int) (n : Int) (k : Int) (kk : Int) (s : ByteArray) (w : World) (ht : Tab w) (hg : Glob w) (o : Nat) (ho : a.tmod 43 = o) (ho1 : o < 43) (hs : s.size ≤ 100) (hu : usesI ((o : Int) + 1) = 6) (hkk : bits .and .i64 k 1023 = kk) :
    Calls Tryd.prog 6 #[.int .u8 a, .int .i32 n, .int .i64 k, .string s] w fun e w' => e = .returned (.bool true) ∧ Below w.heap.size w w' := by
  have hkn : knownB ((o : Int) + 1) = true := by unfold knownB; rw [decide_eq_true_eq]; omega
  have rx := rx6 hkn hu
  have rz := rz6 hkn hu
  have ry : rightI (((o : Int) + 1), n, kk, s, ⟨#[]⟩, ⟨#[]⟩, ⟨#[]⟩) = false := by
    exact ry6 hkn hu
  clear hkn
  go_enter Tryd.func6, Tryd.ntmps6
  simp only [List.append_eq, List.cons_append, List.nil_append]
  go_wp2_with fail
  refine (known_any _ ht hg).mono ?_
  rintro e w1 ⟨rfl, hb1⟩
  go_wp2_with fail
  refine (uses_any _ _).mono ?_
  rintro e w' ⟨rfl, rfl⟩
  go_wp2_with fail
  have hs1 := hb1.size
  have hB3 : Below w.heap.size w (((w1.alloc (.cells #[.int .i64 ((o : Int) + 1), .int .i32 0, .int .i64 0, .string ⟨#[]⟩, .string ⟨#[65]⟩, .string ⟨#[109]⟩, .string ⟨#[40, 41, 86]⟩] 29)).alloc (.cells #[.int .i64 ((o : Int) + 1), .int .i32 n, .int .i64 kk, .string s, .string ⟨#[]⟩, .string ⟨#[]⟩, .string ⟨#[]⟩] 29)).alloc (.cells #[.int .i64 ((o : Int) + 1), .int .i32 0, .int .i64 0, .string ⟨#[]⟩, .string ⟨#[65]⟩, .string ⟨#[]⟩, .string ⟨#[]⟩] 29)) := ((hb1.alloc hs1 _).alloc (by simp; omega) _).alloc (by simp; omega) _
  have hg3 := hg.below hB3 (Nat.le_refl _)
  have hy3 := ibox3y w1 (.cells #[.int .i64 ((o : Int) + 1), .int .i32 0, .int .i64 0, .string ⟨#[]⟩, .string ⟨#[65]⟩, .string ⟨#[109]⟩, .string ⟨#[40, 41, 86]⟩] 29) (.cells #[.int .i64 ((o : Int) + 1), .int .i32 0, .int .i64 0, .string ⟨#[]⟩, .string ⟨#[65]⟩, .string ⟨#[]⟩, .string ⟨#[]⟩] 29) ((o : Int) + 1) n kk s ⟨#[]⟩ ⟨#[]⟩ ⟨#[]⟩
  have hz3 := ibox3z w1 (.cells #[.int .i64 ((o : Int) + 1), .int .i32 0, .int .i64 0, .string ⟨#[]⟩, .string ⟨#[65]⟩, .string ⟨#[109]⟩, .string ⟨#[40, 41, 86]⟩] 29) (.cells #[.int .i64 ((o : Int) + 1), .int .i32 n, .int .i64 kk, .string s, .string ⟨#[]⟩, .string ⟨#[]⟩, .string ⟨#[]⟩] 29) ((o : Int) + 1) 0 0 ⟨#[]⟩ ⟨#[65]⟩ ⟨#[]⟩ ⟨#[]⟩
  refine (rightv_any _ _ _ _ _ _ _ _ hg3 (by decide) (by decide) (by decide)).mono ?_
  rintro e w4 ⟨rfl, hb4⟩
  have hy4 := ibox_next hy3 (by simp) hb4
  have hz4 := ibox_next hz3 (by simp) hb4
  have hs4 : w1.heap.size + 1 + 1 < w4.heap.size := Nat.lt_of_lt_of_le (by simp) hb4.size
  have hB4 := hB3.trans (hb4.mono hB3.size)
  have hg4 := hg.below hB4 (Nat.le_refl _)
  clear hy3 hz3 hg3 hb4 hB3
  go_wp2_with fail
  refine (rightv_any _ _ _ _ _ _ _ _ hg4 (by decide) (by decide) (by decide)).mono ?_
  rintro e w5 ⟨rfl, hb5⟩
  have hy5 := ibox_next hy4 (by omega) hb5
  have hB5 := hB4.trans (hb5.mono hB4.size)
  have hg5 := hg.below hB5 (Nat.le_refl _)
  clear hy4 hz4 hg4 hb5 hB4
  go_wp2_with fail
  refine (rightv_any _ _ _ _ _ _ _ _ hg5 (by decide) (by decide) (by decide)).mono ?_
  rintro e w6 ⟨rfl, hb6⟩
  have hB6 := hB5.trans (hb6.mono hB5.size)
  clear hy5 hg5 hb6 hB5 hs4 hs1
  go_wp2_with fail
  go_ret
  exact ⟨ret_bool (by first | rfl | simp [*]), hB6⟩

set_option maxHeartbeats 8000000 in
theorem uses_law (a n k : Int) (s : ByteArray) (w : World) (ht : Tab w) (hg : Glob w) (ha0 : 0 ≤ a) (_ : a ≤ 255) :
    Calls Tryd.prog 6 #[.int .u8 a, .int .i32 n, .int .i64 k, .string s] w fun e w' => e = .returned (.bool true) ∧ Below w.heap.size w w' := by
  by_cases hs : 100 < s.size
  · go_enter Tryd.func6, Tryd.ntmps6
    simp only [List.append_eq, List.cons_append, List.nil_append]
    go_wp2_with fail
    refine (known_any _ ht hg).mono ?_
    rintro e w1 ⟨rfl, hb1⟩
    go_wp2_with fail
    go_ret
    exact ⟨rfl, hb1⟩
  have hs' : s.size ≤ 100 := by omega
  obtain ⟨o, ho, ho1⟩ : ∃ o : Nat, a.tmod 43 = o ∧ o < 43 := ⟨(a % 43).toNat, by rw [Int.tmod_eq_emod_of_nonneg ha0]; omega, by omega⟩
  have hs_ := hs'
  clear hs hs'
  obtain ⟨kk, hkk, hk0, hk1⟩ : ∃ kk : Int, bits .and .i64 k 1023 = kk ∧ 0 ≤ kk ∧ kk ≤ 1023 := ⟨k % 1024, and1023 k, by omega, by omega⟩
  rcases usesI_seven ((o : Int) + 1) with h | h | h | h | h | h | h
  · skip
    by_cases cn : n = 0
    · subst cn
      by_cases ck : kk = 0
      · subst ck
        by_cases cs : s = ⟨#[]⟩
        · subst cs
          exact uses_law0_3 a k w ht hg o ho ho1 h hkk
        · exact uses_law0_2 a k s w ht hg o ho ho1 hs_ h hkk cs
      · exact uses_law0_1 a k kk s w ht hg o ho ho1 hs_ h hkk ck
    · exact uses_law0_0 a n k kk s w ht hg o ho ho1 hs_ h hkk cn
  · skip
    by_cases ck : kk = 0
    · subst ck
      by_cases cs : s = ⟨#[]⟩
      · subst cs
        exact uses_law1_2 a n k w ht hg o ho ho1 h hkk
      · exact uses_law1_1 a n k s w ht hg o ho ho1 hs_ h hkk cs
    · exact uses_law1_0 a n k kk s w ht hg o ho ho1 hs_ h hkk ck
  · skip
    by_cases cn : n = 0
    · subst cn
      by_cases ck : kk = 0
      · subst ck
        exact uses_law2_2 a k s w ht hg o ho ho1 hs_ h hkk
      · exact uses_law2_1 a k kk s w ht hg o ho ho1 hs_ h hkk ck
    · exact uses_law2_0 a n k kk s w ht hg o ho ho1 hs_ h hkk cn
  · skip
    by_cases cn : n = 0
    · subst cn
      by_cases cs : s = ⟨#[]⟩
      · subst cs
        exact uses_law3_2 a k kk w ht hg o ho ho1 h hkk hk0 hk1
      · exact uses_law3_1 a k kk s w ht hg o ho ho1 hs_ h hkk hk0 hk1 cs
    · exact uses_law3_0 a n k kk s w ht hg o ho ho1 hs_ h hkk hk0 hk1 cn
  · skip
    exact uses_law4_0 a n k kk s w ht hg o ho ho1 hs_ h hkk
  · skip
    exact uses_law5_0 a n k kk s w ht hg o ho ho1 hs_ h hkk
  · skip
    exact uses_law6_0 a n k kk s w ht hg o ho ho1 hs_ h hkk

end Go.Proofs.YtibciicpgjgjbaaDoor
