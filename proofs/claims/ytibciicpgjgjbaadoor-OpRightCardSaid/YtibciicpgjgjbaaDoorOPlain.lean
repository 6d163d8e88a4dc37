/- What each op is: plain functions, and what the calls of package op and of the reference answer. -/
import Derived.Test.YtibciicpgjgjbaaDoorDRlist
namespace Go.Proofs.YtibciicpgjgjbaaDoor
open Go.RowKit

/-- the kind of what an op uses -/
def usesI (o : Int) : Int :=
  if o = 1 then 1 else if o = 2 then 2 else if o = 4 then 3 else if o = 5 then 3 else if o = 19 then 3 else if o = 20 then 3 else
  if o = 26 then 4 else if o = 27 then 4 else if o = 28 then 4 else if o = 29 then 4 else
  if o = 34 then 5 else if o = 35 then 5 else if o = 36 then 5 else if o = 37 then 5 else
  if o = 25 then 6 else if o = 30 then 6 else if o = 31 then 6 else 0
def endsB (o : Int) : Bool := decide (o = 19 ∨ o = 38 ∨ o = 39 ∨ o = 40 ∨ o = 43)
def jumpsB (o : Int) : Bool := decide (o = 19 ∨ o = 20)
def callsB (o : Int) : Bool := decide (usesI o = 5)
theorem callsB_eq (o : Int) : callsB o = decide (o = 34 ∨ o = 35 ∨ o = 36 ∨ o = 37) := by
  rw [Bool.eq_iff_iff]
  simp only [callsB, decide_eq_true_eq]
  unfold usesI
  omega
def knownB (o : Int) : Bool := decide (0 < o ∧ o < 44)

theorem ret_i64 {a b : Int} (h : a = b) : Ending.returned (.int .i64 a) = .returned (.int .i64 b) := by rw [h]

theorem knownop_any (o : Int) (w : World) :
    Calls Tryd.prog 21 #[.int .i64 o] w fun e w' => e = .returned (.bool (knownB o)) ∧ w = w' := by
  go_enter Tryd.func21, Tryd.ntmps21
  go_wp2
  all_goals go_ret
  all_goals refine ⟨ret_bool ?_, rfl⟩
  all_goals (rw [Bool.eq_iff_iff]; simp [knownB]; try omega)

set_option maxHeartbeats 1000000 in
theorem uses_any (o : Int) (w : World) :
    Calls Tryd.prog 10 #[.int .i64 o] w fun e w' => e = .returned (.int .i64 (usesI o)) ∧ w = w' := by
  go_enter Tryd.func10, Tryd.ntmps10
  go_wp2
  all_goals go_ret
  all_goals refine ⟨ret_i64 ?_, rfl⟩
  all_goals simp_all [usesI]

set_option maxHeartbeats 1000000 in
theorem ruses_any (o : Int) (w : World) :
    Calls Tryd.prog 11 #[.int .i64 o] w fun e w' => e = .returned (.int .i64 (usesI o)) ∧ w = w' := by
  go_enter Tryd.func11, Tryd.ntmps11
  go_wp2
  all_goals go_ret
  all_goals refine ⟨ret_i64 ?_, rfl⟩
  all_goals simp_all [usesI]

set_option maxHeartbeats 1000000 in
theorem ends_any (o : Int) (w : World) :
    Calls Tryd.prog 12 #[.int .i64 o] w fun e w' => e = .returned (.bool (endsB o)) ∧ w = w' := by
  go_enter Tryd.func12, Tryd.ntmps12
  go_wp2
  all_goals go_ret
  all_goals refine ⟨ret_bool ?_, rfl⟩
  all_goals (rw [Bool.eq_iff_iff]; simp_all [endsB])

set_option maxHeartbeats 1000000 in
theorem rends_any (o : Int) (w : World) :
    Calls Tryd.prog 13 #[.int .i64 o] w fun e w' => e = .returned (.bool (endsB o)) ∧ w = w' := by
  go_enter Tryd.func13, Tryd.ntmps13
  go_wp2
  all_goals go_ret
  all_goals refine ⟨ret_bool ?_, rfl⟩
  all_goals (rw [Bool.eq_iff_iff]; simp_all [endsB])

set_option maxHeartbeats 1000000 in
theorem jumps_any (o : Int) (w : World) :
    Calls Tryd.prog 14 #[.int .i64 o] w fun e w' => e = .returned (.bool (jumpsB o)) ∧ w = w' := by
  go_enter Tryd.func14, Tryd.ntmps14
  go_wp2
  all_goals go_ret
  all_goals refine ⟨ret_bool ?_, rfl⟩
  all_goals (rw [Bool.eq_iff_iff]; simp_all [jumpsB])

set_option maxHeartbeats 1000000 in
theorem rjumps_any (o : Int) (w : World) :
    Calls Tryd.prog 15 #[.int .i64 o] w fun e w' => e = .returned (.bool (jumpsB o)) ∧ w = w' := by
  go_enter Tryd.func15, Tryd.ntmps15
  go_wp2
  all_goals go_ret
  all_goals refine ⟨ret_bool ?_, rfl⟩
  all_goals (rw [Bool.eq_iff_iff]; simp_all [jumpsB])

set_option maxHeartbeats 1000000 in
theorem calls_any (o : Int) (w : World) :
    Calls Tryd.prog 16 #[.int .i64 o] w fun e w' => e = .returned (.bool (callsB o)) ∧ w = w' := by
  go_enter Tryd.func16, Tryd.ntmps16
  go_wp2
  all_goals go_ret
  all_goals refine ⟨ret_bool ?_, rfl⟩
  all_goals (rw [callsB_eq, Bool.eq_iff_iff]; simp_all)

theorem rcalls_any (o : Int) (w : World) :
    Calls Tryd.prog 17 #[.int .i64 o] w fun e w' => e = .returned (.bool (callsB o)) ∧ w = w' := by
  go_enter Tryd.func17, Tryd.ntmps17
  go_wp2_with (go_at_call 11; refine (ruses_any _ _).mono ?_; rintro e w' ⟨rfl, rfl⟩)
  go_ret
  exact ⟨ret_bool (by rw [Bool.eq_iff_iff]; simp [callsB]), rfl⟩

/-- what api calls each op; the place 0 is nobody's -/
def tabL : List ByteArray := [⟨#[]⟩, ⟨#[80, 117, 115, 104, 73]⟩, ⟨#[80, 117, 115, 104, 83]⟩, ⟨#[80, 117, 115, 104, 78]⟩, ⟨#[76, 111, 97, 100]⟩, ⟨#[83, 116, 111, 114, 101]⟩, ⟨#[80, 111, 112]⟩, ⟨#[68, 117, 112]⟩, ⟨#[65, 100, 100]⟩, ⟨#[83, 117, 98]⟩, ⟨#[77, 117, 108]⟩, ⟨#[68, 105, 118]⟩, ⟨#[82, 101, 109]⟩, ⟨#[78, 101, 103]⟩, ⟨#[76, 116]⟩, ⟨#[69, 113]⟩, ⟨#[67, 111, 110, 99, 97, 116]⟩, ⟨#[76, 101, 110]⟩, ⟨#[84, 101, 120, 116]⟩, ⟨#[74, 117, 109, 112]⟩, ⟨#[74, 117, 109, 112, 90]⟩, ⟨#[78, 101, 119, 65]⟩, ⟨#[76, 101, 110, 65]⟩, ⟨#[71, 101, 116, 65]⟩, ⟨#[80, 117, 116, 65]⟩, ⟨#[78, 101, 119]⟩, ⟨#[71, 101, 116, 70]⟩, ⟨#[80, 117, 116, 70]⟩, ⟨#[71, 101, 116, 83]⟩, ⟨#[80, 117, 116, 83]⟩, ⟨#[67, 97, 115, 116]⟩, ⟨#[73, 115]⟩, ⟨#[83, 97, 109, 101]⟩, ⟨#[67, 104, 101, 99, 107]⟩, ⟨#[67, 97, 108, 108, 86]⟩, ⟨#[67, 97, 108, 108, 73]⟩, ⟨#[67, 97, 108, 108, 83]⟩, ⟨#[67, 97, 108, 108, 88]⟩, ⟨#[84, 104, 114, 111, 119]⟩, ⟨#[82, 101, 116]⟩, ⟨#[82, 101, 116, 86]⟩, ⟨#[80, 114, 105, 110, 116]⟩, ⟨#[82, 101, 97, 100]⟩, ⟨#[69, 120, 105, 116]⟩]
def opName (o : Int) : ByteArray := if 0 < o ∧ o < 44 then tabL.getD o.toNat ⟨#[]⟩ else ⟨#[]⟩
/-- package op's table holds these texts -/
def Tab (w : World) : Prop := ∀ n : Nat, n < 44 → w.cell? ⟨0, n, none⟩ = some (.string (tabL.getD n ⟨#[]⟩))

theorem Tab.below {w w' : World} {B : Nat} (h : Tab w) (hb : Below B w w') (hB : w.heap.size ≤ B) : Tab w' := fun n hn => by
  have := World.block_lt_of_cell? _ _ (h n hn)
  rw [hb.cell (p := ⟨0, n, none⟩) (by simp only at this ⊢; omega)]; exact h n hn
theorem Tab.alloc {w : World} (h : Tab w) (o : Obj) : Tab (w.alloc o) := h.below ((Below.refl w.heap.size w).alloc (Nat.le_refl _) o) (Nat.le_refl _)

theorem opName_out {o : Int} (h : knownB o = false) : opName o = ⟨#[]⟩ := by
  unfold opName; unfold knownB at h
  rw [if_neg (by simpa using h)]
theorem opName_in {n : Nat} (h0 : 0 < n) (h1 : n < 44) : opName (n : Int) = tabL.getD n ⟨#[]⟩ := by
  unfold opName
  rw [if_pos ⟨by omega, by omega⟩]; rfl

theorem opname_any (o : Int) (w : World) (ht : Tab w) :
    Calls Tryd.prog 8 #[.int .i64 o] w fun e w' => e = .returned (.string (opName o)) ∧ w = w' := by
  cases hk : knownB o with
  | false =>
    have HF := Lib.hid (opName_out hk)
    go_enter Tryd.func8, Tryd.ntmps8
    go_wp2_with (go_at_call 21; refine (knownop_any _ _).mono ?_; rintro e w' ⟨rfl, rfl⟩)
    go_ret
    exact ⟨ret_str HF.out.symm, rfl⟩
  | true =>
    have hk' := hk
    unfold knownB at hk'
    simp only [decide_eq_true_eq] at hk'
    obtain ⟨n, rfl⟩ : ∃ n : Nat, o = n := ⟨o.toNat, by omega⟩
    have h0 : 0 < n := by omega
    have h1 : n < 44 := by omega
    have HF := Lib.hid (opName_in h0 h1)
    have hc := ht n h1
    clear hk' ht
    go_enter Tryd.func8, Tryd.ntmps8
    go_wp2_with (go_at_call 21; refine (knownop_any _ _).mono ?_; rintro e w' ⟨rfl, rfl⟩)
    go_ret
    exact ⟨ret_str HF.out.symm, rfl⟩

end Go.Proofs.YtibciicpgjgjbaaDoor
