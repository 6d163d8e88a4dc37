/- What the small functions on numbers answer. -/
import Derived.Test.YtnpbhpidciiciaaBase
namespace Go.Proofs.Ytnpbhpidciiciaa
open Go.RowKit

set_option maxHeartbeats 400000 in
theorem count_any (n : Int) (w : World) (h1 : -9223372036854775808 ≤ n) (h2 : n ≤ 9223372036854775807) :
    Calls Try.prog 34 #[.int .i64 n] w fun e w' => e = .returned (.int .u64 (cnt n : Int)) ∧ w = w' := by
  by_cases h : 0 ≤ n
  all_goals
    go_enter Try.func34, Try.ntmps34
    go_wp2
    go_ret
    exact ⟨ret_int (by unfold cnt; omega), rfl⟩

set_option maxHeartbeats 400000 in
set_option maxRecDepth 100000 in
theorem width_any (v : Nat) (w : World) (h1 : U64 v) :
    Calls Try.prog 33 #[.int .u64 v] w fun e w' => e = .returned (.int .i64 (nb v).length) ∧ w = w' := by
  have hl := nb_len10 h1.out
  go_enter Try.func33, Try.ntmps33
  go_wp2
  go_loop [0, 3] (fun x n => ∃ (k u : Nat), U64 u ∧ x = .int .u64 u ∧ n = .int .i64 k ∧ k + (nb u).length = 1 + (nb v).length) (fun x _ => (intOf x).toNat)
  case atStart => exact ⟨1, v, h1, rfl, rfl, rfl⟩
  case round =>
    obtain ⟨k, u, hu, rfl, rfl, hk⟩ := hrel
    have hp := nb_pos u
    have hk11 : k ≤ 10 := by omega
    have H := Lib.hid hk; clear hk
    by_cases hlt : u < 128
    · go_wp2
      go_ret
      exact ⟨ret_int (by have := H.out; rw [nb_small hlt] at this; simp at this; omega), rfl⟩
    · go_wp2
      go_round
      case rel => exact ⟨k + 1, u / 128, U64.div hu _, by go_num, by go_num, by have := H.out; rw [nb_big hlt] at this; simp at this; omega⟩
      case measure => simp [intOf]; omega

/-- what 'whole' answers -/
def wholeR (v s l m : Nat) : Nat × Nat × Nat :=
  if l = 0 ∧ 1 < s then (0, 0, 21) else if m < v then (0, 0, 22) else (v, s, 0)

def tri (r : Nat × Nat × Nat) : Value := .tuple #[.int .u64 r.1, .int .i64 r.2.1, .int .i64 r.2.2]

theorem tri_eq (r : Nat × Nat × Nat) (a b c : Nat) (h : r = (a, b, c)) : Ending.returned (.tuple #[.int .u64 a, .int .i64 b, .int .i64 c]) = Ending.returned (tri r) := by rw [h]; rfl

set_option maxHeartbeats 400000 in
theorem whole_any (v s l m : Nat) (w : World) (_hv : U64 v) (hs : s < 100) (hl : l < 256) (_hm : U64 m) :
    Calls Try.prog 41 #[.int .u64 v, .int .i64 s, .int .u8 l, .int .u64 m] w fun e w' => e = .returned (tri (wholeR v s l m)) ∧ w = w' := by
  by_cases hc : l = 0
  · subst hc
    by_cases h1 : 1 < s
    · go_enter Try.func41, Try.ntmps41
      go_wp2
      go_ret3
      exact ⟨tri_eq _ 0 0 21 (by unfold wholeR; rw [if_pos ⟨rfl, h1⟩]), rfl⟩
    · by_cases h3 : m < v
      · go_enter Try.func41, Try.ntmps41
        go_wp2
        go_ret3
        exact ⟨tri_eq _ 0 0 22 (by unfold wholeR; rw [if_neg (by omega), if_pos h3]), rfl⟩
      · go_enter Try.func41, Try.ntmps41
        go_wp2
        go_ret3
        exact ⟨tri_eq _ v s 0 (by unfold wholeR; rw [if_neg (by omega), if_neg h3]), rfl⟩
  · have hcb : ((l : Int) == 0) = false := beq_eq_false_iff_ne.2 (by omega)
    by_cases h3 : m < v
    · go_enter Try.func41, Try.ntmps41
      go_wp2
      go_ret3
      exact ⟨tri_eq _ 0 0 22 (by unfold wholeR; rw [if_neg (by omega), if_pos h3]), rfl⟩
    · go_enter Try.func41, Try.ntmps41
      go_wp2
      go_ret3
      exact ⟨tri_eq _ v s 0 (by unfold wholeR; rw [if_neg (by omega), if_neg h3]), rfl⟩
theorem whole_tup (v s l m : Nat) (w : World) (hv : U64 v) (hs : s < 100) (hl : l < 256) (hm : U64 m) :
    Calls Try.prog 41 #[.int .u64 v, .int .i64 s, .int .u8 l, .int .u64 m] w fun e w' => ∃ a b c : Nat, Hid (wholeR v s l m = (a, b, c)) ∧ e = .returned (.tuple #[.int .u64 a, .int .i64 b, .int .i64 c]) ∧ w = w' :=
  (whole_any v s l m w hv hs hl hm).mono fun _ _ ⟨he, hw⟩ => ⟨_, _, _, Lib.hid rfl, he, hw⟩

end Go.Proofs.Ytnpbhpidciiciaa
