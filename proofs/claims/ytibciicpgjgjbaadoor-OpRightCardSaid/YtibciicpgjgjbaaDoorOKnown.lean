/- known answers true. -/
import Derived.Test.YtibciicpgjgjbaaDoorORRight
namespace Go.Proofs.YtibciicpgjgjbaaDoor
open Go.RowKit

theorem rightv_any (o n k : Int) (s c m d : ByteArray) (w : World) (hg : Glob w) (hc : c.size ≤ maxLen) (hm : m.size ≤ maxLen) (hd : d.size ≤ 4294967280) :
    Calls Tryd.prog 18 #[.agg #[.int .i64 o, .int .i32 n, .int .i64 k, .string s, .string c, .string m, .string d]] w fun e w' => e = .returned (.bool (rightI (o, n, k, s, c, m, d))) ∧ Below w.heap.size w w' := by
  have := right_any o n k s c m d w hg hc hm hd
  rw [insV_mk] at this
  exact this

theorem rrightv_any (o n k : Int) (s c m d : ByteArray) (w : World) (hg : Glob w) (hc : c.size ≤ maxLen) (hm : m.size ≤ maxLen) (hd : d.size ≤ 4294967280) (hs : s.size ≤ maxLen) :
    Calls Tryd.prog 19 #[.agg #[.int .i64 o, .int .i32 n, .int .i64 k, .string s, .string c, .string m, .string d]] w fun e w' => e = .returned (.bool (rightI (o, n, k, s, c, m, d))) ∧ Below w.heap.size w w' := by
  have := rright_any o n k s c m d w hg hc hm hd hs
  rw [insV_mk] at this
  exact this

theorem samev_any (o n k o' n' k' : Int) (s c m d s' c' m' d' : ByteArray) (w : World) :
    Calls Tryd.prog 20 #[.agg #[.int .i64 o, .int .i32 n, .int .i64 k, .string s, .string c, .string m, .string d], .agg #[.int .i64 o', .int .i32 n', .int .i64 k', .string s', .string c', .string m', .string d']] w fun e w' => e = .returned (.bool (decide ((o, n, k, s, c, m, d) = (o', n', k', s', c', m', d')))) ∧ Below w.heap.size w w' := by
  have := same_any o n k o' n' k' s c m d s' c' m' d' w
  rw [insV_mk, insV_mk] at this
  exact this

set_option maxHeartbeats 4000000 in
theorem known_any (w : World) (ht : Tab w) (hg : Glob w) : Calls Tryd.prog 7 #[] w fun e w' => e = .returned (.bool true) ∧ Below w.heap.size w w' := by
  have n1 : opName 1 = ⟨#[80, 117, 115, 104, 73]⟩ := by kernel_rfl
  have n2 : opName 44 = ⟨#[]⟩ := by kernel_rfl
  have n3 : opName 43 = ⟨#[69, 120, 105, 116]⟩ := by kernel_rfl
  have u1 : usesI 2 = 2 := by kernel_rfl
  have u2 : usesI 37 = 5 := by kernel_rfl
  have u3 : usesI 31 = 6 := by kernel_rfl
  have r1 : rightI (4, 0, 3, ⟨#[]⟩, ⟨#[]⟩, ⟨#[]⟩, ⟨#[]⟩) = true := by kernel_rfl
  have r2 : rightI (4, 3, 0, ⟨#[]⟩, ⟨#[]⟩, ⟨#[]⟩, ⟨#[]⟩) = false := by kernel_rfl
  have e1 : endsB 38 = true := by kernel_rfl
  have e2 : endsB 20 = false := by kernel_rfl
  have j1 : jumpsB 20 = true := by kernel_rfl
  have c1 : callsB 35 = true := by kernel_rfl
  go_enter Tryd.func7, Tryd.ntmps7
  go_wp2_with fail
  refine (opname_any _ _ ht).mono ?_
  rintro e w' ⟨rfl, rfl⟩
  go_wp2_with fail
  refine (opname_any _ _ ht).mono ?_
  rintro e w' ⟨rfl, rfl⟩
  go_wp2_with fail
  refine (opname_any _ _ ht).mono ?_
  rintro e w' ⟨rfl, rfl⟩
  go_wp2_with fail
  refine (uses_any _ _).mono ?_
  rintro e w' ⟨rfl, rfl⟩
  go_wp2_with fail
  refine (uses_any _ _).mono ?_
  rintro e w' ⟨rfl, rfl⟩
  go_wp2_with fail
  refine (uses_any _ _).mono ?_
  rintro e w' ⟨rfl, rfl⟩
  go_wp2_with fail
  refine (rightv_any _ _ _ _ _ _ _ _ hg (by decide) (by decide) (by decide)).mono ?_
  rintro e w1 ⟨rfl, hb1⟩
  have hg1 := hg.below hb1 (Nat.le_refl _)
  go_wp2_with fail
  refine (rightv_any _ _ _ _ _ _ _ _ hg1 (by decide) (by decide) (by decide)).mono ?_
  rintro e w2 ⟨rfl, hb2⟩
  go_wp2_with fail
  refine (ends_any _ _).mono ?_
  rintro e w' ⟨rfl, rfl⟩
  go_wp2_with fail
  refine (jumps_any _ _).mono ?_
  rintro e w' ⟨rfl, rfl⟩
  go_wp2_with fail
  refine (ends_any _ _).mono ?_
  rintro e w' ⟨rfl, rfl⟩
  go_wp2_with fail
  refine (calls_any _ _).mono ?_
  rintro e w' ⟨rfl, rfl⟩
  go_wp2_with fail
  refine (samev_any _ _ _ _ _ _ _ _ _ _ _ _ _ _ _).mono ?_
  rintro e w3 ⟨rfl, hb3⟩
  go_wp2_with fail
  go_ret
  exact ⟨ret_bool (by simp), (hb1.trans (hb2.mono hb1.size)).trans (hb3.mono (Nat.le_trans hb1.size hb2.size))⟩

end Go.Proofs.YtibciicpgjgjbaaDoor
