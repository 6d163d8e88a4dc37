/- Same, used: what they answer. -/
import Derived.Test.YtibciicpgjgjbaaDoorOPlain
import Derived.RegionTactic
namespace Go.Proofs.YtibciicpgjgjbaaDoor
open Go.RowKit

theorem str_ext {a b : ByteArray} (h : a.toList = b.toList) : a = b := by
  rw [Lib.toList_data, Lib.toList_data] at h
  obtain ⟨⟨x⟩⟩ := a
  obtain ⟨⟨y⟩⟩ := b
  simp only at h
  rw [h]

/-- an instruction's fields -/
abbrev Ins : Type := Int × Int × Int × ByteArray × ByteArray × ByteArray × ByteArray
def insV (x : Ins) : Value := .agg #[.int .i64 x.1, .int .i32 x.2.1, .int .i64 x.2.2.1, .string x.2.2.2.1, .string x.2.2.2.2.1, .string x.2.2.2.2.2.1, .string x.2.2.2.2.2.2]

/-- what an instruction uses -/
def usedI (x : Ins) : Ins :=
  (x.1, (if usesI x.1 = 1 then x.2.1 else 0), (if usesI x.1 = 3 then x.2.2.1 else 0), (if usesI x.1 = 2 then x.2.2.2.1 else ⟨#[]⟩),
    (if usesI x.1 = 4 ∨ usesI x.1 = 5 ∨ usesI x.1 = 6 then x.2.2.2.2.1 else ⟨#[]⟩), (if usesI x.1 = 4 ∨ usesI x.1 = 5 then x.2.2.2.2.2.1 else ⟨#[]⟩), (if usesI x.1 = 5 then x.2.2.2.2.2.2 else ⟨#[]⟩))

theorem same_any (o n k o' n' k' : Int) (s c m d s' c' m' d' : ByteArray) (w : World) :
    Calls Tryd.prog 20 #[insV (o, n, k, s, c, m, d), insV (o', n', k', s', c', m', d')] w fun e w' => e = .returned (.bool (decide ((o, n, k, s, c, m, d) = (o', n', k', s', c', m', d')))) ∧ Below w.heap.size w w' := by
  unfold insV
  go_enter Tryd.func20, Tryd.ntmps20
  go_wp2
  all_goals go_ret
  all_goals refine ⟨ret_bool ?_, ((Below.refl _ _).alloc (Nat.le_refl _) _).alloc (by simp) _⟩
  · rename_i h1 h2 h3 h4 h5 h6 h7
    subst h1; subst h2; subst h3
    rw [str_ext h4, str_ext h5, str_ext h6, str_ext h7]
    simp
  all_goals (symm; rw [decide_eq_false_iff_not]; intro e; simp only [Prod.mk.injEq] at e; obtain ⟨e1, e2, e3, e4, e5, e6, e7⟩ := e; simp_all)

theorem insV_mk (o n k : Int) (s c m d : ByteArray) : insV (o, n, k, s, c, m, d) = .agg #[.int .i64 o, .int .i32 n, .int .i64 k, .string s, .string c, .string m, .string d] := rfl

set_option maxHeartbeats 1000000 in
theorem used_any (o n k : Int) (s c m d : ByteArray) (w : World) :
    Calls Tryd.prog 22 #[insV (o, n, k, s, c, m, d)] w fun e w' => e = .returned (insV (usedI (o, n, k, s, c, m, d))) ∧ Below w.heap.size w w' := by
  rw [insV_mk]
  go_enter Tryd.func22, Tryd.ntmps22
  go_wp2_with (go_at_call 10; refine (uses_any _ _).mono ?_; rintro e w' ⟨rfl, rfl⟩)
  all_goals refine bodyPost_ret (v := insV (usedI (o, n, k, s, c, m, d))) ?_ rfl ⟨rfl, ?_⟩
  all_goals simp_all [results, Tryd.results22, go_sem, insV, usedI]
  all_goals exact ((Below.refl _ _).alloc (Nat.le_refl _) _).alloc (by simp) _

set_option maxHeartbeats 4000000 in
theorem rused_any (o n k : Int) (s c m d : ByteArray) (w : World) :
    Calls Tryd.prog 24 #[insV (o, n, k, s, c, m, d)] w fun e w' => e = .returned (insV (usedI (o, n, k, s, c, m, d))) ∧ Below w.heap.size w w' := by
  rw [insV_mk]
  go_enter Tryd.func24, Tryd.ntmps24
  go_wp2_with (go_at_call 11; refine (ruses_any _ _).mono ?_; rintro e w' ⟨rfl, rfl⟩)
  all_goals first | (go_region; all_goals go_wp2) | skip
  all_goals refine bodyPost_ret (v := insV (usedI (o, n, k, s, c, m, d))) ?_ rfl ⟨rfl, ?_⟩
  all_goals simp_all [results, Tryd.results24, go_sem, insV, usedI]
  all_goals trace_state
  all_goals first | exact (((Below.refl _ _).alloc (Nat.le_refl _) _).alloc (by simp) _).alloc (by simp; omega) _ | exact ((((Below.refl _ _).alloc (Nat.le_refl _) _).alloc (by simp) _).alloc (by simp; omega) _).drew

end Go.Proofs.YtibciicpgjgjbaaDoor
