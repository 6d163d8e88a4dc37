/- What the answers' own Num (of any list), Int, Text, Two come to. -/
import Derived.Test.YtnpbhpidciiciaaRef
namespace Go.Proofs.Ytnpbhpidciiciaa
open Go.RowKit

set_option maxHeartbeats 400000 in
set_option maxRecDepth 100000 in
theorem fnum_nil (v0 : Value) (l : List UInt8) (p : Option Addr) (c : Nat) (w : World) (hr : Rd w v0 l) (hl : l.length ≤ 400000) :
    Calls Try.prog 16 #[v0, .slice p 0 c] w fun e w' => ∃ v, e = .returned v ∧ Own w' w.heap.size v l ∧ Below w.heap.size w w' := by
  go_enter Try.func16, Try.ntmps16
  go_wp2_with (at_builtin; refine wp_app rfl _ _ rfl w.heap.size _ [] rfl (World.ownsRow_nil _ _ _ _) _ l rfl hr ?d1 ?d2 ?_)
  case d1 => simp; omega
  case d2 => exact Nat.le_refl _
  intro v1 w1 ho1 hg1 _
  have hB1 : Below w.heap.size w w1 := (Below.refl _ w).grown hg1 (Nat.le_refl _) (by intro k hk; cases hk)
  clear hg1
  go_wp2
  go_loop [5, 6] (fun s i => s = v1 ∧ i = .int .i64 0) (fun _ _ => 0)
  case atStart => exact ⟨rfl, rfl⟩
  case round =>
    obtain ⟨rfl, rfl⟩ := hrel
    go_wp2
    go_ret
    exact ⟨_, rfl, ho1, hB1⟩

theorem fnum_any (v0 vi : Value) (l : List UInt8) (zs : List Int) (w : World) (hr : Rd w v0 l) (hl : l.length ≤ 400000) (hi : RdI w vi zs) (hvi : zs = [] ∨ ∀ g, vi.ownBlock = some g → g < w.heap.size) (hlz : zs.length ≤ 1000) :
    Calls Try.prog 16 #[v0, vi] w fun e w' => ∃ v, e = .returned v ∧ Own w' w.heap.size v (l ++ nums zs) ∧ Below w.heap.size w w' := by
  obtain ⟨p, cap, rfl, h1, h2, hz, hc⟩ := hi
  by_cases hzn : zs = []
  · subst hzn
    rw [show l ++ nums [] = l from by simp [nums]]
    exact fnum_nil v0 l p cap w hr hl
  · obtain ⟨ad, rfl⟩ : ∃ ad, p = some ad := by
      cases p with
      | none => exact absurd (h2 rfl) hzn
      | some ad => exact ⟨ad, rfl⟩
    obtain ⟨b, off, spot⟩ := ad
    have := h1 _ rfl hzn
    simp only at this
    subst this
    exact fnum_some v0 l zs b off cap w hr hl hlz hz ((hvi.resolve_left hzn) b rfl) (hc _ rfl)

theorem foldN_neg {n : Int} (h : n < 0) : cnt (-2 * n - 1) = foldN n := by unfold cnt foldN; rw [if_pos h]
theorem foldN_pos {n : Int} (h : ¬ n < 0) : cnt (2 * n) = foldN n := by unfold cnt foldN; rw [if_neg h]

set_option maxHeartbeats 400000 in
set_option maxRecDepth 100000 in
theorem ftext_any (v0 : Value) (l : List UInt8) (s : ByteArray) (w : World) (hr : Rd w v0 l) (hv : l = [] ∨ ∀ g, v0.ownBlock = some g → g < w.heap.size) (hl : l.length ≤ 400000) (h1 : s.size ≤ 10000) :
    Calls Try.prog 17 #[v0, .string s] w fun e w' => ∃ v, e = .returned v ∧ Own w' w.heap.size v (l ++ (nb s.size ++ sb s)) ∧ Below w.heap.size w w' := by
  have hw := nb_len10 (u64_of_le h1 (by decide)).out
  go_enter Try.func17, Try.ntmps17
  go_wp2_with fail
  refine (fnum_any v0 _ l [(s.size : Int)] _ (hr.alloc _ hv) hl (rdI_new1 w _ _ (by omega) (by omega)) (.inr fun g hg => by cases hg; simp) (by simp)).mono ?_
  rintro e w1 ⟨v1, rfl, ho1, hb1⟩
  have hB1 : Below w.heap.size w w1 := ((Below.refl _ w).alloc (Nat.le_refl _) _).trans (hb1.mono (by simp))
  have ho2 : Own w1 w.heap.size v1 (l ++ nb s.size) := by
    rw [nums_one, cnt_nat] at ho1
    exact ho1.mono (by simp)
  have hs1 := hB1.size
  clear ho1 hb1
  go_wp2_with (at_builtin; refine wp_app_str rfl _ _ rfl w.heap.size _ (l ++ nb s.size) rfl ho2 s rfl ?d1 ?d2 ?_)
  case d1 => simp; omega
  case d2 => omega
  intro v3 w3 ho3 hg3 _
  have hB3 : Below w.heap.size w w3 := hB1.grown hg3 hs1 (fun k hk => (ho2.lt k hk).1)
  have HO := Lib.hid ho3
  clear ho3
  go_wp2
  go_ret
  exact ⟨_, rfl, by have := HO.out; simpa using this, hB3⟩

end Go.Proofs.Ytnpbhpidciiciaa
