/- The law OpTells walked. -/
import Derived.Test.YtibciicpgjgjbaaDoorOKnown
namespace Go.Proofs.YtibciicpgjgjbaaDoor
open Go.RowKit

/-- the four numbers that are asked -/
def four (o kk : Int) : Nat → Int | 0 => o | 1 => kk | 2 => 43 | _ => 0

theorem four_cells (w : World) (o kk : Int) : ∀ j, j < 4 → (w.alloc (.cells #[.int .i64 o, .int .i64 kk, .int .i64 43, .int .i64 0] 3)).cell? ⟨w.heap.size, j, none⟩ = some (.int .i64 (four o kk j)) := by
  intro j hj
  have hb := heap_alloc_new w (.cells #[.int .i64 o, .int .i64 kk, .int .i64 43, .int .i64 0] 3)
  match j, hj with
  | 0, _ => exact Lib.cell_of_heap hb 0
  | 1, _ => exact Lib.cell_of_heap hb 1
  | 2, _ => exact Lib.cell_of_heap hb 2
  | 3, _ => exact Lib.cell_of_heap hb 3

set_option maxHeartbeats 8000000 in
theorem tells_law (o k : Int) (w : World) (ht : Tab w) (hg : Glob w) (hk0 : 0 ≤ k) (_ : k ≤ 255) :
    Calls Tryd.prog 3 #[.int .i64 o, .int .u8 k] w fun e w' => e = .returned (.bool true) ∧ Below w.heap.size w w' := by
  obtain ⟨kk, hkk, hk50⟩ : ∃ kk : Nat, k.tmod 50 = kk ∧ kk < 50 := ⟨(k % 50).toNat, by rw [Int.tmod_eq_emod_of_nonneg hk0]; omega, by omega⟩
  go_enter Tryd.func3, Tryd.ntmps3
  go_wp2_with fail
  refine (known_any _ ht hg).mono ?_
  rintro e w1 ⟨rfl, hk1⟩
  have ht1 := ht.below hk1 (Nat.le_refl _)
  clear ht hg
  go_wp2_with fail
  have hc := four_cells w1 o kk
  obtain ⟨wA, hwA⟩ : ∃ wA, w1.alloc (.cells #[.int .i64 o, .int .i64 kk, .int .i64 43, .int .i64 0] 3) = wA := ⟨_, rfl⟩
  obtain ⟨B, hB⟩ : ∃ B, w1.heap.size = B := ⟨_, rfl⟩
  have hsA : wA.heap.size = B + 1 := by rw [← hwA, ← hB]; simp
  have hbA : Below w.heap.size w wA := by rw [← hwA]; exact hk1.alloc hk1.size _
  have htA : Tab wA := by rw [← hwA]; exact ht1.alloc _
  rw [hwA, hB] at hc ⊢
  have hc' : ∀ j, j < 4 → wA.cell? ⟨B, j, none⟩ = some (.int .i64 (four o kk j)) := hc
  have HC := Lib.hid hc'
  clear hc hc' ht1 hk1 hwA hB hkk hk50
  go_loopw [15] (fun i wr => ∃ j : Nat, j ≤ 4 ∧ i = .int .i64 j ∧ Below wA.heap.size wA wr) (fun i _ => 4 - (intOf i).toNat)
  case atStart => exact ⟨0, by omega, rfl, Below.refl _ _⟩
  case round =>
    obtain ⟨j, hj, rfl, hbl⟩ := hrel
    by_cases hlt : j < 4
    · have hrc := (hbl.cell (p := ⟨B, j, none⟩) (by simp only; omega)).trans (HC.out j hlt)
      have htr := htA.below hbl (Nat.le_refl _)
      have hsr := hbl.size
      generalize four o kk j = x at hrc
      go_wp2_with fail
      refine (opname_any _ _ htr).mono ?_
      rintro e w' ⟨rfl, rfl⟩
      go_wp2_with fail
      refine (ropname_any _ _).mono ?_
      rintro e w2 ⟨rfl, hb2⟩
      have hbl2 := hbl.trans (hb2.mono hsr)
      clear hrc htr hbl
      go_wp2_with fail
      refine (uses_any _ _).mono ?_
      rintro e w' ⟨rfl, rfl⟩
      go_wp2_with fail
      refine (ruses_any _ _).mono ?_
      rintro e w' ⟨rfl, rfl⟩
      go_wp2_with fail
      refine (ends_any _ _).mono ?_
      rintro e w' ⟨rfl, rfl⟩
      go_wp2_with fail
      refine (rends_any _ _).mono ?_
      rintro e w' ⟨rfl, rfl⟩
      go_wp2_with fail
      refine (jumps_any _ _).mono ?_
      rintro e w' ⟨rfl, rfl⟩
      go_wp2_with fail
      refine (rjumps_any _ _).mono ?_
      rintro e w' ⟨rfl, rfl⟩
      go_wp2_with fail
      refine (calls_any _ _).mono ?_
      rintro e w' ⟨rfl, rfl⟩
      go_wp2_with fail
      refine (rcalls_any _ _).mono ?_
      rintro e w' ⟨rfl, rfl⟩
      go_wp2_with fail
      go_roundw
      case rel => exact ⟨j + 1, by omega, by go_num, hbl2⟩
      case measure => simp [intOf]; omega
    · obtain rfl : j = 4 := by omega
      go_wp2_with fail
      go_ret
      exact ⟨rfl, hbA.trans (hbl.mono hbA.size)⟩

end Go.Proofs.YtibciicpgjgjbaaDoor
