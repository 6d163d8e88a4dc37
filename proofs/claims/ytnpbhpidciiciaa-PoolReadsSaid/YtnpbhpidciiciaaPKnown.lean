/- known answers true. -/
import Derived.Test.YtnpbhpidciiciaaPRead
namespace Go.Proofs.Ytnpbhpidciiciaa
open Go.RowKit Go.Maps

def xs : ByteArray := ⟨#[120]⟩
def ys : ByteArray := ⟨#[121]⟩
theorem xy_ne : ys ≠ xs := by decide
theorem known_p1 : pos [] xs = 0 ∧ putL [] xs = [xs] := ⟨rfl, by decide⟩
theorem known_p2 : pos [xs] ys = 1 ∧ putL [xs] ys = [xs, ys] := ⟨by decide, by decide⟩
theorem known_p3 : pos [xs, ys] xs = 0 ∧ putL [xs, ys] xs = [xs, ys] := ⟨by decide, by decide⟩
theorem known_y : ys.toList = [121] := by rw [Lib.toList_data]; rfl
theorem known_T : (tbs [xs, ys]).length ≤ 300000 := by
  have h1 := tb_len (s := xs) (by decide)
  have h2 := tb_len (s := ys) (by decide)
  have h3 : xs.size = 1 := rfl
  have h4 : ys.size = 1 := rfl
  rw [tbs_cons, tbs_cons, List.length_append, List.length_append]
  have : (tbs []).length = 0 := rfl
  omega
theorem known_s : ∀ s ∈ [xs, ys], s.size ≤ 1000 := by
  intro s hs
  have h3 : xs.size = 1 := rfl
  have h4 : ys.size = 1 := rfl
  simp only [List.mem_cons, List.not_mem_nil, or_false] at hs
  rcases hs with rfl | rfl <;> omega
theorem known_B : (poolB [xs, ys]).length ≤ 300000 := by
  have h1 := known_T
  have h2 := nb_len10 (v := 2) (by decide)
  have h3 := tb_len (s := xs) (by decide)
  have h4 := tb_len (s := ys) (by decide)
  have h5 : xs.size = 1 := rfl
  have h6 : ys.size = 1 := rfl
  unfold poolB
  rw [List.length_append, tbs_cons, tbs_cons, List.length_append, List.length_append]
  have : (tbs []).length = 0 := rfl
  rw [show ([xs, ys] : List ByteArray).length = 2 from rfl]
  omega

set_option maxHeartbeats 1000000 in
set_option maxRecDepth 100000 in
theorem known_any (w : World) : Calls Try.prog 8 #[] w fun e w' => e = .returned (.bool true) ∧ Below w.heap.size w w' := by
  go_enter Try.func8, Try.ntmps8
  go_wp2_with fail
  refine (pnew_any _).mono ?_
  rintro e w1 ⟨pb, mb, rfl, hp1, hb1⟩
  have hs1 := hb1.size
  go_wp2_with fail
  refine (pput_any w.heap.size pb mb _ [] xs _ hp1 hs1 (by simp) (by decide)).mono ?_
  rintro e w2 ⟨sl2, rfl, hp2, hk2, _⟩
  rw [known_p1.1]
  rw [known_p1.2] at hp2
  have hB2 : Below w.heap.size w w2 := hb1.trans (hk2.below (fun x hx => (hp1.lt x hx).1) hs1)
  have hs2 := hB2.size
  clear hp1 hk2 hb1 hs1
  go_wp2_with fail
  refine (pput_any w.heap.size pb mb _ [xs] ys _ hp2 hs2 (by simp) (by decide)).mono ?_
  rintro e w3 ⟨sl3, rfl, hp3, hk3, _⟩
  rw [known_p2.1]
  rw [known_p2.2] at hp3
  have hB3 : Below w.heap.size w w3 := hB2.trans (hk3.below (fun x hx => (hp2.lt x hx).1) hs2)
  have hs3 := hB3.size
  clear hp2 hk3 hB2 hs2
  go_wp2_with fail
  refine (pput_any w.heap.size pb mb _ [xs, ys] xs _ hp3 hs3 (by simp) (by decide)).mono ?_
  rintro e w4 ⟨sl4, rfl, hp4, hk4, _⟩
  rw [known_p3.1]
  rw [known_p3.2] at hp4
  have hB4 : Below w.heap.size w w4 := hB3.trans (hk4.below (fun x hx => (hp3.lt x hx).1) hs3)
  have hs4 := hB4.size
  clear hp3 hk4 hB3 hs3
  go_wp2_with fail
  refine (pat_in w.heap.size pb mb sl4 [xs, ys] 1 _ hp4 (by decide)).mono ?_
  rintro e w5 ⟨rfl, rfl⟩
  go_wp2_with fail
  refine (pbytes_any w.heap.size pb mb sl4 [xs, ys] _ hp4 (by simp) (fun s hs => Nat.le_trans (known_s s hs) (by decide)) known_T).mono ?_
  rintro e w6 ⟨v6, rfl, ho6, hb6⟩
  have hB6 : Below w.heap.size w w6 := hB4.trans (hb6.mono hs4)
  clear hb6
  go_wp2_with fail
  refine (new_any v6 (poolB [xs, ys]) _ ho6.rd (.inr fun g hg => (ho6.lt g hg).2) (Nat.le_trans known_B (by decide))).mono ?_
  rintro e w7 ⟨rb, rfl, hr7, hb7⟩
  have hs6 := hB6.size
  have hB7 : Below w.heap.size w w7 := hB6.trans (hb7.mono hs6)
  have hs7 := hB7.size
  have hrb : w.heap.size ≤ rb := Nat.le_trans hs6 hr7.1
  clear hb7 ho6
  go_wp2_with fail
  refine (pread_any _ rb (poolB [xs, ys]) 0 0 [xs, ys] _ 0 _ (poolR_back (r := []) (by simp) (by decide) known_s) hr7 (by decide) known_B).mono ?_
  rintro e w8 ⟨ha, hr8, hk8⟩
  unfold ReadAns at ha
  rw [if_pos rfl] at ha
  obtain ⟨qb, nb, sl8, rfl, hp8⟩ := ha
  have hB8 : Below w.heap.size w w8 := hB7.trans (hk8.below (fun x hx => by simp at hx; omega) hs7)
  clear hk8 hr8 hr7
  have hy := known_y
  go_wp2_with fail
  refine (plen_any _ qb nb sl8 [xs, ys] _ hp8).mono ?_
  rintro e w9 ⟨rfl, rfl⟩
  go_wp2
  go_ret
  exact ⟨rfl, hB8⟩

end Go.Proofs.Ytnpbhpidciiciaa
