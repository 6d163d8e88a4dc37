/- known answers true. -/
import Derived.Test.YtejjmbfbjagifaaSTake
import Derived.Test.YtejjmbfbjagifaaSSort
namespace Go.Proofs.Ytejjmbfbjagifaa.S
open Go.RowKit Go.Maps

abbrev tA : ByteArray := ⟨#[97]⟩
abbrev tB : ByteArray := ⟨#[98]⟩
theorem rd_list {α : Type} {c : α → Value} {T : TypeId} {w : World} (xs : List α) (cs : Array Value) (h : cs.toList = xs.map c) (hm : xs.length ≤ 1000000) (n : Nat) (hn : n = xs.length) : RdC c (fun _ => True) (w.alloc (.cells cs T)) (.slice (some ⟨w.heap.size, 0, none⟩) n n) xs := by
  subst hn
  refine ⟨_, _, rfl, Nat.le_refl _, (fun e => by cases e), by unfold maxLen; omega, .inr ⟨w.heap.size, 0, rfl, trivial, by simp, fun i x hx => ?_⟩⟩
  have := heap_alloc_new w (.cells cs T)
  simp only [World.cell?, this, Nat.zero_add]
  rw [← Array.getElem?_toList, h, List.getElem?_map, hx]
  rfl

set_option maxHeartbeats 4000000 in
set_option maxRecDepth 100000 in
theorem known_s (w : World) : Calls Try.prog 8 #[] w fun e w' => e = .returned (.bool true) ∧ Below w.heap.size w w' := by
  go_enter Try.func8, Try.ntmps8
  go_wp2_with fail
  have hr := Lib.hid (rd_list (c := cS) (T := 9) (w := w) [tB, tA, tB] #[.string tB, .string tA, .string tB] rfl (by decide) 3 rfl)
  refine (new_S _ [tB, tA, tB] _ _ hr.out (by intro x hx; simp at hx; rcases hx with rfl | rfl | rfl <;> (unfold okS maxLen; decide)) (by decide)).mono ?_
  rintro e w1 ⟨sb, mb, rfl, hs1, hb1⟩
  have hb1' : Below w.heap.size w w1 := ((Below.refl _ w).alloc (Nat.le_refl _) _).trans (hb1.mono (by simp))
  have HS1 := Lib.hid hs1
  have HB1 := Lib.hid hb1'
  clear hr hs1 hb1 hb1'
  go_wp2_with fail
  have hr := Lib.hid (rd_list (c := cI) (T := 3) (w := w1) [2, 1] #[.int .i64 2, .int .i64 1] rfl (by decide) 2 rfl)
  refine (newwork_I _ [2, 1] _ _ hr.out (by intro x hx; simp at hx; rcases hx with rfl | rfl <;> (unfold okI; decide)) (by decide)).mono ?_
  rintro e w2 ⟨wb, rfl, hw2, hb2⟩
  have hz : (w1.alloc (.cells #[.int .i64 2, .int .i64 1] 3)).heap.size = w1.heap.size + 1 := by simp
  rw [show onceL ([2, 1] : List Int) = [2, 1] from by decide] at hw2
  have hb2' : Below w1.heap.size w1 w2 := ((Below.refl _ w1).alloc (Nat.le_refl _) _).trans (hb2.mono (by simp))
  replace hw2 : WqI (fun b => w1.heap.size ≤ b) w2 wb [2, 1] [2, 1] := hw2.mono (fun b hb _ => by have hb : _ ≤ b := hb; rw [hz] at hb; show _ ≤ b; omega)
  have HW2 := Lib.hid hw2
  have HB2 := Lib.hid hb2'
  clear hr hw2 hb2 hb2' hz
  have hone : ∀ x : Int, x ∈ ([2, 1] : List Int) → (∀ y ∈ ([2, 1] : List Int), ltI y x = false) → x = 1 := by
    intro x hx hl
    simp at hx
    rcases hx with rfl | rfl
    · have := hl 1 (by simp)
      simp [ltI] at this
    · rfl
  have HONE := Lib.hid hone
  clear hone
  have hs12 : ∀ w' : World, Below w1.heap.size w1 w' → StS w' ((w.alloc (.cells #[.string tB, .string tA, .string tB] 9)).heap.size) sb mb (onceL [tB, tA, tB]) := fun w' hb => HS1.out.bel hb
  have HST := Lib.hid hs12
  clear hs12
  go_wp2_with fail
  refine (take_I _ wb [2, 1] [2, 1] w2 HW2.out (by simp) (by simp)).mono ?_
  rintro e w3 ⟨x3, rfl, hm3, hl3, hw3, hk3⟩
  obtain rfl := HONE.out x3 hm3 hl3
  have HW3 := Lib.hid hw3
  have HB3 := Lib.hid (HB2.out.trans (hk3.below (fun b hb => hb) HB2.out.size))
  clear hm3 hl3 hw3 hk3 HW2
  rw [show delS ([2, 1] : List Int) 1 = [2] from by decide] at HW3
  have ok1 : okI 1 := by unfold okI; decide
  go_wp2_with fail
  refine (put_I _ wb [2, 1] [2] 1 w3 HW3.out ok1 (by simp) (by simp) (fun b hb => Nat.le_trans HB3.out.size hb)).mono ?_
  rintro e w4 ⟨rfl, hw4, hk4⟩
  have HW4 := Lib.hid hw4
  have HB4 := Lib.hid (HB3.out.trans (hk4.below (fun b hb => hb) HB3.out.size))
  clear hw4 hk4 HW3
  rw [show hasB ([2, 1] : List Int) 1 = true from by decide]
  rw [show addS ([2, 1] : List Int) 1 = [2, 1] from by decide, show putN ([2, 1] : List Int) [2] 1 = [2] from by decide] at HW4
  go_wp2_with fail
  refine (again_I _ wb [2, 1] [2] 1 w4 HW4.out ok1 (by simp) (by simp) (fun b hb => Nat.le_trans HB4.out.size hb)).mono ?_
  rintro e w5 ⟨rfl, hw5, hk5⟩
  have HW5 := Lib.hid hw5
  have HB5 := Lib.hid (HB4.out.trans (hk5.below (fun b hb => hb) HB4.out.size))
  clear hw5 hk5 HW4
  rw [show addS ([2, 1] : List Int) 1 = [2, 1] from by decide, show addS ([2] : List Int) 1 = [2, 1] from by decide] at HW5
  go_wp2_with fail
  refine (take_I _ wb [2, 1] [2, 1] w5 HW5.out (by simp) (by simp)).mono ?_
  rintro e w6 ⟨x6, rfl, hm6, hl6, _, hk6⟩
  obtain rfl := HONE.out x6 hm6 hl6
  have HB6 := Lib.hid (HB5.out.trans (hk6.below (fun b hb => hb) HB5.out.size))
  clear hm6 hl6 hk6 HW5 HB3 HB4 HB5 HB2
  have hs6 := HST.out w6 HB6.out
  rw [show onceL [tB, tA, tB] = [tB, tA] from by decide] at hs6
  go_wp2_with fail
  refine (list_S _ sb mb [tB, tA] w6 hs6 (by simp)).mono ?_
  rintro e w7 ⟨v, R, rfl, ho, hsr, hmem, hb7⟩
  have hR : R = [tA, tB] := srt_eq toS hsr (by simp [Srt, ltS]; decide) (fun x => by rw [hmem x]; simp; exact Or.comm)
  subst hR
  obtain ⟨p, cap, rfl, hn1, hn2⟩ := ho.rd.form
  obtain ⟨b, off, rfl, hbo, hbl, hc⟩ := ho.rd.at (by simp)
  have c0 : w7.cell? ⟨b, off, none⟩ = some (.string tA) := by have := hc 0 tA rfl; simpa using this
  have hs7 : StS w7 _ sb mb [tB, tA] := hs6.bel hb7
  have HB7 := Lib.hid (HB6.out.trans (hb7.mono HB6.out.size))
  have HS7 := Lib.hid hs7
  clear hsr hmem hc hs6 hb7 HST HB6 ho hs7 HS1
  go_wp2_with fail
  refine (len_S _ sb mb [tB, tA] w7 HS7.out (by simp)).mono ?_
  rintro e w8 ⟨rfl, hb8⟩
  replace c0 : w8.cell? ⟨b, off, none⟩ = some (.string tA) := by rw [World.cell?_of_block (w := w7) (hb8.block b hbl)]; exact c0
  have HS8 := Lib.hid (HS7.out.bel hb8)
  have HB8 := Lib.hid (HB7.out.trans (hb8.mono HB7.out.size))
  clear hb8 HS7 HB7
  go_wp2_with fail
  refine (has_S _ sb mb [tB, tA] tB w8 HS8.out (by unfold okS maxLen; decide)).mono ?_
  rintro e w9 ⟨rfl, hb9⟩
  rw [show hasB [tB, tA] tB = true from by decide]
  have HS9 := Lib.hid (HS8.out.bel hb9)
  have HB9 := Lib.hid (HB8.out.trans (hb9.mono HB8.out.size))
  clear hb9 HS8 HB8 c0
  go_wp2_with fail
  refine (add_S _ sb mb [tB, tA] tA w9 HS9.out (by unfold okS maxLen; decide) (by simp)).mono ?_
  rintro e w10 ⟨rfl, _, hk10⟩
  rw [show hasB [tB, tA] tA = true from by decide]
  have hmb := HS9.out.2.1
  have HB10 : Hid (Below w.heap.size w w10) := Lib.hid ((HB1.out.trans (HB9.out.mono HB1.out.size)).trans (hk10.below (fun y hy => by rw [List.mem_singleton.1 hy]; simp at hmb; omega) (Nat.le_trans HB1.out.size HB9.out.size)))
  clear hk10 HB9 HS9
  go_wp2
  go_ret
  exact ⟨rfl, HB10.out⟩
end Go.Proofs.Ytejjmbfbjagifaa.S
