/- Texts that the proof is made of, joined. No condition. -/
import Derived.Test.YtofnbapnmhibaaaGreatS620
import Derived.Test.YtofnbapnmhibaaaGreatS6H
set_option linter.unusedVariables false
set_option linter.unusedSimpArgs false
set_option maxRecDepth 100000
set_option maxHeartbeats 16000000
namespace Go.Proofs.YtofnbapnmhibaaaGreat.A
open Go.RowKit Go.Proofs.YtofnbapnmhibaaaGreat.D Go.Proofs.YtofnbapnmhibaaaGreat.O
theorem abs_l (ab code handlers locals : Bool) (w : World) (hg : Glob w) : Calls Tryz.prog 6 #[.bool ab,.bool code,.bool handlers,.bool locals] w fun e w' => e = .returned (.bool true) /\ Below w.heap.size w w' := by
 go_enter Tryz.func6,Tryz.ntmps6
 go_wp2_with fail
 refine (known_l w hg).mono ?_
 rintro e1 w1 ⟨rfl,hb⟩
 have HBW := hid hb
 clear hb hg
 go_upto_region 4 with fail
 obtain ⟨w2,hw2⟩ : ∃ x,x = w1.alloc (.cells #[.string ⟨#[]⟩,.slice none 0 0,.int .i64 0,.string ⟨#[]⟩,.bool true,.bool ab,.int .i64 0,.slice none 0 0,.slice none 0 0] 29) := ⟨_,rfl⟩
 rw [<- hw2]
 have HM : Hid (w2.heap[w1.heap.size]? = some (.cells #[.string ⟨#[]⟩,.slice none 0 0,.int .i64 0,.string ⟨#[]⟩,.bool true,.bool ab,.int .i64 0,.slice none 0 0,.slice none 0 0] 29 (0,0))) := hid (by rw [hw2]; exact heap_alloc_new _ _)
 have HB : Hid (Below w1.heap.size w1 w2) := hid (by rw [hw2]; exact below_alM _ _)
 have hs2 : w1.heap.size < w2.heap.size := by rw [hw2]; simp
 clear hw2
 have HC0 : Hid (RdX 7 (sP insC) (fun b => b ≠ w1.heap.size) w2 (.slice none 0 0) []) := hid (RdX.nil _ _ _ _)
 have HH0 : Hid (RdX 4 (sP hndC) (fun b => b ≠ w1.heap.size) w2 (.slice none 0 0) []) := hid (RdX.nil _ _ _ _)
 cases code
 ·skip
  cases handlers
  ·skip
   cases locals
   ·skip
    obtain ⟨q0,q1,q2,q3,q4,q5,q6,q7,q8⟩ := z9 (boxN HM.out).2.1
    have ql := (boxN HM.out).1
    cases ab
    ·have HA : mthA (⟨⟨#[]⟩,[],(0,⟨#[]⟩),true,false,0,[],[]⟩ : Mth) = (-1,25) := by decide +kernel
     go_wp2_with fail
     refine (method_a _ _ _ _ _ _ _ _ _ _ _ _ _ _ _ [] [] [] _ w2 rfl (by decide) HC0.out HH0.out (by decide) (by decide)).mono ?_
     rw [HA]
     rintro e6 w6 ⟨rfl,hb6⟩
     have HB6 := hid (HB.out.trans (hb6.mono HB.out.size))
     clear q0 q1 q2 q3 q4 q5 q6 q7 q8 ql hb6
     go_wp2_with fail
     go_ret
     exact ⟨rfl,HBW.out.trans (HB6.out.mono HBW.out.size)⟩
    ·have HA : mthA (⟨⟨#[]⟩,[],(0,⟨#[]⟩),true,true,0,[],[]⟩ : Mth) = (0,0) := by decide +kernel
     go_wp2_with fail
     refine (method_a _ _ _ _ _ _ _ _ _ _ _ _ _ _ _ [] [] [] _ w2 rfl (by decide) HC0.out HH0.out (by decide) (by decide)).mono ?_
     rw [HA]
     rintro e6 w6 ⟨rfl,hb6⟩
     have HB6 := hid (HB.out.trans (hb6.mono HB.out.size))
     clear q0 q1 q2 q3 q4 q5 q6 q7 q8 ql hb6
     go_wp2_with fail
     go_ret
     exact ⟨rfl,HBW.out.trans (HB6.out.mono HBW.out.size)⟩
   ·skip
    obtain ⟨yl,yc,yf⟩ := boxN HM.out
    have y6 := yc 6 _ rfl
    have yz6 := yf 6
    simp only [Nat.zero_add] at y6
    clear yc yf
    go_upto_region 10 with fail
    obtain ⟨w5,hw5⟩ : ∃ x,x = w2.setCell ⟨w1.heap.size,6,none⟩ (.int .i64 2) := ⟨_,rfl⟩
    rw [<- hw5]
    obtain ⟨p1,p2,p3⟩ := box_set (cs' := #[.string ⟨#[]⟩,.slice none 0 0,.int .i64 0,.string ⟨#[]⟩,.bool true,.bool ab,.int .i64 2,.slice none 0 0,.slice none 0 0]) HM.out hw5 rfl
    replace HM := hid p1
    replace HC0 := hid (HC0.out.kpt6 p2)
    replace HH0 := hid (HH0.out.kpt6 p2)
    replace HB := hid (HB.out.trans (p2.below (fun x hx => by simp at hx; omega) (by omega)))
    clear hw5 p1 p2 y6 yz6 yl
    obtain ⟨q0,q1,q2,q3,q4,q5,q6,q7,q8⟩ := z9 (boxN HM.out).2.1
    have ql := (boxN HM.out).1
    cases ab
    ·have HA : mthA (⟨⟨#[]⟩,[],(0,⟨#[]⟩),true,false,2,[],[]⟩ : Mth) = (-1,25) := by decide +kernel
     go_wp2_with fail
     refine (method_a _ _ _ _ _ _ _ _ _ _ _ _ _ _ _ [] [] [] _ w5 rfl (by decide) HC0.out HH0.out (by decide) (by decide)).mono ?_
     rw [HA]
     rintro e6 w6 ⟨rfl,hb6⟩
     have HB6 := hid (HB.out.trans (hb6.mono HB.out.size))
     clear q0 q1 q2 q3 q4 q5 q6 q7 q8 ql hb6
     go_wp2_with fail
     go_ret
     exact ⟨rfl,HBW.out.trans (HB6.out.mono HBW.out.size)⟩
    ·have HA : mthA (⟨⟨#[]⟩,[],(0,⟨#[]⟩),true,true,2,[],[]⟩ : Mth) = (-1,25) := by decide +kernel
     go_wp2_with fail
     refine (method_a _ _ _ _ _ _ _ _ _ _ _ _ _ _ _ [] [] [] _ w5 rfl (by decide) HC0.out HH0.out (by decide) (by decide)).mono ?_
     rw [HA]
     rintro e6 w6 ⟨rfl,hb6⟩
     have HB6 := hid (HB.out.trans (hb6.mono HB.out.size))
     clear q0 q1 q2 q3 q4 q5 q6 q7 q8 ql hb6
     go_wp2_with fail
     go_ret
     exact ⟨rfl,HBW.out.trans (HB6.out.mono HBW.out.size)⟩
  ·skip
   obtain ⟨yl,yc,yf⟩ := boxN HM.out
   have y8 := yc 8 _ rfl
   have yz8 := yf 8
   simp only [Nat.zero_add] at y8
   clear yc yf
   go_upto_region 8 with fail
   obtain ⟨w4,hw4⟩ : ∃ x,x = (w2.setCell ⟨w1.heap.size,8,none⟩ (.slice (some ⟨w2.heap.size,0,none⟩) 1 1)).alloc (.cells #[.int .i64 0,.int .i64 1,.int .i64 0,.string ⟨#[70,97,117,108,116]⟩] 33) := ⟨_,rfl⟩
   rw [<- hw4]
   obtain ⟨p1,p2,p3,p4⟩ := box_put (cs' := #[.string ⟨#[]⟩,.slice none 0 0,.int .i64 0,.string ⟨#[]⟩,.bool true,.bool ab,.int .i64 0,.slice none 0 0,.slice (some ⟨w2.heap.size,0,none⟩) 1 1]) HM.out hw4 rfl
   replace HM := hid p1
   replace HH0 := hid (show RdX 4 (sP hndC) (fun b => b ≠ w1.heap.size) w4 (.slice (some ⟨w2.heap.size,0,none⟩) 1 1) [hR1] from rd_box6 (l := [.int .i64 0,.int .i64 1,.int .i64 0,.string ⟨#[70,97,117,108,116]⟩]) p2 rfl (by omega))
   replace HC0 := hid (HC0.out.kpt6 p3)
   replace HB := hid (HB.out.trans (p3.below (fun x hx => by simp at hx; omega) (by omega)))
   have hsw4 : w1.heap.size < w4.heap.size := by omega
   clear hw4 p1 p2 p3 p4 y8 yz8 yl
   cases locals
   ·skip
    obtain ⟨q0,q1,q2,q3,q4,q5,q6,q7,q8⟩ := z9 (boxN HM.out).2.1
    have ql := (boxN HM.out).1
    cases ab
    ·have HA : mthA (⟨⟨#[]⟩,[],(0,⟨#[]⟩),true,false,0,[],[hR1]⟩ : Mth) = (-1,25) := by decide +kernel
     go_wp2_with fail
     refine (method_a _ _ _ _ _ _ _ _ _ _ _ _ _ _ _ [] [] [hR1] _ w4 rfl (by decide) HC0.out HH0.out (by decide) (by decide)).mono ?_
     rw [HA]
     rintro e6 w6 ⟨rfl,hb6⟩
     have HB6 := hid (HB.out.trans (hb6.mono HB.out.size))
     clear q0 q1 q2 q3 q4 q5 q6 q7 q8 ql hb6
     go_wp2_with fail
     go_ret
     exact ⟨rfl,HBW.out.trans (HB6.out.mono HBW.out.size)⟩
    ·have HA : mthA (⟨⟨#[]⟩,[],(0,⟨#[]⟩),true,true,0,[],[hR1]⟩ : Mth) = (-1,25) := by decide +kernel
     go_wp2_with fail
     refine (method_a _ _ _ _ _ _ _ _ _ _ _ _ _ _ _ [] [] [hR1] _ w4 rfl (by decide) HC0.out HH0.out (by decide) (by decide)).mono ?_
     rw [HA]
     rintro e6 w6 ⟨rfl,hb6⟩
     have HB6 := hid (HB.out.trans (hb6.mono HB.out.size))
     clear q0 q1 q2 q3 q4 q5 q6 q7 q8 ql hb6
     go_wp2_with fail
     go_ret
     exact ⟨rfl,HBW.out.trans (HB6.out.mono HBW.out.size)⟩
   ·skip
    obtain ⟨yl,yc,yf⟩ := boxN HM.out
    have y6 := yc 6 _ rfl
    have yz6 := yf 6
    simp only [Nat.zero_add] at y6
    clear yc yf
    go_upto_region 10 with fail
    obtain ⟨w5,hw5⟩ : ∃ x,x = w4.setCell ⟨w1.heap.size,6,none⟩ (.int .i64 2) := ⟨_,rfl⟩
    rw [<- hw5]
    obtain ⟨p1,p2,p3⟩ := box_set (cs' := #[.string ⟨#[]⟩,.slice none 0 0,.int .i64 0,.string ⟨#[]⟩,.bool true,.bool ab,.int .i64 2,.slice none 0 0,.slice (some ⟨w2.heap.size,0,none⟩) 1 1]) HM.out hw5 rfl
    replace HM := hid p1
    replace HC0 := hid (HC0.out.kpt6 p2)
    replace HH0 := hid (HH0.out.kpt6 p2)
    replace HB := hid (HB.out.trans (p2.below (fun x hx => by simp at hx; omega) (by omega)))
    clear hw5 p1 p2 y6 yz6 yl
    obtain ⟨q0,q1,q2,q3,q4,q5,q6,q7,q8⟩ := z9 (boxN HM.out).2.1
    have ql := (boxN HM.out).1
    cases ab
    ·have HA : mthA (⟨⟨#[]⟩,[],(0,⟨#[]⟩),true,false,2,[],[hR1]⟩ : Mth) = (-1,25) := by decide +kernel
     go_wp2_with fail
     refine (method_a _ _ _ _ _ _ _ _ _ _ _ _ _ _ _ [] [] [hR1] _ w5 rfl (by decide) HC0.out HH0.out (by decide) (by decide)).mono ?_
     rw [HA]
     rintro e6 w6 ⟨rfl,hb6⟩
     have HB6 := hid (HB.out.trans (hb6.mono HB.out.size))
     clear q0 q1 q2 q3 q4 q5 q6 q7 q8 ql hb6
     go_wp2_with fail
     go_ret
     exact ⟨rfl,HBW.out.trans (HB6.out.mono HBW.out.size)⟩
    ·have HA : mthA (⟨⟨#[]⟩,[],(0,⟨#[]⟩),true,true,2,[],[hR1]⟩ : Mth) = (-1,25) := by decide +kernel
     go_wp2_with fail
     refine (method_a _ _ _ _ _ _ _ _ _ _ _ _ _ _ _ [] [] [hR1] _ w5 rfl (by decide) HC0.out HH0.out (by decide) (by decide)).mono ?_
     rw [HA]
     rintro e6 w6 ⟨rfl,hb6⟩
     have HB6 := hid (HB.out.trans (hb6.mono HB.out.size))
     clear q0 q1 q2 q3 q4 q5 q6 q7 q8 ql hb6
     go_wp2_with fail
     go_ret
     exact ⟨rfl,HBW.out.trans (HB6.out.mono HBW.out.size)⟩
 ·skip
  obtain ⟨yl,yc,yf⟩ := boxN HM.out
  have y7 := yc 7 _ rfl
  have yz7 := yf 7
  simp only [Nat.zero_add] at y7
  clear yc yf
  go_upto_region 6 with fail
  obtain ⟨w3,hw3⟩ : ∃ x,x = (w2.setCell ⟨w1.heap.size,7,none⟩ (.slice (some ⟨w2.heap.size,0,none⟩) 1 1)).alloc (.cells #[.int .i64 40,.int .i32 0,.int .i64 0,.string ⟨#[]⟩,.string ⟨#[]⟩,.string ⟨#[]⟩,.string ⟨#[]⟩] 31) := ⟨_,rfl⟩
  rw [<- hw3]
  obtain ⟨p1,p2,p3,p4⟩ := box_put (cs' := #[.string ⟨#[]⟩,.slice none 0 0,.int .i64 0,.string ⟨#[]⟩,.bool true,.bool ab,.int .i64 0,.slice (some ⟨w2.heap.size,0,none⟩) 1 1,.slice none 0 0]) HM.out hw3 rfl
  replace HM := hid p1
  replace HC0 := hid (show RdX 7 (sP insC) (fun b => b ≠ w1.heap.size) w3 (.slice (some ⟨w2.heap.size,0,none⟩) 1 1) [iR] from rd_box6 (l := [.int .i64 40,.int .i32 0,.int .i64 0,.string ⟨#[]⟩,.string ⟨#[]⟩,.string ⟨#[]⟩,.string ⟨#[]⟩]) p2 rfl (by omega))
  replace HH0 := hid (HH0.out.kpt6 p3)
  replace HB := hid (HB.out.trans (p3.below (fun x hx => by simp at hx; omega) (by omega)))
  have hsw3 : w1.heap.size < w3.heap.size := by omega
  clear hw3 p1 p2 p3 p4 y7 yz7 yl
  cases handlers
  ·skip
   cases locals
   ·skip
    obtain ⟨q0,q1,q2,q3,q4,q5,q6,q7,q8⟩ := z9 (boxN HM.out).2.1
    have ql := (boxN HM.out).1
    cases ab
    ·have HA : mthA (⟨⟨#[]⟩,[],(0,⟨#[]⟩),true,false,0,[iR],[]⟩ : Mth) = (0,0) := by decide +kernel
     go_wp2_with fail
     refine (method_a _ _ _ _ _ _ _ _ _ _ _ _ _ _ _ [] [iR] [] _ w3 rfl (by decide) HC0.out HH0.out (by decide) (by decide)).mono ?_
     rw [HA]
     rintro e6 w6 ⟨rfl,hb6⟩
     have HB6 := hid (HB.out.trans (hb6.mono HB.out.size))
     clear q0 q1 q2 q3 q4 q5 q6 q7 q8 ql hb6
     go_wp2_with fail
     go_ret
     exact ⟨rfl,HBW.out.trans (HB6.out.mono HBW.out.size)⟩
    ·have HA : mthA (⟨⟨#[]⟩,[],(0,⟨#[]⟩),true,true,0,[iR],[]⟩ : Mth) = (-1,25) := by decide +kernel
     go_wp2_with fail
     refine (method_a _ _ _ _ _ _ _ _ _ _ _ _ _ _ _ [] [iR] [] _ w3 rfl (by decide) HC0.out HH0.out (by decide) (by decide)).mono ?_
     rw [HA]
     rintro e6 w6 ⟨rfl,hb6⟩
     have HB6 := hid (HB.out.trans (hb6.mono HB.out.size))
     clear q0 q1 q2 q3 q4 q5 q6 q7 q8 ql hb6
     go_wp2_with fail
     go_ret
     exact ⟨rfl,HBW.out.trans (HB6.out.mono HBW.out.size)⟩
   ·skip
    obtain ⟨yl,yc,yf⟩ := boxN HM.out
    have y6 := yc 6 _ rfl
    have yz6 := yf 6
    simp only [Nat.zero_add] at y6
    clear yc yf
    go_upto_region 10 with fail
    obtain ⟨w5,hw5⟩ : ∃ x,x = w3.setCell ⟨w1.heap.size,6,none⟩ (.int .i64 2) := ⟨_,rfl⟩
    rw [<- hw5]
    obtain ⟨p1,p2,p3⟩ := box_set (cs' := #[.string ⟨#[]⟩,.slice none 0 0,.int .i64 0,.string ⟨#[]⟩,.bool true,.bool ab,.int .i64 2,.slice (some ⟨w2.heap.size,0,none⟩) 1 1,.slice none 0 0]) HM.out hw5 rfl
    replace HM := hid p1
    replace HC0 := hid (HC0.out.kpt6 p2)
    replace HH0 := hid (HH0.out.kpt6 p2)
    replace HB := hid (HB.out.trans (p2.below (fun x hx => by simp at hx; omega) (by omega)))
    clear hw5 p1 p2 y6 yz6 yl
    obtain ⟨q0,q1,q2,q3,q4,q5,q6,q7,q8⟩ := z9 (boxN HM.out).2.1
    have ql := (boxN HM.out).1
    cases ab
    ·have HA : mthA (⟨⟨#[]⟩,[],(0,⟨#[]⟩),true,false,2,[iR],[]⟩ : Mth) = (0,0) := by decide +kernel
     go_wp2_with fail
     refine (method_a _ _ _ _ _ _ _ _ _ _ _ _ _ _ _ [] [iR] [] _ w5 rfl (by decide) HC0.out HH0.out (by decide) (by decide)).mono ?_
     rw [HA]
     rintro e6 w6 ⟨rfl,hb6⟩
     have HB6 := hid (HB.out.trans (hb6.mono HB.out.size))
     clear q0 q1 q2 q3 q4 q5 q6 q7 q8 ql hb6
     go_wp2_with fail
     go_ret
     exact ⟨rfl,HBW.out.trans (HB6.out.mono HBW.out.size)⟩
    ·have HA : mthA (⟨⟨#[]⟩,[],(0,⟨#[]⟩),true,true,2,[iR],[]⟩ : Mth) = (-1,25) := by decide +kernel
     go_wp2_with fail
     refine (method_a _ _ _ _ _ _ _ _ _ _ _ _ _ _ _ [] [iR] [] _ w5 rfl (by decide) HC0.out HH0.out (by decide) (by decide)).mono ?_
     rw [HA]
     rintro e6 w6 ⟨rfl,hb6⟩
     have HB6 := hid (HB.out.trans (hb6.mono HB.out.size))
     clear q0 q1 q2 q3 q4 q5 q6 q7 q8 ql hb6
     go_wp2_with fail
     go_ret
     exact ⟨rfl,HBW.out.trans (HB6.out.mono HBW.out.size)⟩
  ·skip
   obtain ⟨yl,yc,yf⟩ := boxN HM.out
   have y8 := yc 8 _ rfl
   have yz8 := yf 8
   simp only [Nat.zero_add] at y8
   clear yc yf
   go_upto_region 8 with fail
   obtain ⟨w4,hw4⟩ : ∃ x,x = (w3.setCell ⟨w1.heap.size,8,none⟩ (.slice (some ⟨w3.heap.size,0,none⟩) 1 1)).alloc (.cells #[.int .i64 0,.int .i64 1,.int .i64 0,.string ⟨#[70,97,117,108,116]⟩] 33) := ⟨_,rfl⟩
   rw [<- hw4]
   obtain ⟨p1,p2,p3,p4⟩ := box_put (cs' := #[.string ⟨#[]⟩,.slice none 0 0,.int .i64 0,.string ⟨#[]⟩,.bool true,.bool ab,.int .i64 0,.slice (some ⟨w2.heap.size,0,none⟩) 1 1,.slice (some ⟨w3.heap.size,0,none⟩) 1 1]) HM.out hw4 rfl
   replace HM := hid p1
   replace HH0 := hid (show RdX 4 (sP hndC) (fun b => b ≠ w1.heap.size) w4 (.slice (some ⟨w3.heap.size,0,none⟩) 1 1) [hR1] from rd_box6 (l := [.int .i64 0,.int .i64 1,.int .i64 0,.string ⟨#[70,97,117,108,116]⟩]) p2 rfl (by omega))
   replace HC0 := hid (HC0.out.kpt6 p3)
   replace HB := hid (HB.out.trans (p3.below (fun x hx => by simp at hx; omega) (by omega)))
   have hsw4 : w1.heap.size < w4.heap.size := by omega
   clear hw4 p1 p2 p3 p4 y8 yz8 yl
   cases locals
   ·skip
    obtain ⟨q0,q1,q2,q3,q4,q5,q6,q7,q8⟩ := z9 (boxN HM.out).2.1
    have ql := (boxN HM.out).1
    cases ab
    ·have HA : mthA (⟨⟨#[]⟩,[],(0,⟨#[]⟩),true,false,0,[iR],[hR1]⟩ : Mth) = (0,0) := by decide +kernel
     go_wp2_with fail
     refine (method_a _ _ _ _ _ _ _ _ _ _ _ _ _ _ _ [] [iR] [hR1] _ w4 rfl (by decide) HC0.out HH0.out (by decide) (by decide)).mono ?_
     rw [HA]
     rintro e6 w6 ⟨rfl,hb6⟩
     have HB6 := hid (HB.out.trans (hb6.mono HB.out.size))
     clear q0 q1 q2 q3 q4 q5 q6 q7 q8 ql hb6
     go_wp2_with fail
     go_ret
     exact ⟨rfl,HBW.out.trans (HB6.out.mono HBW.out.size)⟩
    ·have HA : mthA (⟨⟨#[]⟩,[],(0,⟨#[]⟩),true,true,0,[iR],[hR1]⟩ : Mth) = (-1,25) := by decide +kernel
     go_wp2_with fail
     refine (method_a _ _ _ _ _ _ _ _ _ _ _ _ _ _ _ [] [iR] [hR1] _ w4 rfl (by decide) HC0.out HH0.out (by decide) (by decide)).mono ?_
     rw [HA]
     rintro e6 w6 ⟨rfl,hb6⟩
     have HB6 := hid (HB.out.trans (hb6.mono HB.out.size))
     clear q0 q1 q2 q3 q4 q5 q6 q7 q8 ql hb6
     go_wp2_with fail
     go_ret
     exact ⟨rfl,HBW.out.trans (HB6.out.mono HBW.out.size)⟩
   ·skip
    obtain ⟨yl,yc,yf⟩ := boxN HM.out
    have y6 := yc 6 _ rfl
    have yz6 := yf 6
    simp only [Nat.zero_add] at y6
    clear yc yf
    go_upto_region 10 with fail
    obtain ⟨w5,hw5⟩ : ∃ x,x = w4.setCell ⟨w1.heap.size,6,none⟩ (.int .i64 2) := ⟨_,rfl⟩
    rw [<- hw5]
    obtain ⟨p1,p2,p3⟩ := box_set (cs' := #[.string ⟨#[]⟩,.slice none 0 0,.int .i64 0,.string ⟨#[]⟩,.bool true,.bool ab,.int .i64 2,.slice (some ⟨w2.heap.size,0,none⟩) 1 1,.slice (some ⟨w3.heap.size,0,none⟩) 1 1]) HM.out hw5 rfl
    replace HM := hid p1
    replace HC0 := hid (HC0.out.kpt6 p2)
    replace HH0 := hid (HH0.out.kpt6 p2)
    replace HB := hid (HB.out.trans (p2.below (fun x hx => by simp at hx; omega) (by omega)))
    clear hw5 p1 p2 y6 yz6 yl
    obtain ⟨q0,q1,q2,q3,q4,q5,q6,q7,q8⟩ := z9 (boxN HM.out).2.1
    have ql := (boxN HM.out).1
    cases ab
    ·have HA : mthA (⟨⟨#[]⟩,[],(0,⟨#[]⟩),true,false,2,[iR],[hR1]⟩ : Mth) = (0,0) := by decide +kernel
     go_wp2_with fail
     refine (method_a _ _ _ _ _ _ _ _ _ _ _ _ _ _ _ [] [iR] [hR1] _ w5 rfl (by decide) HC0.out HH0.out (by decide) (by decide)).mono ?_
     rw [HA]
     rintro e6 w6 ⟨rfl,hb6⟩
     have HB6 := hid (HB.out.trans (hb6.mono HB.out.size))
     clear q0 q1 q2 q3 q4 q5 q6 q7 q8 ql hb6
     go_wp2_with fail
     go_ret
     exact ⟨rfl,HBW.out.trans (HB6.out.mono HBW.out.size)⟩
    ·have HA : mthA (⟨⟨#[]⟩,[],(0,⟨#[]⟩),true,true,2,[iR],[hR1]⟩ : Mth) = (-1,25) := by decide +kernel
     go_wp2_with fail
     refine (method_a _ _ _ _ _ _ _ _ _ _ _ _ _ _ _ [] [iR] [hR1] _ w5 rfl (by decide) HC0.out HH0.out (by decide) (by decide)).mono ?_
     rw [HA]
     rintro e6 w6 ⟨rfl,hb6⟩
     have HB6 := hid (HB.out.trans (hb6.mono HB.out.size))
     clear q0 q1 q2 q3 q4 q5 q6 q7 q8 ql hb6
     go_wp2_with fail
     go_ret
     exact ⟨rfl,HBW.out.trans (HB6.out.mono HBW.out.size)⟩
end Go.Proofs.YtofnbapnmhibaaaGreat.A
