/- Texts that the proof is made of, joined. No condition. -/
import Derived.Test.YtfpeakkbbfnhcaaGreatC130
import Derived.Deep.RegionHeld3
import Derived.Test.YtfpeakkbbfnhcaaGreatC1313
import Derived.Test.YtfpeakkbbfnhcaaGreatC136
import Derived.Deep.DeepCutAuto
import Derived.Deep.CutBlock
import Derived.Test.YtfpeakkbbfnhcaaGreatC13H
set_option linter.unusedVariables false
set_option linter.unusedSimpArgs false
set_option maxRecDepth 100000
set_option maxHeartbeats 16000000
namespace Go.Proofs.YtfpeakkbbfnhcaaGreat.O
open Go.Proofs.YtfpeakkbbfnhcaaGreat.D
open Go.RowKit
theorem right_core (o n k : Int) (s c m d : ByteArray) (w : World) (hwi : ∀ w',Below w.heap.size w w' -> Calls Tryz.prog 163 #[insV (o,n,k,s,c,m,d)] w' fun e w2 => e = .returned (.bool (withinB (o,n,k,s,c,m,d))) /\ Below w'.heap.size w' w2) :
  Calls Tryz.prog 139 #[insV (o,n,k,s,c,m,d)] w fun e w' => e = .returned (.bool (rightI (o,n,k,s,c,m,d))) /\ Below w.heap.size w w' := by
 rw [insV_mk]
 obtain ⟨⟨o',n',k',s',c',m',d'⟩,HU⟩ : ∃ y,usedI (o,n,k,s,c,m,d) = y := ⟨_,rfl⟩
 obtain rfl : o = o' := congrArg Prod.fst HU
 have HUS : Hid (∀ w : World,Calls Tryz.prog 162 #[.agg #[.int .i64 o,.int .i32 n,.int .i64 k,.string s,.string c,.string m,.string d]] w fun e w' => e = .returned (.agg #[.int .i64 o,.int .i32 n',.int .i64 k',.string s',.string c',.string m',.string d']) /\ Below w.heap.size w w') := hid (fun w => by
  have := used_any o n k s c m d w
  rw [HU,insV_mk,insV_mk] at this
  exact this)
 have HWI : Hid (∀ w',Below w.heap.size w w' -> Calls Tryz.prog 163 #[.agg #[.int .i64 o,.int .i32 n,.int .i64 k,.string s,.string c,.string m,.string d]] w' fun e w2 => e = .returned (.bool (withinB (o,n,k,s,c,m,d))) /\ Below w'.heap.size w' w2) := hid (fun w' hb => by
  have := hwi w' hb
  rw [insV_mk] at this
  exact this)
 clear hwi
 have HR : Hid (rightI (o,n,k,s,c,m,d) = (knownB o && decide ((o,n,k,s,c,m,d) = (o,n',k',s',c',m',d')) && withinB (o,n,k,s,c,m,d))) := hid (by unfold rightI; rw [HU])
 have hb0 : Below w.heap.size w (w.alloc (.cells #[.int .i64 o,.int .i32 n,.int .i64 k,.string s,.string c,.string m,.string d] 59)).drew := ((Below.refl _ _).alloc (Nat.le_refl _) _).drew
 have hx0 := ibox_new w o n k s c m d _ rfl
 have hX0 : w.heap.size < (w.alloc (.cells #[.int .i64 o,.int .i32 n,.int .i64 k,.string s,.string c,.string m,.string d] 59)).drew.heap.size := by simp
 clear HU
 cases hk : knownB o with
 | false =>
  have HF : Hid (rightI (o,n,k,s,c,m,d) = false) := hid (by rw [HR.out,hk]; rfl)
  clear HR
  go_enter Tryz.func139,Tryz.ntmps139
  go_wp2_with fail
  refine wp_region_held_drew (S := (fun w' => w'.cell? ⟨w.heap.size,0,none⟩ = some (.int .i64 o) /\ w'.cell? ⟨w.heap.size,1,none⟩ = some (.int .i32 n) /\ w'.cell? ⟨w.heap.size,2,none⟩ = some (.int .i64 k) /\ w'.cell? ⟨w.heap.size,3,none⟩ = some (.string s) /\ w'.cell? ⟨w.heap.size,4,none⟩ = some (.string c) /\ w'.cell? ⟨w.heap.size,5,none⟩ = some (.string m) /\ w'.cell? ⟨w.heap.size,6,none⟩ = some (.string d))) (by kernel_rfl) hx0 (fun hh => ?_)
  refine wpAnyH_take (i := 0) (oi := _) (v := ?_) (by rfl) (by kernel_rfl) (by kernel_rfl) (by kernel_rfl) (by intro _ _ _ h; exact h) (Or.inl ⟨by rfl,fun W hSw => ?_⟩) hh ?_
  rotate_left 1
  ·(clear hSw; first | (go_simp; done) | (go_simp; with_reducible rfl))
  try go_frame
  refine tkB 1 _ hh ?_
  try go_frame
  refine rdH [2] ?_
  refine rcH (fun K hK => ?_) AllReadyH.nil
  clear hh
  go_simp
  refine (knownop_any _ _).mono ?_
  rintro e w' ⟨rfl,rfl⟩
  refine hK.out _ _ hx0 (fun hh => ?_)
  clear hK K
  try go_frame
  refine tkA 3 _ hh ?_
  try go_frame
  refine wpAnyH_take (i := 4) (oi := _) (v := undef) (by simp only [List.getElem?_toArray,List.getElem?_cons_succ,List.getElem?_cons_zero]; rfl) (by kernel_rfl) (by kernel_rfl) (by kernel_rfl) (by intro _ _ _ h; exact h) (Or.inr ⟨by rfl,rfl⟩) hh ?_
  try go_frame
  refine wpAnyH_take (i := 5) (oi := _) (v := undef) (by simp only [List.getElem?_toArray,List.getElem?_cons_succ,List.getElem?_cons_zero]; rfl) (by kernel_rfl) (by kernel_rfl) (by kernel_rfl) (by intro _ _ _ h; exact h) (Or.inr ⟨by rfl,rfl⟩) hh ?_
  try go_frame
  refine wpAnyH_take (i := 6) (oi := _) (v := undef) (by simp only [List.getElem?_toArray,List.getElem?_cons_succ,List.getElem?_cons_zero]; rfl) (by kernel_rfl) (by kernel_rfl) (by kernel_rfl) (by intro _ _ _ h; exact h) (Or.inr ⟨by rfl,rfl⟩) hh ?_
  try go_frame
  refine wpAnyH_take (i := 7) (oi := _) (v := undef) (by simp only [List.getElem?_toArray,List.getElem?_cons_succ,List.getElem?_cons_zero]; rfl) (by kernel_rfl) (by kernel_rfl) (by kernel_rfl) (by intro _ _ _ h; exact h) (Or.inr ⟨by rfl,rfl⟩) hh ?_
  try go_frame
  refine tkA 8 _ hh ?_
  try go_frame
  refine tkA 9 _ hh ?_
  try go_frame
  refine wpAnyH_take (i := 10) (oi := _) (v := undef) (by simp only [List.getElem?_toArray,List.getElem?_cons_succ,List.getElem?_cons_zero]; rfl) (by kernel_rfl) (by kernel_rfl) (by kernel_rfl) (by intro _ _ _ h; exact h) (Or.inr ⟨by rfl,rfl⟩) hh ?_
  try go_frame
  refine wpAnyH_take (i := 11) (oi := _) (v := undef) (by simp only [List.getElem?_toArray,List.getElem?_cons_succ,List.getElem?_cons_zero]; rfl) (by kernel_rfl) (by kernel_rfl) (by kernel_rfl) (by intro _ _ _ h; exact h) (Or.inr ⟨by rfl,rfl⟩) hh ?_
  try go_frame
  refine tkA 12 _ hh ?_
  try go_frame
  refine tkA 13 _ hh ?_
  try go_frame
  refine wpAnyH_done (by kernel_rfl) ?_ _
  go_wp2_with fail
  go_ret
  exact ⟨ret_bool HF.out.symm,by first | exact hB2 | exact hB1 | exact hb0⟩
 | true =>
  by_cases en : n = n'
  ·subst en
   by_cases ek : k = k'
   ·subst ek
    by_cases es : s = s'
    ·subst es
     by_cases ec : c = c'
     ·subst ec
      by_cases em : m = m'
      ·subst em
       by_cases ed : d = d'
       ·subst ed
        have HF : Hid (rightI (o,n,k,s,c,m,d) = withinB (o,n,k,s,c,m,d)) := hid (by rw [HR.out,hk]; simp)
        clear HR
        go_enter Tryz.func139,Tryz.ntmps139
        go_wp2_with fail
        refine wp_region_held_drew (S := (fun w' => w'.cell? ⟨w.heap.size,0,none⟩ = some (.int .i64 o) /\ w'.cell? ⟨w.heap.size,1,none⟩ = some (.int .i32 n) /\ w'.cell? ⟨w.heap.size,2,none⟩ = some (.int .i64 k) /\ w'.cell? ⟨w.heap.size,3,none⟩ = some (.string s) /\ w'.cell? ⟨w.heap.size,4,none⟩ = some (.string c) /\ w'.cell? ⟨w.heap.size,5,none⟩ = some (.string m) /\ w'.cell? ⟨w.heap.size,6,none⟩ = some (.string d))) (by kernel_rfl) hx0 (fun hh => ?_)
        refine wpAnyH_take (i := 0) (oi := _) (v := ?_) (by rfl) (by kernel_rfl) (by kernel_rfl) (by kernel_rfl) (by intro _ _ _ h; exact h) (Or.inl ⟨by rfl,fun W hSw => ?_⟩) hh ?_
        rotate_left 1
        ·(clear hSw; first | (go_simp; done) | (go_simp; with_reducible rfl))
        try go_frame
        refine tkB 1 _ hh ?_
        try go_frame
        refine rdH [2] ?_
        refine rcH (fun K hK => ?_) AllReadyH.nil
        clear hh
        go_simp
        refine (knownop_any _ _).mono ?_
        rintro e w' ⟨rfl,rfl⟩
        refine hK.out _ _ hx0 (fun hh => ?_)
        clear hK K
        try go_frame
        refine tkA 3 _ hh ?_
        try go_frame
        refine tkB 4 _ hh ?_
        try go_frame
        refine tkB 5 _ hh ?_
        try go_frame
        refine rdH [6] ?_
        refine rcH (fun K hK => ?_) AllReadyH.nil
        clear hh
        go_simp
        refine (HUS.out _).mono ?_
        rintro e w1 ⟨rfl,hb1⟩
        have hB1 : Below w.heap.size w w1 := hb0.trans (hb1.mono hb0.size)
        have hx1 := ibox_next hx0 hX0 hb1
        have hX1 := Nat.lt_of_lt_of_le hX0 hb1.size
        refine hK.out _ _ hx1 (fun hh => ?_)
        clear hK K
        try go_frame
        refine tkA 7 _ hh ?_
        try go_frame
        refine tkA 8 _ hh ?_
        try go_frame
        refine tkA 9 _ hh ?_
        try go_frame
        refine tkB 10 _ hh ?_
        try go_frame
        refine rdH [11] ?_
        refine rcH (fun K hK => ?_) AllReadyH.nil
        clear hh
        go_simp
        refine (HWI.out _ hB1).mono ?_
        rintro e w2 ⟨rfl,hb2⟩
        have hB2 : Below w.heap.size w w2 := hB1.trans (hb2.mono hB1.size)
        have hx2 := ibox_next hx1 hX1 hb2
        refine hK.out _ _ hx2 (fun hh => ?_)
        clear hK K
        try go_frame
        refine tkA 12 _ hh ?_
        try go_frame
        refine tkA 13 _ hh ?_
        try go_frame
        refine wpAnyH_done (by kernel_rfl) ?_ _
        go_wp2_with fail
        go_ret
        exact ⟨ret_bool HF.out.symm,by first | exact hB2 | exact hB1 | exact hb0⟩
       ·have f1 : ¬ d.toList = d'.toList := fun h => ed (str_ext h)
        have f2 : ¬ d'.toList = d.toList := fun h => ed (str_ext h.symm)
        have f3 : (d.toList == d'.toList) = false := by rw [beq_eq_false_iff_ne]; exact f1
        have f4 : (d'.toList == d.toList) = false := by rw [beq_eq_false_iff_ne]; exact f2
        have HF : Hid (rightI (o,n,k,s,c,m,d) = false) := hid (by rw [HR.out,hk,decide_eq_false (by intro e; simp only [Prod.mk.injEq] at e; exact ed (by simp_all))]; rfl)
        clear HR
        go_enter Tryz.func139,Tryz.ntmps139
        go_wp2_with fail
        refine wp_region_held_drew (S := (fun w' => w'.cell? ⟨w.heap.size,0,none⟩ = some (.int .i64 o) /\ w'.cell? ⟨w.heap.size,1,none⟩ = some (.int .i32 n) /\ w'.cell? ⟨w.heap.size,2,none⟩ = some (.int .i64 k) /\ w'.cell? ⟨w.heap.size,3,none⟩ = some (.string s) /\ w'.cell? ⟨w.heap.size,4,none⟩ = some (.string c) /\ w'.cell? ⟨w.heap.size,5,none⟩ = some (.string m) /\ w'.cell? ⟨w.heap.size,6,none⟩ = some (.string d))) (by kernel_rfl) hx0 (fun hh => ?_)
        refine wpAnyH_take (i := 0) (oi := _) (v := ?_) (by rfl) (by kernel_rfl) (by kernel_rfl) (by kernel_rfl) (by intro _ _ _ h; exact h) (Or.inl ⟨by rfl,fun W hSw => ?_⟩) hh ?_
        rotate_left 1
        ·(clear hSw; first | (go_simp; done) | (go_simp; with_reducible rfl))
        try go_frame
        refine tkB 1 _ hh ?_
        try go_frame
        refine rdH [2] ?_
        refine rcH (fun K hK => ?_) AllReadyH.nil
        clear hh
        go_simp
        refine (knownop_any _ _).mono ?_
        rintro e w' ⟨rfl,rfl⟩
        refine hK.out _ _ hx0 (fun hh => ?_)
        clear hK K
        try go_frame
        refine tkA 3 _ hh ?_
        try go_frame
        refine tkB 4 _ hh ?_
        try go_frame
        refine tkB 5 _ hh ?_
        try go_frame
        refine rdH [6] ?_
        refine rcH (fun K hK => ?_) AllReadyH.nil
        clear hh
        go_simp
        refine (HUS.out _).mono ?_
        rintro e w1 ⟨rfl,hb1⟩
        have hB1 : Below w.heap.size w w1 := hb0.trans (hb1.mono hb0.size)
        have hx1 := ibox_next hx0 hX0 hb1
        have hX1 := Nat.lt_of_lt_of_le hX0 hb1.size
        refine hK.out _ _ hx1 (fun hh => ?_)
        clear hK K
        try go_frame
        refine tkA 7 _ hh ?_
        try go_frame
        refine tkA 8 _ hh ?_
        try go_frame
        refine tkA 9 _ hh ?_
        try go_frame
        refine wpAnyH_take (i := 10) (oi := _) (v := undef) (by simp only [List.getElem?_toArray,List.getElem?_cons_succ,List.getElem?_cons_zero]; rfl) (by kernel_rfl) (by kernel_rfl) (by kernel_rfl) (by intro _ _ _ h; exact h) (Or.inr ⟨by rfl,rfl⟩) hh ?_
        try go_frame
        refine wpAnyH_take (i := 11) (oi := _) (v := undef) (by simp only [List.getElem?_toArray,List.getElem?_cons_succ,List.getElem?_cons_zero]; rfl) (by kernel_rfl) (by kernel_rfl) (by kernel_rfl) (by intro _ _ _ h; exact h) (Or.inr ⟨by rfl,rfl⟩) hh ?_
        try go_frame
        refine tkA 12 _ hh ?_
        try go_frame
        refine tkA 13 _ hh ?_
        try go_frame
        refine wpAnyH_done (by kernel_rfl) ?_ _
        go_wp2_with fail
        go_ret
        exact ⟨ret_bool HF.out.symm,by first | exact hB2 | exact hB1 | exact hb0⟩
      ·have f1 : ¬ m.toList = m'.toList := fun h => em (str_ext h)
       have f2 : ¬ m'.toList = m.toList := fun h => em (str_ext h.symm)
       have f3 : (m.toList == m'.toList) = false := by rw [beq_eq_false_iff_ne]; exact f1
       have f4 : (m'.toList == m.toList) = false := by rw [beq_eq_false_iff_ne]; exact f2
       have HF : Hid (rightI (o,n,k,s,c,m,d) = false) := hid (by rw [HR.out,hk,decide_eq_false (by intro e; simp only [Prod.mk.injEq] at e; exact em (by simp_all))]; rfl)
       clear HR
       go_enter Tryz.func139,Tryz.ntmps139
       go_wp2_with fail
       refine wp_region_held_drew (S := (fun w' => w'.cell? ⟨w.heap.size,0,none⟩ = some (.int .i64 o) /\ w'.cell? ⟨w.heap.size,1,none⟩ = some (.int .i32 n) /\ w'.cell? ⟨w.heap.size,2,none⟩ = some (.int .i64 k) /\ w'.cell? ⟨w.heap.size,3,none⟩ = some (.string s) /\ w'.cell? ⟨w.heap.size,4,none⟩ = some (.string c) /\ w'.cell? ⟨w.heap.size,5,none⟩ = some (.string m) /\ w'.cell? ⟨w.heap.size,6,none⟩ = some (.string d))) (by kernel_rfl) hx0 (fun hh => ?_)
       refine wpAnyH_take (i := 0) (oi := _) (v := ?_) (by rfl) (by kernel_rfl) (by kernel_rfl) (by kernel_rfl) (by intro _ _ _ h; exact h) (Or.inl ⟨by rfl,fun W hSw => ?_⟩) hh ?_
       rotate_left 1
       ·(clear hSw; first | (go_simp; done) | (go_simp; with_reducible rfl))
       try go_frame
       refine tkB 1 _ hh ?_
       try go_frame
       refine rdH [2] ?_
       refine rcH (fun K hK => ?_) AllReadyH.nil
       clear hh
       go_simp
       refine (knownop_any _ _).mono ?_
       rintro e w' ⟨rfl,rfl⟩
       refine hK.out _ _ hx0 (fun hh => ?_)
       clear hK K
       try go_frame
       refine tkA 3 _ hh ?_
       try go_frame
       refine tkB 4 _ hh ?_
       try go_frame
       refine tkB 5 _ hh ?_
       try go_frame
       refine rdH [6] ?_
       refine rcH (fun K hK => ?_) AllReadyH.nil
       clear hh
       go_simp
       refine (HUS.out _).mono ?_
       rintro e w1 ⟨rfl,hb1⟩
       have hB1 : Below w.heap.size w w1 := hb0.trans (hb1.mono hb0.size)
       have hx1 := ibox_next hx0 hX0 hb1
       have hX1 := Nat.lt_of_lt_of_le hX0 hb1.size
       refine hK.out _ _ hx1 (fun hh => ?_)
       clear hK K
       try go_frame
       refine tkA 7 _ hh ?_
       try go_frame
       refine tkA 8 _ hh ?_
       try go_frame
       refine tkA 9 _ hh ?_
       try go_frame
       refine wpAnyH_take (i := 10) (oi := _) (v := undef) (by simp only [List.getElem?_toArray,List.getElem?_cons_succ,List.getElem?_cons_zero]; rfl) (by kernel_rfl) (by kernel_rfl) (by kernel_rfl) (by intro _ _ _ h; exact h) (Or.inr ⟨by rfl,rfl⟩) hh ?_
       try go_frame
       refine wpAnyH_take (i := 11) (oi := _) (v := undef) (by simp only [List.getElem?_toArray,List.getElem?_cons_succ,List.getElem?_cons_zero]; rfl) (by kernel_rfl) (by kernel_rfl) (by kernel_rfl) (by intro _ _ _ h; exact h) (Or.inr ⟨by rfl,rfl⟩) hh ?_
       try go_frame
       refine tkA 12 _ hh ?_
       try go_frame
       refine tkA 13 _ hh ?_
       try go_frame
       refine wpAnyH_done (by kernel_rfl) ?_ _
       go_wp2_with fail
       go_ret
       exact ⟨ret_bool HF.out.symm,by first | exact hB2 | exact hB1 | exact hb0⟩
     ·have f1 : ¬ c.toList = c'.toList := fun h => ec (str_ext h)
      have f2 : ¬ c'.toList = c.toList := fun h => ec (str_ext h.symm)
      have f3 : (c.toList == c'.toList) = false := by rw [beq_eq_false_iff_ne]; exact f1
      have f4 : (c'.toList == c.toList) = false := by rw [beq_eq_false_iff_ne]; exact f2
      have HF : Hid (rightI (o,n,k,s,c,m,d) = false) := hid (by rw [HR.out,hk,decide_eq_false (by intro e; simp only [Prod.mk.injEq] at e; exact ec (by simp_all))]; rfl)
      clear HR
      go_enter Tryz.func139,Tryz.ntmps139
      go_wp2_with fail
      refine wp_region_held_drew (S := (fun w' => w'.cell? ⟨w.heap.size,0,none⟩ = some (.int .i64 o) /\ w'.cell? ⟨w.heap.size,1,none⟩ = some (.int .i32 n) /\ w'.cell? ⟨w.heap.size,2,none⟩ = some (.int .i64 k) /\ w'.cell? ⟨w.heap.size,3,none⟩ = some (.string s) /\ w'.cell? ⟨w.heap.size,4,none⟩ = some (.string c) /\ w'.cell? ⟨w.heap.size,5,none⟩ = some (.string m) /\ w'.cell? ⟨w.heap.size,6,none⟩ = some (.string d))) (by kernel_rfl) hx0 (fun hh => ?_)
      refine wpAnyH_take (i := 0) (oi := _) (v := ?_) (by rfl) (by kernel_rfl) (by kernel_rfl) (by kernel_rfl) (by intro _ _ _ h; exact h) (Or.inl ⟨by rfl,fun W hSw => ?_⟩) hh ?_
      rotate_left 1
      ·(clear hSw; first | (go_simp; done) | (go_simp; with_reducible rfl))
      try go_frame
      refine tkB 1 _ hh ?_
      try go_frame
      refine rdH [2] ?_
      refine rcH (fun K hK => ?_) AllReadyH.nil
      clear hh
      go_simp
      refine (knownop_any _ _).mono ?_
      rintro e w' ⟨rfl,rfl⟩
      refine hK.out _ _ hx0 (fun hh => ?_)
      clear hK K
      try go_frame
      refine tkA 3 _ hh ?_
      try go_frame
      refine tkB 4 _ hh ?_
      try go_frame
      refine tkB 5 _ hh ?_
      try go_frame
      refine rdH [6] ?_
      refine rcH (fun K hK => ?_) AllReadyH.nil
      clear hh
      go_simp
      refine (HUS.out _).mono ?_
      rintro e w1 ⟨rfl,hb1⟩
      have hB1 : Below w.heap.size w w1 := hb0.trans (hb1.mono hb0.size)
      have hx1 := ibox_next hx0 hX0 hb1
      have hX1 := Nat.lt_of_lt_of_le hX0 hb1.size
      refine hK.out _ _ hx1 (fun hh => ?_)
      clear hK K
      try go_frame
      refine tkA 7 _ hh ?_
      try go_frame
      refine tkA 8 _ hh ?_
      try go_frame
      refine tkA 9 _ hh ?_
      try go_frame
      refine wpAnyH_take (i := 10) (oi := _) (v := undef) (by simp only [List.getElem?_toArray,List.getElem?_cons_succ,List.getElem?_cons_zero]; rfl) (by kernel_rfl) (by kernel_rfl) (by kernel_rfl) (by intro _ _ _ h; exact h) (Or.inr ⟨by rfl,rfl⟩) hh ?_
      try go_frame
      refine wpAnyH_take (i := 11) (oi := _) (v := undef) (by simp only [List.getElem?_toArray,List.getElem?_cons_succ,List.getElem?_cons_zero]; rfl) (by kernel_rfl) (by kernel_rfl) (by kernel_rfl) (by intro _ _ _ h; exact h) (Or.inr ⟨by rfl,rfl⟩) hh ?_
      try go_frame
      refine tkA 12 _ hh ?_
      try go_frame
      refine tkA 13 _ hh ?_
      try go_frame
      refine wpAnyH_done (by kernel_rfl) ?_ _
      go_wp2_with fail
      go_ret
      exact ⟨ret_bool HF.out.symm,by first | exact hB2 | exact hB1 | exact hb0⟩
    ·have f1 : ¬ s.toList = s'.toList := fun h => es (str_ext h)
     have f2 : ¬ s'.toList = s.toList := fun h => es (str_ext h.symm)
     have f3 : (s.toList == s'.toList) = false := by rw [beq_eq_false_iff_ne]; exact f1
     have f4 : (s'.toList == s.toList) = false := by rw [beq_eq_false_iff_ne]; exact f2
     have HF : Hid (rightI (o,n,k,s,c,m,d) = false) := hid (by rw [HR.out,hk,decide_eq_false (by intro e; simp only [Prod.mk.injEq] at e; exact es (by simp_all))]; rfl)
     clear HR
     go_enter Tryz.func139,Tryz.ntmps139
     go_wp2_with fail
     refine wp_region_held_drew (S := (fun w' => w'.cell? ⟨w.heap.size,0,none⟩ = some (.int .i64 o) /\ w'.cell? ⟨w.heap.size,1,none⟩ = some (.int .i32 n) /\ w'.cell? ⟨w.heap.size,2,none⟩ = some (.int .i64 k) /\ w'.cell? ⟨w.heap.size,3,none⟩ = some (.string s) /\ w'.cell? ⟨w.heap.size,4,none⟩ = some (.string c) /\ w'.cell? ⟨w.heap.size,5,none⟩ = some (.string m) /\ w'.cell? ⟨w.heap.size,6,none⟩ = some (.string d))) (by kernel_rfl) hx0 (fun hh => ?_)
     refine wpAnyH_take (i := 0) (oi := _) (v := ?_) (by rfl) (by kernel_rfl) (by kernel_rfl) (by kernel_rfl) (by intro _ _ _ h; exact h) (Or.inl ⟨by rfl,fun W hSw => ?_⟩) hh ?_
     rotate_left 1
     ·(clear hSw; first | (go_simp; done) | (go_simp; with_reducible rfl))
     try go_frame
     refine tkB 1 _ hh ?_
     try go_frame
     refine rdH [2] ?_
     refine rcH (fun K hK => ?_) AllReadyH.nil
     clear hh
     go_simp
     refine (knownop_any _ _).mono ?_
     rintro e w' ⟨rfl,rfl⟩
     refine hK.out _ _ hx0 (fun hh => ?_)
     clear hK K
     try go_frame
     refine tkA 3 _ hh ?_
     try go_frame
     refine tkB 4 _ hh ?_
     try go_frame
     refine tkB 5 _ hh ?_
     try go_frame
     refine rdH [6] ?_
     refine rcH (fun K hK => ?_) AllReadyH.nil
     clear hh
     go_simp
     refine (HUS.out _).mono ?_
     rintro e w1 ⟨rfl,hb1⟩
     have hB1 : Below w.heap.size w w1 := hb0.trans (hb1.mono hb0.size)
     have hx1 := ibox_next hx0 hX0 hb1
     have hX1 := Nat.lt_of_lt_of_le hX0 hb1.size
     refine hK.out _ _ hx1 (fun hh => ?_)
     clear hK K
     try go_frame
     refine tkA 7 _ hh ?_
     try go_frame
     refine tkA 8 _ hh ?_
     try go_frame
     refine tkA 9 _ hh ?_
     try go_frame
     refine wpAnyH_take (i := 10) (oi := _) (v := undef) (by simp only [List.getElem?_toArray,List.getElem?_cons_succ,List.getElem?_cons_zero]; rfl) (by kernel_rfl) (by kernel_rfl) (by kernel_rfl) (by intro _ _ _ h; exact h) (Or.inr ⟨by rfl,rfl⟩) hh ?_
     try go_frame
     refine wpAnyH_take (i := 11) (oi := _) (v := undef) (by simp only [List.getElem?_toArray,List.getElem?_cons_succ,List.getElem?_cons_zero]; rfl) (by kernel_rfl) (by kernel_rfl) (by kernel_rfl) (by intro _ _ _ h; exact h) (Or.inr ⟨by rfl,rfl⟩) hh ?_
     try go_frame
     refine tkA 12 _ hh ?_
     try go_frame
     refine tkA 13 _ hh ?_
     try go_frame
     refine wpAnyH_done (by kernel_rfl) ?_ _
     go_wp2_with fail
     go_ret
     exact ⟨ret_bool HF.out.symm,by first | exact hB2 | exact hB1 | exact hb0⟩
   ·have f1 : ¬ k = k' := ek
    have f2 : ¬ k' = k := fun h => ek h.symm
    have f3 : (k == k') = false := by rw [beq_eq_false_iff_ne]; exact f1
    have f4 : (k' == k) = false := by rw [beq_eq_false_iff_ne]; exact f2
    have HF : Hid (rightI (o,n,k,s,c,m,d) = false) := hid (by rw [HR.out,hk,decide_eq_false (by intro e; simp only [Prod.mk.injEq] at e; exact ek (by simp_all))]; rfl)
    clear HR
    go_enter Tryz.func139,Tryz.ntmps139
    go_wp2_with fail
    refine wp_region_held_drew (S := (fun w' => w'.cell? ⟨w.heap.size,0,none⟩ = some (.int .i64 o) /\ w'.cell? ⟨w.heap.size,1,none⟩ = some (.int .i32 n) /\ w'.cell? ⟨w.heap.size,2,none⟩ = some (.int .i64 k) /\ w'.cell? ⟨w.heap.size,3,none⟩ = some (.string s) /\ w'.cell? ⟨w.heap.size,4,none⟩ = some (.string c) /\ w'.cell? ⟨w.heap.size,5,none⟩ = some (.string m) /\ w'.cell? ⟨w.heap.size,6,none⟩ = some (.string d))) (by kernel_rfl) hx0 (fun hh => ?_)
    refine wpAnyH_take (i := 0) (oi := _) (v := ?_) (by rfl) (by kernel_rfl) (by kernel_rfl) (by kernel_rfl) (by intro _ _ _ h; exact h) (Or.inl ⟨by rfl,fun W hSw => ?_⟩) hh ?_
    rotate_left 1
    ·(clear hSw; first | (go_simp; done) | (go_simp; with_reducible rfl))
    try go_frame
    refine tkB 1 _ hh ?_
    try go_frame
    refine rdH [2] ?_
    refine rcH (fun K hK => ?_) AllReadyH.nil
    clear hh
    go_simp
    refine (knownop_any _ _).mono ?_
    rintro e w' ⟨rfl,rfl⟩
    refine hK.out _ _ hx0 (fun hh => ?_)
    clear hK K
    try go_frame
    refine tkA 3 _ hh ?_
    try go_frame
    refine tkB 4 _ hh ?_
    try go_frame
    refine tkB 5 _ hh ?_
    try go_frame
    refine rdH [6] ?_
    refine rcH (fun K hK => ?_) AllReadyH.nil
    clear hh
    go_simp
    refine (HUS.out _).mono ?_
    rintro e w1 ⟨rfl,hb1⟩
    have hB1 : Below w.heap.size w w1 := hb0.trans (hb1.mono hb0.size)
    have hx1 := ibox_next hx0 hX0 hb1
    have hX1 := Nat.lt_of_lt_of_le hX0 hb1.size
    refine hK.out _ _ hx1 (fun hh => ?_)
    clear hK K
    try go_frame
    refine tkA 7 _ hh ?_
    try go_frame
    refine tkA 8 _ hh ?_
    try go_frame
    refine tkA 9 _ hh ?_
    try go_frame
    refine wpAnyH_take (i := 10) (oi := _) (v := undef) (by simp only [List.getElem?_toArray,List.getElem?_cons_succ,List.getElem?_cons_zero]; rfl) (by kernel_rfl) (by kernel_rfl) (by kernel_rfl) (by intro _ _ _ h; exact h) (Or.inr ⟨by rfl,rfl⟩) hh ?_
    try go_frame
    refine wpAnyH_take (i := 11) (oi := _) (v := undef) (by simp only [List.getElem?_toArray,List.getElem?_cons_succ,List.getElem?_cons_zero]; rfl) (by kernel_rfl) (by kernel_rfl) (by kernel_rfl) (by intro _ _ _ h; exact h) (Or.inr ⟨by rfl,rfl⟩) hh ?_
    try go_frame
    refine tkA 12 _ hh ?_
    try go_frame
    refine tkA 13 _ hh ?_
    try go_frame
    refine wpAnyH_done (by kernel_rfl) ?_ _
    go_wp2_with fail
    go_ret
    exact ⟨ret_bool HF.out.symm,by first | exact hB2 | exact hB1 | exact hb0⟩
  ·have f1 : ¬ n = n' := en
   have f2 : ¬ n' = n := fun h => en h.symm
   have f3 : (n == n') = false := by rw [beq_eq_false_iff_ne]; exact f1
   have f4 : (n' == n) = false := by rw [beq_eq_false_iff_ne]; exact f2
   have HF : Hid (rightI (o,n,k,s,c,m,d) = false) := hid (by rw [HR.out,hk,decide_eq_false (by intro e; simp only [Prod.mk.injEq] at e; exact en (by simp_all))]; rfl)
   clear HR
   go_enter Tryz.func139,Tryz.ntmps139
   go_wp2_with fail
   refine wp_region_held_drew (S := (fun w' => w'.cell? ⟨w.heap.size,0,none⟩ = some (.int .i64 o) /\ w'.cell? ⟨w.heap.size,1,none⟩ = some (.int .i32 n) /\ w'.cell? ⟨w.heap.size,2,none⟩ = some (.int .i64 k) /\ w'.cell? ⟨w.heap.size,3,none⟩ = some (.string s) /\ w'.cell? ⟨w.heap.size,4,none⟩ = some (.string c) /\ w'.cell? ⟨w.heap.size,5,none⟩ = some (.string m) /\ w'.cell? ⟨w.heap.size,6,none⟩ = some (.string d))) (by kernel_rfl) hx0 (fun hh => ?_)
   refine wpAnyH_take (i := 0) (oi := _) (v := ?_) (by rfl) (by kernel_rfl) (by kernel_rfl) (by kernel_rfl) (by intro _ _ _ h; exact h) (Or.inl ⟨by rfl,fun W hSw => ?_⟩) hh ?_
   rotate_left 1
   ·(clear hSw; first | (go_simp; done) | (go_simp; with_reducible rfl))
   try go_frame
   refine tkB 1 _ hh ?_
   try go_frame
   refine rdH [2] ?_
   refine rcH (fun K hK => ?_) AllReadyH.nil
   clear hh
   go_simp
   refine (knownop_any _ _).mono ?_
   rintro e w' ⟨rfl,rfl⟩
   refine hK.out _ _ hx0 (fun hh => ?_)
   clear hK K
   try go_frame
   refine tkA 3 _ hh ?_
   try go_frame
   refine tkB 4 _ hh ?_
   try go_frame
   refine tkB 5 _ hh ?_
   try go_frame
   refine rdH [6] ?_
   refine rcH (fun K hK => ?_) AllReadyH.nil
   clear hh
   go_simp
   refine (HUS.out _).mono ?_
   rintro e w1 ⟨rfl,hb1⟩
   have hB1 : Below w.heap.size w w1 := hb0.trans (hb1.mono hb0.size)
   have hx1 := ibox_next hx0 hX0 hb1
   have hX1 := Nat.lt_of_lt_of_le hX0 hb1.size
   refine hK.out _ _ hx1 (fun hh => ?_)
   clear hK K
   try go_frame
   refine tkA 7 _ hh ?_
   try go_frame
   refine tkA 8 _ hh ?_
   try go_frame
   refine tkA 9 _ hh ?_
   try go_frame
   refine wpAnyH_take (i := 10) (oi := _) (v := undef) (by simp only [List.getElem?_toArray,List.getElem?_cons_succ,List.getElem?_cons_zero]; rfl) (by kernel_rfl) (by kernel_rfl) (by kernel_rfl) (by intro _ _ _ h; exact h) (Or.inr ⟨by rfl,rfl⟩) hh ?_
   try go_frame
   refine wpAnyH_take (i := 11) (oi := _) (v := undef) (by simp only [List.getElem?_toArray,List.getElem?_cons_succ,List.getElem?_cons_zero]; rfl) (by kernel_rfl) (by kernel_rfl) (by kernel_rfl) (by intro _ _ _ h; exact h) (Or.inr ⟨by rfl,rfl⟩) hh ?_
   try go_frame
   refine tkA 12 _ hh ?_
   try go_frame
   refine tkA 13 _ hh ?_
   try go_frame
   refine wpAnyH_done (by kernel_rfl) ?_ _
   go_wp2_with fail
   go_ret
   exact ⟨ret_bool HF.out.symm,by first | exact hB2 | exact hB1 | exact hb0⟩
theorem within_u (o n k : Int) (s c m d : ByteArray) (w : World) (h4 : ¬ usesI o = 4) (h5 : ¬ usesI o = 5) (h6 : ¬ usesI o = 6) :
  Calls Tryz.prog 163 #[insV (o,n,k,s,c,m,d)] w fun e w' => e = .returned (.bool (withinB (o,n,k,s,c,m,d))) /\ Below w.heap.size w w' := by
 rw [insV_mk]
 have hb0 : Below w.heap.size w (w.alloc (.cells #[.int .i64 o,.int .i32 n,.int .i64 k,.string s,.string c,.string m,.string d] 59)) := (Below.refl _ _).alloc (Nat.le_refl _) _
 go_enter Tryz.func163,Tryz.ntmps163
 go_wp2_with (go_at_call 164; refine (uses_any _ _).mono ?_; rintro e w' ⟨rfl,rfl⟩)
 all_goals go_ret
 all_goals refine ⟨ret_bool ?_,hb0⟩
 all_goals (rw [Bool.eq_iff_iff]; simp_all [withinB]; try omega)
theorem right_u (o n k : Int) (s c m d : ByteArray) (w : World) (h4 : ¬ usesI o = 4) (h5 : ¬ usesI o = 5) (h6 : ¬ usesI o = 6) :
  Calls Tryz.prog 139 #[insV (o,n,k,s,c,m,d)] w fun e w' => e = .returned (.bool (rightI (o,n,k,s,c,m,d))) /\ Below w.heap.size w w' :=
 right_core o n k s c m d w (fun w' _ => within_u o n k s c m d w' h4 h5 h6)
end Go.Proofs.YtfpeakkbbfnhcaaGreat.O
namespace Go.Proofs.YtfpeakkbbfnhcaaGreat.R
open Go.RowKit Go.Proofs.YtfpeakkbbfnhcaaGreat.D Go.Proofs.YtfpeakkbbfnhcaaGreat.O Go.Proofs.YtfpeakkbbfnhcaaGreat.A
theorem OwnX.frontT {T : TypeId} {w : World} {B : Nat} {p : Option Addr} {n cap k : Nat} {xs : List Ty} (h : OwnX 2 T (sP tyC) w B (.slice p n cap) xs) (hk : k <= xs.length) : OwnX 2 T (sP tyC) w B (.slice p k cap) (xs.take k) := by
 obtain ⟨cs,h1,h2⟩ := h
 rcases h1.2 with ⟨e,hn⟩ | ⟨g,cap',cur,he,hb,hg,hle,hc1,hc2,hc3⟩
 ·simp only [Value.slice.injEq] at e
  obtain ⟨rfl,rfl,rfl⟩ := e
  obtain rfl : k = 0 := by omega
  exact OwnX.nil _ _ _ _ _
 ·simp only [Value.slice.injEq] at he
  obtain ⟨rfl,rfl,rfl⟩ := he
  have hlc := h1.1
  refine ⟨cs.take (k * 2),⟨by rw [List.length_take,List.length_take]; omega,.inr ⟨g,cap,cur,by rw [List.length_take,Nat.min_eq_left hk],hb,hg,by rw [List.length_take]; omega,hc1,hc2,?_⟩⟩,fun i x hx => ?_⟩
  ·rw [List.length_take,Nat.min_eq_left hk,<- hc3,List.take_take,Nat.min_eq_left (by omega)]
  ·have hik : i < k := by have := (List.getElem?_eq_some_iff.1 hx).1; rw [List.length_take] at this; omega
   rw [List.getElem?_take_of_lt hik] at hx
   have := h2 i x hx
   show _ = tyC x
   rw [List.drop_take,List.take_take,Nat.min_eq_left (by omega)]
   exact this
theorem run_appA {α : Type} {sz bytes : Nat} {T TS : TypeId} {z : Value} (hI : Inf T TS sz bytes z) {c : α -> List Value} (hS : Shape (sP c) sz) (w : World) (B : Nat) (v : Value) (xs ys : List α) (hown : OwnX sz T (sP c) w B v xs) (p : Option Addr) (n cap : Nat) {ok : Nat -> Prop} (hr : RdX sz (sP c) ok w (.slice p n cap) ys) (hb : xs.length + ys.length <= 1000000) (hbase : B <= w.heap.size) (ty : TypeId) :
  ∃ v' w',(Builtin.append_ #[TS,TS] ty #[v,.slice p n cap]).run Tryz.prog w = .ok v' w' /\ OwnX sz T (sP c) w' B v' (xs ++ ys) /\ w.grownBy w' v.ownBlock /\ (v'.ownBlock = v.ownBlock ∨ v'.ownBlock = some w.heap.size) := by
 obtain ⟨p',cap',e,h1,h2,h3⟩ := hr
 simp only [Value.slice.injEq] at e
 obtain ⟨rfl,rfl,rfl⟩ := e
 cases p with
 | none =>
  have hy : ys = [] := by
   rcases h3 with h | ⟨_,_,e,_⟩
   ·exact h
   ·cases e
  subst hy
  have hc := h2 rfl
  subst hc
  obtain ⟨hi0,hund,hzs,hsz,hby⟩ := hI
  obtain ⟨i0,hi,hz0,hz1,hz2⟩ := info_parts hi0
  have ho := hown
  obtain ⟨cs,hrow,-⟩ := hown
  exact ⟨v,w,run_append_owned_none w B TS ty T i0 sz hund hi v xs.length cs hrow,by rw [List.append_nil]; exact ho,⟨rfl,rfl,rfl,Nat.le_refl _,fun _ _ _ => rfl⟩,.inl rfl⟩
 | some a =>
  exact run_appX hI (sP.grow c) hS w B v xs ys hown a cap (fun i u hu => by
   rcases h3 with rfl | ⟨b,off',e,_,_,hc⟩
   ·simp at hu
   ·simp only [Option.some.injEq] at e
    subst e
    obtain ⟨vs,hv,hcell⟩ := hc i u hu
    refine ⟨vs,hv,fun j u hu => ?_⟩
    have := hcell j u hu
    unfold Addr.add
    split
    ·rename_i h0
     have e0 : off' + i * sz + j = off' := by omega
     rw [e0] at this
     exact this
    ·rw [Nat.add_assoc] at this
     exact this) hb hbase ty
theorem step_appA {α : Type} {sz bytes : Nat} {T TS : TypeId} {z : Value} (hI : Inf T TS sz bytes z) {c : α -> List Value} (hS : Shape (sP c) sz) {w : World} {ops : Array Oper} {o : Oper} {a : Act} {K : Act -> World -> Prop} {Q : Exit -> Act -> World -> Prop} {E : Prop}
  (hw : Region.wanted o (yielded ops a.tmps) = true) (s x : Operand)
  (ho : o.op = .call { callee := .builtin .append,args := #[s,x],argTypes := #[TS,TS] })
  (B : Nat) (v : Value) (xs : List α) (hs : a.eval s = v) (hown : OwnX sz T (sP c) w B v xs) (p : Option Addr) (n cap : Nat) {ok : Nat -> Prop} (ys : List α) (hx : a.eval x = .slice p n cap) (hr : RdX sz (sP c) ok w (.slice p n cap) ys)
  (hb : xs.length + ys.length <= 1000000) (hbase : B <= w.heap.size)
  (h : ∀ v' w',OwnX sz T (sP c) w' B v' (xs ++ ys) -> w.grownBy w' v.ownBlock -> (v'.ownBlock = v.ownBlock ∨ v'.ownBlock = some w.heap.size) -> K (a.put o.dst v') w') :
  if Region.wanted o (yielded ops a.tmps) = true then Oper.wp Tryz.prog o a w K Q else E := by
 rw [if_pos hw]
 obtain ⟨v',w',hrun,g1,g2,g4⟩ := run_appA hI hS w B v xs ys hown p n cap hr hb hbase o.type
 unfold Oper.wp execOp
 simp only [ho,resolve,invoke,builtin,Sem.run_bind,Sem.run_pure,Result.andThen_ok,List.map_toArray,List.map_cons,List.map_nil,hs,hx]
 simp only [hrun]
 exact h v' w' g1 g2 g4
theorem RdX.backI {ok : Nat -> Prop} {w : World} {ps : Option Addr} {n cap k : Nat} {xs : List Ty} (h : RdX 2 (sP tyC) ok w (.slice ps n cap) xs) (hk : k <= xs.length) : RdX 2 (sP tyC) ok w (.slice (if cap = k then ps else Option.map (fun x => x.add (k * 2)) ps) (xs.drop k).length (cap - k)) (xs.drop k) := by
 obtain ⟨p',cap',e,h1,h2,h3⟩ := h
 simp only [Value.slice.injEq] at e
 obtain ⟨rfl,rfl,rfl⟩ := e
 cases ps with
 | none =>
  obtain rfl := h2 rfl
  obtain rfl : k = 0 := by omega
  have hx : xs = [] := by
   rcases h3 with e | ⟨_,_,e,_⟩
   ·exact e
   ·cases e
  subst hx
  exact ⟨none,0,rfl,by simp,fun _ => rfl,.inl rfl⟩
 | some a =>
  have e2 : (if cap = k then some a else Option.map (fun x => x.add (k * 2)) (some a)) = some (if cap = k then a else a.add (k * 2)) := by split <;> rfl
  rw [e2]
  refine ⟨_,_,rfl,by rw [List.length_drop]; omega,(fun e => by cases e),?_⟩
  by_cases hd : xs.drop k = []
  ·exact .inl hd
  ·have hlt : k < xs.length := by
    apply Nat.lt_of_not_le
    intro hle
    exact hd (List.drop_eq_nil_of_le hle)
   rcases h3 with e | ⟨b,off,e,h4,h5,h6⟩
   ·rw [e] at hlt; simp at hlt
   ·obtain rfl := Option.some.inj e
    refine .inr ⟨b,off + k * 2,by rw [if_neg (by omega)]; unfold Addr.add; split; (· rw [show k * 2 = 0 by assumption]; rfl); rfl,h4,h5,fun i x hx => ?_⟩
    rw [List.getElem?_drop] at hx
    obtain ⟨vs,hv,hc⟩ := h6 (k + i) x hx
    refine ⟨vs,hv,fun j u hu => ?_⟩
    have := hc j u hu
    rw [show off + k * 2 + i * 2 + j = off + (k + i) * 2 + j by omega]
    exact this
def findB (o k : Int) (n : Nat) : Bool := if o = 4 ∨ o = 5 then decide (k < (n : Int)) else true
def stepC (T : List Sk) (f : Fr) (o k : Int) (C : Chg) : Fr × Int :=
 if f.1 = false then (noFr,28) else if f.2.2.length < C.1.length then (noFr,30) else if ¬ C.2.2 = 0 then (noFr,C.2.2)
 else if heldB T o (f.2.2.drop (f.2.2.length - C.1.length)) C.1 = false then (noFr,29) else if 100 < f.2.2.length - C.1.length + C.2.1.length then (noFr,30)
 else ((true,(if o = 5 then f.2.1.set k.toNat (lastT f.2.2) else f.2.1),f.2.2.take (f.2.2.length - C.1.length) ++ C.2.1),0)
theorem finds_f (f : Fr) (pl ps : Option Addr) (cl cs : Nat) (o n k : Int) (s c m d : ByteArray) (w : World) :
  Calls Tryz.prog 140 #[.agg #[.bool f.1,.slice pl f.2.1.length cl,.slice ps f.2.2.length cs],.agg #[.int .i64 o,.int .i32 n,.int .i64 k,.string s,.string c,.string m,.string d]] w fun e w' => e = .returned (.bool (findB o k f.2.1.length)) /\ Below w.heap.size w w' := by
 obtain ⟨r,L,S⟩ := f
 dsimp only
 have HB := hid (jbl2 w (.cells #[.bool r,.slice pl L.length cl,.slice ps S.length cs] 61) (.cells #[.int .i64 o,.int .i32 n,.int .i64 k,.string s,.string c,.string m,.string d] 59))
 by_cases h4 : o = 4
 ·subst h4
  go_enter Tryz.func140,Tryz.ntmps140
  go_wp2_with fail
  go_ret
  exact ⟨rfl,HB.out⟩
 by_cases h5 : o = 5
 ·subst h5
  go_enter Tryz.func140,Tryz.ntmps140
  go_wp2_with fail
  go_ret
  exact ⟨rfl,HB.out⟩
 have HV : Hid (findB o k L.length = true) := hid (by unfold findB; rw [if_neg (by omega)])
 go_enter Tryz.func140,Tryz.ntmps140
 go_wp2_with fail
 go_ret
 exact ⟨by rw [HV.out]; rfl,HB.out⟩
end Go.Proofs.YtfpeakkbbfnhcaaGreat.R
