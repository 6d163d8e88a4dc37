/- Texts that the proof is made of, joined. No condition. -/
import Derived.Test.YtofnbapnmhibaaaGreatE63
import Derived.Deep.RegionHeld3
import Derived.OrdersHeld
import Derived.Test.YtofnbapnmhibaaaGreatE61
import Derived.Test.YtofnbapnmhibaaaGreatE60
import Derived.Shelf.Strings.BuilderX
import Derived.Below
import Derived.Test.YtofnbapnmhibaaaGreatE6H
set_option linter.unusedVariables false
set_option linter.unusedSimpArgs false
set_option maxRecDepth 100000
set_option maxHeartbeats 16000000
namespace Go.Proofs.YtofnbapnmhibaaaGreat.O
open Go.Proofs.YtofnbapnmhibaaaGreat.D
open Go.RowKit
def parsesB (s : ByteArray) : Bool := (parseR s.data.toList).2.2
def withinB (x : Ins) : Bool :=
 if usesI x.1 = 2 then decide (x.2.2.2.1.size <= 1000) else if usesI x.1 = 3 then decide (0 <= x.2.2.1 /\ x.2.2.1 <= 2000) else
 if usesI x.1 = 4 then nameB x.2.2.2.2.1 && nameB x.2.2.2.2.2.1 else if usesI x.1 = 5 then nameB x.2.2.2.2.1 && nameB x.2.2.2.2.2.1 && parsesB x.2.2.2.2.2.2 else
 if usesI x.1 = 6 then nameB x.2.2.2.2.1 else true
def rightI (x : Ins) : Bool := knownB x.1 && decide (x = usedI x) && withinB x
theorem parses_any (s : ByteArray) (w : World) (hg : Glob w) (hs : s.size <= 4294967280) :
  Calls Tryz.prog 105 #[.string s] w fun e w' => e = .returned (.bool (parsesB s)) /\ Below w.heap.size w w' := by
 go_enter Tryz.func105,Tryz.ntmps105
 go_wp2_with fail
 refine (parse_any s w hg hs).mono ?_
 rintro e w1 ⟨v,ps,⟨t0,t1⟩,ok,HP,rfl,ho,hb⟩
 have HV : Hid (parsesB s = ok) := hid (by unfold parsesB; rw [HP.out])
 have hs1 := hb.size
 rw [show tyv (t0,t1) = .agg #[.int .i64 t0,.string t1] from rfl]
 obtain ⟨pa,pc,hv,_⟩ := ho.rd
 subst hv
 clear ho HP
 go_wp2_with fail
 go_ret
 refine ⟨ret_bool HV.out.symm,?_⟩
 repeat (first | exact Below.refl _ _ | exact hb | refine Below.setCell (p := ⟨_,_,_⟩) ?_ (by first | (simp; done) | (simp; omega) | omega) _ | refine below_drewN ?_ _ | refine Below.drew ?_ | refine Below.alloc ?_ (by first | (simp; done) | (simp; omega) | omega) _)
theorem within_any (o n k : Int) (s c m d : ByteArray) (w : World) (hg : Glob w) (hc : c.size <= maxLen) (hm : m.size <= maxLen) (hd : d.size <= 4294967280) :
  Calls Tryz.prog 101 #[insV (o,n,k,s,c,m,d)] w fun e w' => e = .returned (.bool (withinB (o,n,k,s,c,m,d))) /\ Below w.heap.size w w' := by
 rw [insV_mk]
 have hg1 := hg.alloc (.cells #[.int .i64 o,.int .i32 n,.int .i64 k,.string s,.string c,.string m,.string d] 31)
 have hb0 : Below w.heap.size w (w.alloc (.cells #[.int .i64 o,.int .i32 n,.int .i64 k,.string s,.string c,.string m,.string d] 31)) := (Below.refl _ _).alloc (Nat.le_refl _) _
 go_enter Tryz.func101,Tryz.ntmps101
 go_wp2_with (first
  | (go_at_call 96; refine (uses_any _ _).mono ?_; rintro e w' ⟨rfl,rfl⟩)
  | (go_at_call 57; refine (name_any _ _ (by assumption)).mono ?_; rintro e w' ⟨rfl,rfl⟩)
  | (go_at_call 105; refine (parses_any _ _ hg1 hd).mono ?_; rintro e w' ⟨rfl,hb1⟩))
 all_goals go_ret
 all_goals refine ⟨ret_bool ?_,?_⟩
 all_goals first | exact hb0 | exact hb0.trans (hb1.mono hb0.size) | skip
 all_goals (rw [Bool.eq_iff_iff]; simp_all [withinB]; try omega)
theorem ibox_next {w w' : World} {X : Nat} {o n k : Int} {s c m d : ByteArray} (h : w.cell? ⟨X,0,none⟩ = some (.int .i64 o) /\ w.cell? ⟨X,1,none⟩ = some (.int .i32 n) /\ w.cell? ⟨X,2,none⟩ = some (.int .i64 k) /\ w.cell? ⟨X,3,none⟩ = some (.string s) /\ w.cell? ⟨X,4,none⟩ = some (.string c) /\ w.cell? ⟨X,5,none⟩ = some (.string m) /\ w.cell? ⟨X,6,none⟩ = some (.string d)) (hX : X < w.heap.size) (hb : Below w.heap.size w w') :
  w'.cell? ⟨X,0,none⟩ = some (.int .i64 o) /\ w'.cell? ⟨X,1,none⟩ = some (.int .i32 n) /\ w'.cell? ⟨X,2,none⟩ = some (.int .i64 k) /\ w'.cell? ⟨X,3,none⟩ = some (.string s) /\ w'.cell? ⟨X,4,none⟩ = some (.string c) /\ w'.cell? ⟨X,5,none⟩ = some (.string m) /\ w'.cell? ⟨X,6,none⟩ = some (.string d) := by
 obtain ⟨h0,h1,h2,h3,h4,h5,h6⟩ := h
 exact ⟨(hb.cell (p := ⟨X,0,none⟩) hX).trans h0,(hb.cell (p := ⟨X,1,none⟩) hX).trans h1,(hb.cell (p := ⟨X,2,none⟩) hX).trans h2,(hb.cell (p := ⟨X,3,none⟩) hX).trans h3,(hb.cell (p := ⟨X,4,none⟩) hX).trans h4,(hb.cell (p := ⟨X,5,none⟩) hX).trans h5,(hb.cell (p := ⟨X,6,none⟩) hX).trans h6⟩
theorem ibox_new (w : World) (o n k : Int) (s c m d : ByteArray) (w' : World) (hw : w' = (w.alloc (.cells #[.int .i64 o,.int .i32 n,.int .i64 k,.string s,.string c,.string m,.string d] 31)).drew) :
  w'.cell? ⟨w.heap.size,0,none⟩ = some (.int .i64 o) /\ w'.cell? ⟨w.heap.size,1,none⟩ = some (.int .i32 n) /\ w'.cell? ⟨w.heap.size,2,none⟩ = some (.int .i64 k) /\ w'.cell? ⟨w.heap.size,3,none⟩ = some (.string s) /\ w'.cell? ⟨w.heap.size,4,none⟩ = some (.string c) /\ w'.cell? ⟨w.heap.size,5,none⟩ = some (.string m) /\ w'.cell? ⟨w.heap.size,6,none⟩ = some (.string d) := by
 subst hw
 refine ⟨?_,?_,?_,?_,?_,?_,?_⟩ <;> simp
theorem right_any (o n k : Int) (s c m d : ByteArray) (w : World) (hg : Glob w) (hc : c.size <= maxLen) (hm : m.size <= maxLen) (hd : d.size <= 4294967280) :
  Calls Tryz.prog 83 #[insV (o,n,k,s,c,m,d)] w fun e w' => e = .returned (.bool (rightI (o,n,k,s,c,m,d))) /\ Below w.heap.size w w' := by
 rw [insV_mk]
 obtain ⟨⟨o',n',k',s',c',m',d'⟩,HU⟩ : ∃ y,usedI (o,n,k,s,c,m,d) = y := ⟨_,rfl⟩
 obtain rfl : o = o' := congrArg Prod.fst HU
 have HUS : Hid (∀ w : World,Calls Tryz.prog 100 #[.agg #[.int .i64 o,.int .i32 n,.int .i64 k,.string s,.string c,.string m,.string d]] w fun e w' => e = .returned (.agg #[.int .i64 o,.int .i32 n',.int .i64 k',.string s',.string c',.string m',.string d']) /\ Below w.heap.size w w') := hid (fun w => by
  have := used_any o n k s c m d w
  rw [HU,insV_mk,insV_mk] at this
  exact this)
 have HWI : Hid (∀ w : World,Glob w -> Calls Tryz.prog 101 #[.agg #[.int .i64 o,.int .i32 n,.int .i64 k,.string s,.string c,.string m,.string d]] w fun e w' => e = .returned (.bool (withinB (o,n,k,s,c,m,d))) /\ Below w.heap.size w w') := hid (fun w hg => by
  have := within_any o n k s c m d w hg hc hm hd
  rw [insV_mk] at this
  exact this)
 have HR : Hid (rightI (o,n,k,s,c,m,d) = (knownB o && decide ((o,n,k,s,c,m,d) = (o,n',k',s',c',m',d')) && withinB (o,n,k,s,c,m,d))) := hid (by unfold rightI; rw [HU])
 have hb0 : Below w.heap.size w (w.alloc (.cells #[.int .i64 o,.int .i32 n,.int .i64 k,.string s,.string c,.string m,.string d] 31)).drew := ((Below.refl _ _).alloc (Nat.le_refl _) _).drew
 have hx0 := ibox_new w o n k s c m d _ rfl
 have hX0 : w.heap.size < (w.alloc (.cells #[.int .i64 o,.int .i32 n,.int .i64 k,.string s,.string c,.string m,.string d] 31)).drew.heap.size := by simp
 clear HU
 cases hk : knownB o with
 | false =>
  have HF : Hid (rightI (o,n,k,s,c,m,d) = false) := hid (by rw [HR.out,hk]; rfl)
  clear HR
  go_enter Tryz.func83,Tryz.ntmps83
  go_wp2_with fail
  refine wp_region_held_drew (S := (fun w' => w'.cell? ⟨w.heap.size,0,none⟩ = some (.int .i64 o) /\ w'.cell? ⟨w.heap.size,1,none⟩ = some (.int .i32 n) /\ w'.cell? ⟨w.heap.size,2,none⟩ = some (.int .i64 k) /\ w'.cell? ⟨w.heap.size,3,none⟩ = some (.string s) /\ w'.cell? ⟨w.heap.size,4,none⟩ = some (.string c) /\ w'.cell? ⟨w.heap.size,5,none⟩ = some (.string m) /\ w'.cell? ⟨w.heap.size,6,none⟩ = some (.string d))) (by kernel_rfl) hx0 (fun hh => ?_)
  refine wpAnyH_take (i := 0) (oi := _) (v := ?_) (by rfl) (by kernel_rfl) (by kernel_rfl) (by kernel_rfl) (by intro _ _ _ h; exact h) (Or.inl ⟨by rfl,fun W hSw => ?_⟩) hh ?_
  rotate_left 1
  ·(clear hSw; first | (go_simp; done) | (go_simp; with_reducible rfl))
  try go_frame
  refine tkB 1 _ hh ?_
  try go_frame
  refine rdH [2] ?_
  refine rcH (fun K hK => ?_) AllReadyH.nil
  clear hh
  go_simp
  refine (knownop_any _ _).mono ?_
  rintro e w' ⟨rfl,rfl⟩
  refine hK.out _ _ hx0 (fun hh => ?_)
  clear hK K
  try go_frame
  refine tkA 3 _ hh ?_
  try go_frame
  refine wpAnyH_take (i := 4) (oi := _) (v := undef) (by simp only [List.getElem?_toArray,List.getElem?_cons_succ,List.getElem?_cons_zero]; rfl) (by kernel_rfl) (by kernel_rfl) (by kernel_rfl) (by intro _ _ _ h; exact h) (Or.inr ⟨by rfl,rfl⟩) hh ?_
  try go_frame
  refine wpAnyH_take (i := 5) (oi := _) (v := undef) (by simp only [List.getElem?_toArray,List.getElem?_cons_succ,List.getElem?_cons_zero]; rfl) (by kernel_rfl) (by kernel_rfl) (by kernel_rfl) (by intro _ _ _ h; exact h) (Or.inr ⟨by rfl,rfl⟩) hh ?_
  try go_frame
  refine wpAnyH_take (i := 6) (oi := _) (v := undef) (by simp only [List.getElem?_toArray,List.getElem?_cons_succ,List.getElem?_cons_zero]; rfl) (by kernel_rfl) (by kernel_rfl) (by kernel_rfl) (by intro _ _ _ h; exact h) (Or.inr ⟨by rfl,rfl⟩) hh ?_
  try go_frame
  refine wpAnyH_take (i := 7) (oi := _) (v := undef) (by simp only [List.getElem?_toArray,List.getElem?_cons_succ,List.getElem?_cons_zero]; rfl) (by kernel_rfl) (by kernel_rfl) (by kernel_rfl) (by intro _ _ _ h; exact h) (Or.inr ⟨by rfl,rfl⟩) hh ?_
  try go_frame
  refine tkA 8 _ hh ?_
  try go_frame
  refine tkA 9 _ hh ?_
  try go_frame
  refine wpAnyH_take (i := 10) (oi := _) (v := undef) (by simp only [List.getElem?_toArray,List.getElem?_cons_succ,List.getElem?_cons_zero]; rfl) (by kernel_rfl) (by kernel_rfl) (by kernel_rfl) (by intro _ _ _ h; exact h) (Or.inr ⟨by rfl,rfl⟩) hh ?_
  try go_frame
  refine wpAnyH_take (i := 11) (oi := _) (v := undef) (by simp only [List.getElem?_toArray,List.getElem?_cons_succ,List.getElem?_cons_zero]; rfl) (by kernel_rfl) (by kernel_rfl) (by kernel_rfl) (by intro _ _ _ h; exact h) (Or.inr ⟨by rfl,rfl⟩) hh ?_
  try go_frame
  refine tkA 12 _ hh ?_
  try go_frame
  refine tkA 13 _ hh ?_
  try go_frame
  refine wpAnyH_done (by kernel_rfl) ?_ _
  go_wp2_with fail
  go_ret
  exact ⟨ret_bool HF.out.symm,by first | exact hB2 | exact hB1 | exact hb0⟩
 | true =>
  by_cases en : n = n'
  ·subst en
   by_cases ek : k = k'
   ·subst ek
    by_cases es : s = s'
    ·subst es
     by_cases ec : c = c'
     ·subst ec
      by_cases em : m = m'
      ·subst em
       by_cases ed : d = d'
       ·subst ed
        have HF : Hid (rightI (o,n,k,s,c,m,d) = withinB (o,n,k,s,c,m,d)) := hid (by rw [HR.out,hk]; simp)
        clear HR
        go_enter Tryz.func83,Tryz.ntmps83
        go_wp2_with fail
        refine wp_region_held_drew (S := (fun w' => w'.cell? ⟨w.heap.size,0,none⟩ = some (.int .i64 o) /\ w'.cell? ⟨w.heap.size,1,none⟩ = some (.int .i32 n) /\ w'.cell? ⟨w.heap.size,2,none⟩ = some (.int .i64 k) /\ w'.cell? ⟨w.heap.size,3,none⟩ = some (.string s) /\ w'.cell? ⟨w.heap.size,4,none⟩ = some (.string c) /\ w'.cell? ⟨w.heap.size,5,none⟩ = some (.string m) /\ w'.cell? ⟨w.heap.size,6,none⟩ = some (.string d))) (by kernel_rfl) hx0 (fun hh => ?_)
        refine wpAnyH_take (i := 0) (oi := _) (v := ?_) (by rfl) (by kernel_rfl) (by kernel_rfl) (by kernel_rfl) (by intro _ _ _ h; exact h) (Or.inl ⟨by rfl,fun W hSw => ?_⟩) hh ?_
        rotate_left 1
        ·(clear hSw; first | (go_simp; done) | (go_simp; with_reducible rfl))
        try go_frame
        refine tkB 1 _ hh ?_
        try go_frame
        refine rdH [2] ?_
        refine rcH (fun K hK => ?_) AllReadyH.nil
        clear hh
        go_simp
        refine (knownop_any _ _).mono ?_
        rintro e w' ⟨rfl,rfl⟩
        refine hK.out _ _ hx0 (fun hh => ?_)
        clear hK K
        try go_frame
        refine tkA 3 _ hh ?_
        try go_frame
        refine tkB 4 _ hh ?_
        try go_frame
        refine tkB 5 _ hh ?_
        try go_frame
        refine rdH [6] ?_
        refine rcH (fun K hK => ?_) AllReadyH.nil
        clear hh
        go_simp
        refine (HUS.out _).mono ?_
        rintro e w1 ⟨rfl,hb1⟩
        have hB1 : Below w.heap.size w w1 := hb0.trans (hb1.mono hb0.size)
        have hx1 := ibox_next hx0 hX0 hb1
        have hX1 := Nat.lt_of_lt_of_le hX0 hb1.size
        refine hK.out _ _ hx1 (fun hh => ?_)
        clear hK K
        try go_frame
        refine tkA 7 _ hh ?_
        try go_frame
        refine tkA 8 _ hh ?_
        try go_frame
        refine tkA 9 _ hh ?_
        try go_frame
        refine tkB 10 _ hh ?_
        try go_frame
        refine rdH [11] ?_
        refine rcH (fun K hK => ?_) AllReadyH.nil
        clear hh
        go_simp
        refine (HWI.out _ (hg.below hB1 (Nat.le_refl _))).mono ?_
        rintro e w2 ⟨rfl,hb2⟩
        have hB2 : Below w.heap.size w w2 := hB1.trans (hb2.mono hB1.size)
        have hx2 := ibox_next hx1 hX1 hb2
        refine hK.out _ _ hx2 (fun hh => ?_)
        clear hK K
        try go_frame
        refine tkA 12 _ hh ?_
        try go_frame
        refine tkA 13 _ hh ?_
        try go_frame
        refine wpAnyH_done (by kernel_rfl) ?_ _
        go_wp2_with fail
        go_ret
        exact ⟨ret_bool HF.out.symm,by first | exact hB2 | exact hB1 | exact hb0⟩
       ·have f1 : ¬ d.toList = d'.toList := fun h => ed (str_ext h)
        have f2 : ¬ d'.toList = d.toList := fun h => ed (str_ext h.symm)
        have f3 : (d.toList == d'.toList) = false := by rw [beq_eq_false_iff_ne]; exact f1
        have f4 : (d'.toList == d.toList) = false := by rw [beq_eq_false_iff_ne]; exact f2
        have HF : Hid (rightI (o,n,k,s,c,m,d) = false) := hid (by rw [HR.out,hk,decide_eq_false (by intro e; simp only [Prod.mk.injEq] at e; exact ed (by simp_all))]; rfl)
        clear HR
        go_enter Tryz.func83,Tryz.ntmps83
        go_wp2_with fail
        refine wp_region_held_drew (S := (fun w' => w'.cell? ⟨w.heap.size,0,none⟩ = some (.int .i64 o) /\ w'.cell? ⟨w.heap.size,1,none⟩ = some (.int .i32 n) /\ w'.cell? ⟨w.heap.size,2,none⟩ = some (.int .i64 k) /\ w'.cell? ⟨w.heap.size,3,none⟩ = some (.string s) /\ w'.cell? ⟨w.heap.size,4,none⟩ = some (.string c) /\ w'.cell? ⟨w.heap.size,5,none⟩ = some (.string m) /\ w'.cell? ⟨w.heap.size,6,none⟩ = some (.string d))) (by kernel_rfl) hx0 (fun hh => ?_)
        refine wpAnyH_take (i := 0) (oi := _) (v := ?_) (by rfl) (by kernel_rfl) (by kernel_rfl) (by kernel_rfl) (by intro _ _ _ h; exact h) (Or.inl ⟨by rfl,fun W hSw => ?_⟩) hh ?_
        rotate_left 1
        ·(clear hSw; first | (go_simp; done) | (go_simp; with_reducible rfl))
        try go_frame
        refine tkB 1 _ hh ?_
        try go_frame
        refine rdH [2] ?_
        refine rcH (fun K hK => ?_) AllReadyH.nil
        clear hh
        go_simp
        refine (knownop_any _ _).mono ?_
        rintro e w' ⟨rfl,rfl⟩
        refine hK.out _ _ hx0 (fun hh => ?_)
        clear hK K
        try go_frame
        refine tkA 3 _ hh ?_
        try go_frame
        refine tkB 4 _ hh ?_
        try go_frame
        refine tkB 5 _ hh ?_
        try go_frame
        refine rdH [6] ?_
        refine rcH (fun K hK => ?_) AllReadyH.nil
        clear hh
        go_simp
        refine (HUS.out _).mono ?_
        rintro e w1 ⟨rfl,hb1⟩
        have hB1 : Below w.heap.size w w1 := hb0.trans (hb1.mono hb0.size)
        have hx1 := ibox_next hx0 hX0 hb1
        have hX1 := Nat.lt_of_lt_of_le hX0 hb1.size
        refine hK.out _ _ hx1 (fun hh => ?_)
        clear hK K
        try go_frame
        refine tkA 7 _ hh ?_
        try go_frame
        refine tkA 8 _ hh ?_
        try go_frame
        refine tkA 9 _ hh ?_
        try go_frame
        refine wpAnyH_take (i := 10) (oi := _) (v := undef) (by simp only [List.getElem?_toArray,List.getElem?_cons_succ,List.getElem?_cons_zero]; rfl) (by kernel_rfl) (by kernel_rfl) (by kernel_rfl) (by intro _ _ _ h; exact h) (Or.inr ⟨by rfl,rfl⟩) hh ?_
        try go_frame
        refine wpAnyH_take (i := 11) (oi := _) (v := undef) (by simp only [List.getElem?_toArray,List.getElem?_cons_succ,List.getElem?_cons_zero]; rfl) (by kernel_rfl) (by kernel_rfl) (by kernel_rfl) (by intro _ _ _ h; exact h) (Or.inr ⟨by rfl,rfl⟩) hh ?_
        try go_frame
        refine tkA 12 _ hh ?_
        try go_frame
        refine tkA 13 _ hh ?_
        try go_frame
        refine wpAnyH_done (by kernel_rfl) ?_ _
        go_wp2_with fail
        go_ret
        exact ⟨ret_bool HF.out.symm,by first | exact hB2 | exact hB1 | exact hb0⟩
      ·have f1 : ¬ m.toList = m'.toList := fun h => em (str_ext h)
       have f2 : ¬ m'.toList = m.toList := fun h => em (str_ext h.symm)
       have f3 : (m.toList == m'.toList) = false := by rw [beq_eq_false_iff_ne]; exact f1
       have f4 : (m'.toList == m.toList) = false := by rw [beq_eq_false_iff_ne]; exact f2
       have HF : Hid (rightI (o,n,k,s,c,m,d) = false) := hid (by rw [HR.out,hk,decide_eq_false (by intro e; simp only [Prod.mk.injEq] at e; exact em (by simp_all))]; rfl)
       clear HR
       go_enter Tryz.func83,Tryz.ntmps83
       go_wp2_with fail
       refine wp_region_held_drew (S := (fun w' => w'.cell? ⟨w.heap.size,0,none⟩ = some (.int .i64 o) /\ w'.cell? ⟨w.heap.size,1,none⟩ = some (.int .i32 n) /\ w'.cell? ⟨w.heap.size,2,none⟩ = some (.int .i64 k) /\ w'.cell? ⟨w.heap.size,3,none⟩ = some (.string s) /\ w'.cell? ⟨w.heap.size,4,none⟩ = some (.string c) /\ w'.cell? ⟨w.heap.size,5,none⟩ = some (.string m) /\ w'.cell? ⟨w.heap.size,6,none⟩ = some (.string d))) (by kernel_rfl) hx0 (fun hh => ?_)
       refine wpAnyH_take (i := 0) (oi := _) (v := ?_) (by rfl) (by kernel_rfl) (by kernel_rfl) (by kernel_rfl) (by intro _ _ _ h; exact h) (Or.inl ⟨by rfl,fun W hSw => ?_⟩) hh ?_
       rotate_left 1
       ·(clear hSw; first | (go_simp; done) | (go_simp; with_reducible rfl))
       try go_frame
       refine tkB 1 _ hh ?_
       try go_frame
       refine rdH [2] ?_
       refine rcH (fun K hK => ?_) AllReadyH.nil
       clear hh
       go_simp
       refine (knownop_any _ _).mono ?_
       rintro e w' ⟨rfl,rfl⟩
       refine hK.out _ _ hx0 (fun hh => ?_)
       clear hK K
       try go_frame
       refine tkA 3 _ hh ?_
       try go_frame
       refine tkB 4 _ hh ?_
       try go_frame
       refine tkB 5 _ hh ?_
       try go_frame
       refine rdH [6] ?_
       refine rcH (fun K hK => ?_) AllReadyH.nil
       clear hh
       go_simp
       refine (HUS.out _).mono ?_
       rintro e w1 ⟨rfl,hb1⟩
       have hB1 : Below w.heap.size w w1 := hb0.trans (hb1.mono hb0.size)
       have hx1 := ibox_next hx0 hX0 hb1
       have hX1 := Nat.lt_of_lt_of_le hX0 hb1.size
       refine hK.out _ _ hx1 (fun hh => ?_)
       clear hK K
       try go_frame
       refine tkA 7 _ hh ?_
       try go_frame
       refine tkA 8 _ hh ?_
       try go_frame
       refine tkA 9 _ hh ?_
       try go_frame
       refine wpAnyH_take (i := 10) (oi := _) (v := undef) (by simp only [List.getElem?_toArray,List.getElem?_cons_succ,List.getElem?_cons_zero]; rfl) (by kernel_rfl) (by kernel_rfl) (by kernel_rfl) (by intro _ _ _ h; exact h) (Or.inr ⟨by rfl,rfl⟩) hh ?_
       try go_frame
       refine wpAnyH_take (i := 11) (oi := _) (v := undef) (by simp only [List.getElem?_toArray,List.getElem?_cons_succ,List.getElem?_cons_zero]; rfl) (by kernel_rfl) (by kernel_rfl) (by kernel_rfl) (by intro _ _ _ h; exact h) (Or.inr ⟨by rfl,rfl⟩) hh ?_
       try go_frame
       refine tkA 12 _ hh ?_
       try go_frame
       refine tkA 13 _ hh ?_
       try go_frame
       refine wpAnyH_done (by kernel_rfl) ?_ _
       go_wp2_with fail
       go_ret
       exact ⟨ret_bool HF.out.symm,by first | exact hB2 | exact hB1 | exact hb0⟩
     ·have f1 : ¬ c.toList = c'.toList := fun h => ec (str_ext h)
      have f2 : ¬ c'.toList = c.toList := fun h => ec (str_ext h.symm)
      have f3 : (c.toList == c'.toList) = false := by rw [beq_eq_false_iff_ne]; exact f1
      have f4 : (c'.toList == c.toList) = false := by rw [beq_eq_false_iff_ne]; exact f2
      have HF : Hid (rightI (o,n,k,s,c,m,d) = false) := hid (by rw [HR.out,hk,decide_eq_false (by intro e; simp only [Prod.mk.injEq] at e; exact ec (by simp_all))]; rfl)
      clear HR
      go_enter Tryz.func83,Tryz.ntmps83
      go_wp2_with fail
      refine wp_region_held_drew (S := (fun w' => w'.cell? ⟨w.heap.size,0,none⟩ = some (.int .i64 o) /\ w'.cell? ⟨w.heap.size,1,none⟩ = some (.int .i32 n) /\ w'.cell? ⟨w.heap.size,2,none⟩ = some (.int .i64 k) /\ w'.cell? ⟨w.heap.size,3,none⟩ = some (.string s) /\ w'.cell? ⟨w.heap.size,4,none⟩ = some (.string c) /\ w'.cell? ⟨w.heap.size,5,none⟩ = some (.string m) /\ w'.cell? ⟨w.heap.size,6,none⟩ = some (.string d))) (by kernel_rfl) hx0 (fun hh => ?_)
      refine wpAnyH_take (i := 0) (oi := _) (v := ?_) (by rfl) (by kernel_rfl) (by kernel_rfl) (by kernel_rfl) (by intro _ _ _ h; exact h) (Or.inl ⟨by rfl,fun W hSw => ?_⟩) hh ?_
      rotate_left 1
      ·(clear hSw; first | (go_simp; done) | (go_simp; with_reducible rfl))
      try go_frame
      refine tkB 1 _ hh ?_
      try go_frame
      refine rdH [2] ?_
      refine rcH (fun K hK => ?_) AllReadyH.nil
      clear hh
      go_simp
      refine (knownop_any _ _).mono ?_
      rintro e w' ⟨rfl,rfl⟩
      refine hK.out _ _ hx0 (fun hh => ?_)
      clear hK K
      try go_frame
      refine tkA 3 _ hh ?_
      try go_frame
      refine tkB 4 _ hh ?_
      try go_frame
      refine tkB 5 _ hh ?_
      try go_frame
      refine rdH [6] ?_
      refine rcH (fun K hK => ?_) AllReadyH.nil
      clear hh
      go_simp
      refine (HUS.out _).mono ?_
      rintro e w1 ⟨rfl,hb1⟩
      have hB1 : Below w.heap.size w w1 := hb0.trans (hb1.mono hb0.size)
      have hx1 := ibox_next hx0 hX0 hb1
      have hX1 := Nat.lt_of_lt_of_le hX0 hb1.size
      refine hK.out _ _ hx1 (fun hh => ?_)
      clear hK K
      try go_frame
      refine tkA 7 _ hh ?_
      try go_frame
      refine tkA 8 _ hh ?_
      try go_frame
      refine tkA 9 _ hh ?_
      try go_frame
      refine wpAnyH_take (i := 10) (oi := _) (v := undef) (by simp only [List.getElem?_toArray,List.getElem?_cons_succ,List.getElem?_cons_zero]; rfl) (by kernel_rfl) (by kernel_rfl) (by kernel_rfl) (by intro _ _ _ h; exact h) (Or.inr ⟨by rfl,rfl⟩) hh ?_
      try go_frame
      refine wpAnyH_take (i := 11) (oi := _) (v := undef) (by simp only [List.getElem?_toArray,List.getElem?_cons_succ,List.getElem?_cons_zero]; rfl) (by kernel_rfl) (by kernel_rfl) (by kernel_rfl) (by intro _ _ _ h; exact h) (Or.inr ⟨by rfl,rfl⟩) hh ?_
      try go_frame
      refine tkA 12 _ hh ?_
      try go_frame
      refine tkA 13 _ hh ?_
      try go_frame
      refine wpAnyH_done (by kernel_rfl) ?_ _
      go_wp2_with fail
      go_ret
      exact ⟨ret_bool HF.out.symm,by first | exact hB2 | exact hB1 | exact hb0⟩
    ·have f1 : ¬ s.toList = s'.toList := fun h => es (str_ext h)
     have f2 : ¬ s'.toList = s.toList := fun h => es (str_ext h.symm)
     have f3 : (s.toList == s'.toList) = false := by rw [beq_eq_false_iff_ne]; exact f1
     have f4 : (s'.toList == s.toList) = false := by rw [beq_eq_false_iff_ne]; exact f2
     have HF : Hid (rightI (o,n,k,s,c,m,d) = false) := hid (by rw [HR.out,hk,decide_eq_false (by intro e; simp only [Prod.mk.injEq] at e; exact es (by simp_all))]; rfl)
     clear HR
     go_enter Tryz.func83,Tryz.ntmps83
     go_wp2_with fail
     refine wp_region_held_drew (S := (fun w' => w'.cell? ⟨w.heap.size,0,none⟩ = some (.int .i64 o) /\ w'.cell? ⟨w.heap.size,1,none⟩ = some (.int .i32 n) /\ w'.cell? ⟨w.heap.size,2,none⟩ = some (.int .i64 k) /\ w'.cell? ⟨w.heap.size,3,none⟩ = some (.string s) /\ w'.cell? ⟨w.heap.size,4,none⟩ = some (.string c) /\ w'.cell? ⟨w.heap.size,5,none⟩ = some (.string m) /\ w'.cell? ⟨w.heap.size,6,none⟩ = some (.string d))) (by kernel_rfl) hx0 (fun hh => ?_)
     refine wpAnyH_take (i := 0) (oi := _) (v := ?_) (by rfl) (by kernel_rfl) (by kernel_rfl) (by kernel_rfl) (by intro _ _ _ h; exact h) (Or.inl ⟨by rfl,fun W hSw => ?_⟩) hh ?_
     rotate_left 1
     ·(clear hSw; first | (go_simp; done) | (go_simp; with_reducible rfl))
     try go_frame
     refine tkB 1 _ hh ?_
     try go_frame
     refine rdH [2] ?_
     refine rcH (fun K hK => ?_) AllReadyH.nil
     clear hh
     go_simp
     refine (knownop_any _ _).mono ?_
     rintro e w' ⟨rfl,rfl⟩
     refine hK.out _ _ hx0 (fun hh => ?_)
     clear hK K
     try go_frame
     refine tkA 3 _ hh ?_
     try go_frame
     refine tkB 4 _ hh ?_
     try go_frame
     refine tkB 5 _ hh ?_
     try go_frame
     refine rdH [6] ?_
     refine rcH (fun K hK => ?_) AllReadyH.nil
     clear hh
     go_simp
     refine (HUS.out _).mono ?_
     rintro e w1 ⟨rfl,hb1⟩
     have hB1 : Below w.heap.size w w1 := hb0.trans (hb1.mono hb0.size)
     have hx1 := ibox_next hx0 hX0 hb1
     have hX1 := Nat.lt_of_lt_of_le hX0 hb1.size
     refine hK.out _ _ hx1 (fun hh => ?_)
     clear hK K
     try go_frame
     refine tkA 7 _ hh ?_
     try go_frame
     refine tkA 8 _ hh ?_
     try go_frame
     refine tkA 9 _ hh ?_
     try go_frame
     refine wpAnyH_take (i := 10) (oi := _) (v := undef) (by simp only [List.getElem?_toArray,List.getElem?_cons_succ,List.getElem?_cons_zero]; rfl) (by kernel_rfl) (by kernel_rfl) (by kernel_rfl) (by intro _ _ _ h; exact h) (Or.inr ⟨by rfl,rfl⟩) hh ?_
     try go_frame
     refine wpAnyH_take (i := 11) (oi := _) (v := undef) (by simp only [List.getElem?_toArray,List.getElem?_cons_succ,List.getElem?_cons_zero]; rfl) (by kernel_rfl) (by kernel_rfl) (by kernel_rfl) (by intro _ _ _ h; exact h) (Or.inr ⟨by rfl,rfl⟩) hh ?_
     try go_frame
     refine tkA 12 _ hh ?_
     try go_frame
     refine tkA 13 _ hh ?_
     try go_frame
     refine wpAnyH_done (by kernel_rfl) ?_ _
     go_wp2_with fail
     go_ret
     exact ⟨ret_bool HF.out.symm,by first | exact hB2 | exact hB1 | exact hb0⟩
   ·have f1 : ¬ k = k' := ek
    have f2 : ¬ k' = k := fun h => ek h.symm
    have f3 : (k == k') = false := by rw [beq_eq_false_iff_ne]; exact f1
    have f4 : (k' == k) = false := by rw [beq_eq_false_iff_ne]; exact f2
    have HF : Hid (rightI (o,n,k,s,c,m,d) = false) := hid (by rw [HR.out,hk,decide_eq_false (by intro e; simp only [Prod.mk.injEq] at e; exact ek (by simp_all))]; rfl)
    clear HR
    go_enter Tryz.func83,Tryz.ntmps83
    go_wp2_with fail
    refine wp_region_held_drew (S := (fun w' => w'.cell? ⟨w.heap.size,0,none⟩ = some (.int .i64 o) /\ w'.cell? ⟨w.heap.size,1,none⟩ = some (.int .i32 n) /\ w'.cell? ⟨w.heap.size,2,none⟩ = some (.int .i64 k) /\ w'.cell? ⟨w.heap.size,3,none⟩ = some (.string s) /\ w'.cell? ⟨w.heap.size,4,none⟩ = some (.string c) /\ w'.cell? ⟨w.heap.size,5,none⟩ = some (.string m) /\ w'.cell? ⟨w.heap.size,6,none⟩ = some (.string d))) (by kernel_rfl) hx0 (fun hh => ?_)
    refine wpAnyH_take (i := 0) (oi := _) (v := ?_) (by rfl) (by kernel_rfl) (by kernel_rfl) (by kernel_rfl) (by intro _ _ _ h; exact h) (Or.inl ⟨by rfl,fun W hSw => ?_⟩) hh ?_
    rotate_left 1
    ·(clear hSw; first | (go_simp; done) | (go_simp; with_reducible rfl))
    try go_frame
    refine tkB 1 _ hh ?_
    try go_frame
    refine rdH [2] ?_
    refine rcH (fun K hK => ?_) AllReadyH.nil
    clear hh
    go_simp
    refine (knownop_any _ _).mono ?_
    rintro e w' ⟨rfl,rfl⟩
    refine hK.out _ _ hx0 (fun hh => ?_)
    clear hK K
    try go_frame
    refine tkA 3 _ hh ?_
    try go_frame
    refine tkB 4 _ hh ?_
    try go_frame
    refine tkB 5 _ hh ?_
    try go_frame
    refine rdH [6] ?_
    refine rcH (fun K hK => ?_) AllReadyH.nil
    clear hh
    go_simp
    refine (HUS.out _).mono ?_
    rintro e w1 ⟨rfl,hb1⟩
    have hB1 : Below w.heap.size w w1 := hb0.trans (hb1.mono hb0.size)
    have hx1 := ibox_next hx0 hX0 hb1
    have hX1 := Nat.lt_of_lt_of_le hX0 hb1.size
    refine hK.out _ _ hx1 (fun hh => ?_)
    clear hK K
    try go_frame
    refine tkA 7 _ hh ?_
    try go_frame
    refine tkA 8 _ hh ?_
    try go_frame
    refine tkA 9 _ hh ?_
    try go_frame
    refine wpAnyH_take (i := 10) (oi := _) (v := undef) (by simp only [List.getElem?_toArray,List.getElem?_cons_succ,List.getElem?_cons_zero]; rfl) (by kernel_rfl) (by kernel_rfl) (by kernel_rfl) (by intro _ _ _ h; exact h) (Or.inr ⟨by rfl,rfl⟩) hh ?_
    try go_frame
    refine wpAnyH_take (i := 11) (oi := _) (v := undef) (by simp only [List.getElem?_toArray,List.getElem?_cons_succ,List.getElem?_cons_zero]; rfl) (by kernel_rfl) (by kernel_rfl) (by kernel_rfl) (by intro _ _ _ h; exact h) (Or.inr ⟨by rfl,rfl⟩) hh ?_
    try go_frame
    refine tkA 12 _ hh ?_
    try go_frame
    refine tkA 13 _ hh ?_
    try go_frame
    refine wpAnyH_done (by kernel_rfl) ?_ _
    go_wp2_with fail
    go_ret
    exact ⟨ret_bool HF.out.symm,by first | exact hB2 | exact hB1 | exact hb0⟩
  ·have f1 : ¬ n = n' := en
   have f2 : ¬ n' = n := fun h => en h.symm
   have f3 : (n == n') = false := by rw [beq_eq_false_iff_ne]; exact f1
   have f4 : (n' == n) = false := by rw [beq_eq_false_iff_ne]; exact f2
   have HF : Hid (rightI (o,n,k,s,c,m,d) = false) := hid (by rw [HR.out,hk,decide_eq_false (by intro e; simp only [Prod.mk.injEq] at e; exact en (by simp_all))]; rfl)
   clear HR
   go_enter Tryz.func83,Tryz.ntmps83
   go_wp2_with fail
   refine wp_region_held_drew (S := (fun w' => w'.cell? ⟨w.heap.size,0,none⟩ = some (.int .i64 o) /\ w'.cell? ⟨w.heap.size,1,none⟩ = some (.int .i32 n) /\ w'.cell? ⟨w.heap.size,2,none⟩ = some (.int .i64 k) /\ w'.cell? ⟨w.heap.size,3,none⟩ = some (.string s) /\ w'.cell? ⟨w.heap.size,4,none⟩ = some (.string c) /\ w'.cell? ⟨w.heap.size,5,none⟩ = some (.string m) /\ w'.cell? ⟨w.heap.size,6,none⟩ = some (.string d))) (by kernel_rfl) hx0 (fun hh => ?_)
   refine wpAnyH_take (i := 0) (oi := _) (v := ?_) (by rfl) (by kernel_rfl) (by kernel_rfl) (by kernel_rfl) (by intro _ _ _ h; exact h) (Or.inl ⟨by rfl,fun W hSw => ?_⟩) hh ?_
   rotate_left 1
   ·(clear hSw; first | (go_simp; done) | (go_simp; with_reducible rfl))
   try go_frame
   refine tkB 1 _ hh ?_
   try go_frame
   refine rdH [2] ?_
   refine rcH (fun K hK => ?_) AllReadyH.nil
   clear hh
   go_simp
   refine (knownop_any _ _).mono ?_
   rintro e w' ⟨rfl,rfl⟩
   refine hK.out _ _ hx0 (fun hh => ?_)
   clear hK K
   try go_frame
   refine tkA 3 _ hh ?_
   try go_frame
   refine tkB 4 _ hh ?_
   try go_frame
   refine tkB 5 _ hh ?_
   try go_frame
   refine rdH [6] ?_
   refine rcH (fun K hK => ?_) AllReadyH.nil
   clear hh
   go_simp
   refine (HUS.out _).mono ?_
   rintro e w1 ⟨rfl,hb1⟩
   have hB1 : Below w.heap.size w w1 := hb0.trans (hb1.mono hb0.size)
   have hx1 := ibox_next hx0 hX0 hb1
   have hX1 := Nat.lt_of_lt_of_le hX0 hb1.size
   refine hK.out _ _ hx1 (fun hh => ?_)
   clear hK K
   try go_frame
   refine tkA 7 _ hh ?_
   try go_frame
   refine tkA 8 _ hh ?_
   try go_frame
   refine tkA 9 _ hh ?_
   try go_frame
   refine wpAnyH_take (i := 10) (oi := _) (v := undef) (by simp only [List.getElem?_toArray,List.getElem?_cons_succ,List.getElem?_cons_zero]; rfl) (by kernel_rfl) (by kernel_rfl) (by kernel_rfl) (by intro _ _ _ h; exact h) (Or.inr ⟨by rfl,rfl⟩) hh ?_
   try go_frame
   refine wpAnyH_take (i := 11) (oi := _) (v := undef) (by simp only [List.getElem?_toArray,List.getElem?_cons_succ,List.getElem?_cons_zero]; rfl) (by kernel_rfl) (by kernel_rfl) (by kernel_rfl) (by intro _ _ _ h; exact h) (Or.inr ⟨by rfl,rfl⟩) hh ?_
   try go_frame
   refine tkA 12 _ hh ?_
   try go_frame
   refine tkA 13 _ hh ?_
   try go_frame
   refine wpAnyH_done (by kernel_rfl) ?_ _
   go_wp2_with fail
   go_ret
   exact ⟨ret_bool HF.out.symm,by first | exact hB2 | exact hB1 | exact hb0⟩
end Go.Proofs.YtofnbapnmhibaaaGreat.O
namespace Go.Proofs.YtofnbapnmhibaaaGreat.D
open Go.RowKit
theorem bld_ptr : Tryz.prog.underlying 146 = some (.pointer 148) := Tryz.underlying146
theorem bld_uns : Tryz.prog.underlying 160 = some .unsafePointer := Tryz.underlying160
theorem bld_size : (Tryz.prog.info? 148).map (·.size) = some 2 := by kernel_rfl
theorem bld_lies : liesAt Tryz.prog Tryz.prog.depth 148 (2 / Tryz.prog.cellsOf 148) 0 148 1 = true := by kernel_rfl
theorem bld_info : (Tryz.prog.info? 5).map (fun i => (i.zero,i.size,i.bytes)) = some (some (.int .u8 0),1,1) := by kernel_rfl
def Bld (w : World) (B b : Nat) (l : List UInt8) : Prop := Lib.IsBuilder 148 5 B b (Lib.byteCells l) w
theorem ownsRow_below {w w' : World} {B C : Nat} {E : TypeId} {v : Value} {n : Nat} {l : List Value} (h : w.ownsRow B E 1 v n l) (hb : Below C w w') (hC : ∀ g,v.ownBlock = some g -> g < C) : w'.ownsRow B E 1 v n l := by
 refine ⟨h.1,?_⟩
 rcases h.2 with h' | ⟨g,cap,cur,e,hB,hg,r⟩
 ·exact .inl h'
 ·refine .inr ⟨g,cap,cur,e,hB,?_,r⟩
  rw [hb.block g (hC g (by rw [e]; rfl))]
  exact hg
theorem bldAt_below {w w' : World} {B C b : Nat} {T E : TypeId} {p : Value} {l : List Value} (h : Lib.BuilderAt T E B b p l w) (hb : Below C w w') (hC : w.heap.size <= C) : Lib.BuilderAt T E B b p l w' := by
 have hlt := h.lt
 obtain ⟨h1,v,h2,h3,h4⟩ := h
 refine ⟨h1,v,?_,?_,h4⟩
 ·rw [hb.block b (by omega)]; exact h2
 ·exact ownsRow_below h3 hb (fun g hg => Nat.lt_of_lt_of_le (h3.lt g hg).2 hC)
theorem Bld.below {w w' : World} {B C b : Nat} {l : List UInt8} (h : Bld w B b l) (hb : Below C w w') (hC : w.heap.size <= C) : Bld w' B b l := by
 rcases h with h | h
 ·exact .inl (bldAt_below h hb hC)
 ·exact .inr (bldAt_below h hb hC)
theorem bld_check_fresh (b : Nat) (w : World) (h0 : w.cell? ⟨b,0,none⟩ = some (.pointer none)) (hsh : w.shape? b = some (148,2)) (hfz : w.frozen? ⟨b,0,none⟩ = false) :
  Calls Tryz.prog 103 #[.pointer (some ⟨b,0,none⟩)] w fun e w' => e = .returned (.tuple #[]) /\ w' = w.setCell ⟨b,0,none⟩ (.pointer (some ⟨b,0,none⟩)) := by
 obtain ⟨j,hj,hjs⟩ := Option.map_eq_some_iff.1 bld_size
 go_enter Tryz.func103,Tryz.ntmps103
 go_wp2_with fail
 rw [Lib.run_to_unsafe w ⟨b,0,none⟩ bld_ptr bld_uns hj (by rw [hjs]; decide) hsh (Nat.zero_lt_succ 1)]
 simp only [Result.andThen]
 rw [Oper.upon_value]
 go_wp2_with fail
 rw [run_callFunc_extern Tryz.func106 (by kernel_rfl) (by kernel_rfl) (by kernel_rfl) (e := Extern.AbiNoEscape.same) (by kernel_rfl)]
 rw [Lib.run_noEscape]
 simp only [Result.andThen]
 rw [Oper.upon_value]
 go_wp2_with fail
 rw [Lib.run_from_unsafe w ⟨b,0,none⟩ bld_uns bld_ptr hj hsh bld_lies]
 simp only [Result.andThen]
 rw [Oper.upon_value]
 go_wp2_with fail
 go_end0
 exact ⟨rfl,rfl⟩
theorem bld_check_used (b : Nat) (w : World) (h0 : w.cell? ⟨b,0,none⟩ = some (.pointer (some ⟨b,0,none⟩))) :
  Calls Tryz.prog 103 #[.pointer (some ⟨b,0,none⟩)] w fun e w' => e = .returned (.tuple #[]) /\ w' = w := by
 obtain ⟨j,hj,_⟩ := Option.map_eq_some_iff.1 bld_size
 go_enter Tryz.func103,Tryz.ntmps103
 go_wp2_with fail
 rw [Lib.run_neq_ptr_same w _ bld_ptr hj]
 go_wp2_with fail
 go_end0
 exact ⟨rfl,rfl⟩
theorem bld_check (B b : Nat) (l : List UInt8) (w : World) (h : Bld w B b l) :
  Calls Tryz.prog 103 #[.pointer (some ⟨b,0,none⟩)] w fun e w' => e = .returned (.tuple #[]) /\ Lib.BuilderAt 148 5 B b (.pointer (some ⟨b,0,none⟩)) (Lib.byteCells l) w' /\ Below B w w' := by
 rcases h with h | h
 ·refine (bld_check_fresh b w h.cell0 h.shape h.frozen0).mono ?_
  rintro e w' ⟨rfl,rfl⟩
  exact ⟨rfl,h.used _,(Below.refl B w).setCell (p := ⟨b,0,none⟩) h.1 _⟩
 ·refine (bld_check_used b w h.cell0).mono ?_
  rintro e w' ⟨rfl,rfl⟩
  exact ⟨rfl,h,Below.refl B _⟩
theorem bld_byte (B b : Nat) (l : List UInt8) (c : Int) (x : UInt8) (hx : c = (x.toNat : Int)) (w : World) (h : Bld w B b l) (hlen : l.length + 1 <= 140737488355328) (hBw : B <= w.heap.size) :
  Calls Tryz.prog 92 #[.pointer (some ⟨b,0,none⟩),.int .u8 c] w fun e w' => e = .returned .nilIface /\ Bld w' B b (l ++ [x]) /\ Below B w w' := by
 obtain ⟨i0,hi,hz0,hz1,hz2⟩ := info_parts bld_info
 have HX := hid hx
 clear hx
 go_enter Tryz.func92,Tryz.ntmps92
 go_wp2_with (go_at_call 103; refine (bld_check B b l _ h).mono ?_)
 rintro e w1 ⟨rfl,h1,hb1⟩
 obtain ⟨hB,v,hbk,hown,hne⟩ := h1
 have hs1 := hb1.size
 have c0 : w1.cell? ⟨b,0,none⟩ = some (.pointer (some ⟨b,0,none⟩)) := by rw [Lib.cell_of_heap hbk]; rfl
 have c1 : w1.cell? ⟨b,1,none⟩ = some v := by rw [Lib.cell_of_heap hbk]; rfl
 go_wp2_with (at_builtin; refine wpList_append_own _ rfl _ _ 38 rfl B 5 i0 (.int .u8 0) 1 1 Tryz.underlying38 hi hz0 hz1 hz2 rfl (by decide) _ _ _ rfl (hown.alloc _) ⟨w1.heap.size,0,none⟩ 1 1 [.int .u8 c] rfl rfl ?c1 ?c2 ?c3 ?c4 ?c5 ?_)
 case c1 =>
  intro j u hj
  match j,hj with
  | 0,hj => simp at hj; subst hj; simp [Addr.add]
 case c2 => intro u hu; simp at hu; subst hu; rfl
 case c3 => rw [Lib.byteCells_length]; unfold maxLen; omega
 case c4 => rw [Lib.byteCells_length]; omega
 case c5 => simp; omega
 intro v' w2 hown' hgrow _
 have hlt : b < w1.heap.size := by
  rcases Nat.lt_or_ge b w1.heap.size with h' | h'
  ·exact h'
  ·simp [Array.getElem?_eq_none h'] at hbk
 have hb2 : w2.heap[b]? = some (.cells #[.pointer (some ⟨b,0,none⟩),v] 148 (0,0)) := by
  rw [hgrow.block b (by simp; omega) (fun e => hne e.symm),Lib.alloc_old w1 _ b hlt]
  exact hbk
 have d0 : w2.cell? ⟨b,0,none⟩ = some (.pointer (some ⟨b,0,none⟩)) := by rw [Lib.cell_of_heap hb2]; rfl
 have d1 : w2.cell? ⟨b,1,none⟩ = some v := by rw [Lib.cell_of_heap hb2]; rfl
 have f1 : w2.frozen? ⟨b,1,none⟩ = false := Lib.frozen_of_heap hb2 1
 obtain ⟨g,cap,rfl⟩ : ∃ g cap,v' = .slice (some ⟨g,0,none⟩) ((Lib.byteCells l).length + 1) cap := by
  rcases hown'.2 with ⟨_,h0⟩ | ⟨g,cap,cur,hv,_⟩
  ·omega
  ·exact ⟨g,cap,hv⟩
 go_wp2_with fail
 go_ret
 have e : Lib.byteCells (l ++ [x]) = Lib.byteCells l ++ [.int .u8 c] := by rw [HX.out]; simp [Lib.byteCells]
 refine ⟨rfl,.inr ?_,?_⟩
 ·rw [e]
  exact Lib.BuilderAt.put (T := 148) (e := 5) hB hb2 (bs' := Lib.byteCells l ++ [.int .u8 c]) (by simpa using hown') (by decide)
 ·exact ((hb1.alloc (by omega) _).grown hgrow (by simp; omega) (fun k hk => (hown.lt k hk).1)).setCell (p := ⟨b,1,none⟩) hB _
theorem bld_str (B b : Nat) (l : List UInt8) (s : ByteArray) (w : World) (h : Bld w B b l) (hlen : l.length + s.size <= 140737488355328) (hBw : B <= w.heap.size) :
  Calls Tryz.prog 93 #[.pointer (some ⟨b,0,none⟩),.string s] w fun e w' => e = .returned (.tuple #[.int .i64 s.size,.nilIface]) /\ Bld w' B b (l ++ s.data.toList) /\ Below B w w' := by
 obtain ⟨i0,hi,hz0,hz1,hz2⟩ := info_parts bld_info
 go_enter Tryz.func93,Tryz.ntmps93
 go_wp2_with (go_at_call 103; refine (bld_check B b l _ h).mono ?_)
 rintro e w1 ⟨rfl,h1,hb1⟩
 obtain ⟨hB,v,hbk,hown,hne⟩ := h1
 have hs1 := hb1.size
 have c0 : w1.cell? ⟨b,0,none⟩ = some (.pointer (some ⟨b,0,none⟩)) := by rw [Lib.cell_of_heap hbk]; rfl
 have c1 : w1.cell? ⟨b,1,none⟩ = some v := by rw [Lib.cell_of_heap hbk]; rfl
 go_wp2_with (at_builtin; refine Lib.wpList_append_own_string _ rfl _ _ 38 9 rfl B 5 i0 Tryz.underlying38 Tryz.underlying9 hi hz0 hz1 hz2 _ _ _ rfl hown s rfl ?c3 ?c4 ?c5 ?_)
 case c3 => rw [Lib.byteCells_length]; unfold maxLen; omega
 case c4 => rw [Lib.byteCells_length]; omega
 case c5 => omega
 intro v' w2 hown' hgrow _
 have hlt : b < w1.heap.size := by
  rcases Nat.lt_or_ge b w1.heap.size with h' | h'
  ·exact h'
  ·simp [Array.getElem?_eq_none h'] at hbk
 have hb2 : w2.heap[b]? = some (.cells #[.pointer (some ⟨b,0,none⟩),v] 148 (0,0)) := by
  rw [hgrow.block b hlt (fun e => hne e.symm)]
  exact hbk
 have d0 : w2.cell? ⟨b,0,none⟩ = some (.pointer (some ⟨b,0,none⟩)) := by rw [Lib.cell_of_heap hb2]; rfl
 have d1 : w2.cell? ⟨b,1,none⟩ = some v := by rw [Lib.cell_of_heap hb2]; rfl
 have f1 : w2.frozen? ⟨b,1,none⟩ = false := Lib.frozen_of_heap hb2 1
 obtain ⟨ao,n',cap,rfl⟩ : ∃ ao n' cap,v' = .slice ao n' cap := by
  rcases hown'.2 with ⟨hv,_⟩ | ⟨g,cap,cur,hv,_⟩
  ·exact ⟨_,_,_,hv⟩
  ·exact ⟨_,_,_,hv⟩
 go_wp2_with fail
 go_ret2
 have e : Lib.byteCells (l ++ s.data.toList) = Lib.byteCells l ++ Lib.strCells s := by simp [Lib.byteCells,Lib.strCells]
 refine ⟨rfl,.inr ?_,?_⟩
 ·rw [e]
  exact Lib.BuilderAt.put (T := 148) (e := 5) hB hb2 (bs' := Lib.byteCells l ++ Lib.strCells s) (by simpa [Lib.strCells_length] using hown') (by decide)
 ·exact (hb1.grown hgrow (by omega) (fun k hk => (hown.lt k hk).1)).setCell (p := ⟨b,1,none⟩) hB _
theorem bld_done (B b : Nat) (l : List UInt8) (w : World) (h : Bld w B b l) (hBw : B <= w.heap.size) :
  Calls Tryz.prog 94 #[.pointer (some ⟨b,0,none⟩)] w fun e w' => e = .returned (.string ⟨l.toArray⟩) /\ Below B w w' :=
 Tryz.Builder_String_any B b l w h hBw
theorem bld_new (w : World) : Bld (w.alloc (.cells #[.pointer none,.slice none 0 0] 148)) w.heap.size w.heap.size [] := Lib.fresh_isBuilder _ _ w
end Go.Proofs.YtofnbapnmhibaaaGreat.D
