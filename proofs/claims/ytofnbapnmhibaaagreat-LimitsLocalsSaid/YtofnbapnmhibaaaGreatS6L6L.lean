/- Texts that the proof is made of, joined. No condition. -/
import Derived.Test.YtofnbapnmhibaaaGreatS620
import Derived.Test.YtofnbapnmhibaaaGreatS6H
set_option linter.unusedVariables false
set_option linter.unusedSimpArgs false
set_option maxRecDepth 100000
set_option maxHeartbeats 16000000
namespace Go.Proofs.YtofnbapnmhibaaaGreat.A
open Go.RowKit Go.Proofs.YtofnbapnmhibaaaGreat.D Go.Proofs.YtofnbapnmhibaaaGreat.O
theorem loc_code {o : Int} {K L : Nat} (ho : o = 4 ∨ o = 5) : codeA (L : Int) [(o,(0 : Int),(K : Int),es,es,es,es),(40,0,0,es,es,es,es)] = if K < L then (0,0) else (0,28) := by
 have f1 : findsB (L : Int) (([(o,(0 : Int),(K : Int),es,es,es,es),(40,0,0,es,es,es,es)] : List Ins).length : Nat) (o,(0 : Int),(K : Int),es,es,es,es) = decide (K < L) := by
  unfold findsB
  rw [if_pos (ho)]
  unfold inB
  rw [decide_eq_decide]
  show 0 <= (K : Int) /\ (K : Int) < (L : Int) ↔ K < L
  omega
 have f2 : findsB (L : Int) (([(o,(0 : Int),(K : Int),es,es,es,es),(40,0,0,es,es,es,es)] : List Ins).length : Nat) ((40,0,0,es,es,es,es) : Ins) = true := by
  unfold findsB
  rw [if_neg (by show ¬ ((40 : Int) = 4 ∨ (40 : Int) = 5); decide),if_neg (by show ¬ (jumpsB 40 = true); decide)]
 have f3 : lastB ([(o,(0 : Int),(K : Int),es,es,es,es),(40,0,0,es,es,es,es)] : List Ins) = true := rfl
 by_cases h : K < L
 ·rw [if_pos h]
  unfold codeA badAt
  rw [f1,decide_eq_true h,if_pos rfl]
  unfold badAt
  rw [f2,if_pos rfl]
  unfold badAt
  show (if lastB _ = true then _ else _) = _
  rw [f3]
  rfl
 ·rw [if_neg h]
  unfold codeA badAt
  rw [f1,decide_eq_false h]
  rfl
theorem loc_ans (ps : List Ty) (st : Bool) {o : Int} {K L : Nat} {A : Int} (ho : o = 4 ∨ o = 5) (hA : argsI ⟨⟨#[]⟩,ps,(0,⟨#[]⟩),st,false,(L : Int),[(o,(0 : Int),(K : Int),es,es,es,es),(40,0,0,es,es,es,es)],[]⟩ = A) :
  mthA (⟨⟨#[]⟩,ps,(0,⟨#[]⟩),st,false,(L : Int),[(o,(0 : Int),(K : Int),es,es,es,es),(40,0,0,es,es,es,es)],[]⟩ : Mth) = if (L : Int) < A then (-1,22) else if K < L then (0,0) else (0,28) := by
 have hn : ¬ ([(o,(0 : Int),(K : Int),es,es,es,es),(40,0,0,es,es,es,es)] : List Ins) = [] := by simp
 by_cases h1 : (L : Int) < A
 ·rw [if_pos h1]
  exact mthA_few rfl hn (by rw [hA]; exact h1)
 ·rw [if_neg h1]
  by_cases h2 : K < L
  ·rw [if_pos h2,mthA_hs rfl hn (by rw [hA]; exact h1) (by show (codeA (L : Int) _).2 = 0; rw [loc_code ho,if_pos h2])]
   rfl
  ·rw [if_neg h2,mthA_code rfl hn (by rw [hA]; exact h1) (by show (codeA (L : Int) _).2 ≠ 0; rw [loc_code ho,if_neg h2]; decide)]
   show codeA (L : Int) _ = _
   rw [loc_code ho,if_neg h2]
theorem loc_l (params locals k : Nat) (static load : Bool) (w : World) (hg : Glob w) (hb0 : params < 256) (hb1 : locals < 256) (hb2 : k < 256) : Calls Tryz.prog 5 #[.int .u8 (params : Int),.int .u8 (locals : Int),.int .u8 (k : Int),.bool static,.bool load] w fun e w' => e = .returned (.bool true) /\ Below w.heap.size w w' := by
 obtain ⟨P,hP⟩ : ∃ P : Nat,(params : Int) % 9 = (P : Int) := ⟨params % 9,by omega⟩
 obtain ⟨L,hL⟩ : ∃ L : Nat,(locals : Int) % 12 = (L : Int) := ⟨locals % 12,by omega⟩
 obtain ⟨K,hK⟩ : ∃ K : Nat,(k : Int) % 14 = (K : Int) := ⟨k % 14,by omega⟩
 have hP9 : P < 9 := by omega
 have hL12 : L < 12 := by omega
 have hK14 : K < 14 := by omega
 go_enter Tryz.func5,Tryz.ntmps5
 go_wp2_with fail
 refine (known_l w hg).mono ?_
 rintro e1 w1 ⟨rfl,hb⟩
 have HBW := hid hb
 clear hb hg
 go_upto_region 4 with fail
 obtain ⟨w2,hw2⟩ : ∃ x,x = w1.alloc (.cells #[.string ⟨#[]⟩,.slice none 0 0,.int .i64 0,.string ⟨#[]⟩,.bool static,.bool false,.int .i64 (L : Int),.slice none 0 0,.slice none 0 0] 29) := ⟨_,rfl⟩
 rw [<- hw2]
 have HM : Hid (w2.heap[w1.heap.size]? = some (.cells #[.string ⟨#[]⟩,.slice none 0 0,.int .i64 0,.string ⟨#[]⟩,.bool static,.bool false,.int .i64 (L : Int),.slice none 0 0,.slice none 0 0] 29 (0,0))) := hid (by rw [hw2]; exact heap_alloc_new _ _)
 have HB : Hid (Below w1.heap.size w1 w2) := hid (by rw [hw2]; exact below_alM _ _)
 have hs2 : w1.heap.size + 1 <= w2.heap.size := by rw [hw2]; simp
 clear hw2 hL
 go_wp2_with fail
 go_loopw [12] (fun v wr => ∃ (i : Nat) (pc : Option Addr) (nc cc : Nat),v = .int .i64 (i : Int) /\ i <= P /\ Hid (wr.heap[w1.heap.size]? = some (.cells #[.string ⟨#[]⟩,.slice pc nc cc,.int .i64 0,.string ⟨#[]⟩,.bool static,.bool false,.int .i64 (L : Int),.slice none 0 0,.slice none 0 0] 29 (0,0))) /\ Hid (OwnX 2 25 (sP tyC) wr (w1.heap.size + 1) (.slice pc nc cc) (List.replicate i ((1,⟨#[]⟩) : Ty))) /\ Hid (Below w1.heap.size w1 wr) /\ w1.heap.size + 1 <= wr.heap.size) (fun v _ => P - (intOf v).toNat)
 case atStart => exact ⟨0,none,0,0,rfl,by omega,HM,hid (OwnX.nil _ _ _ _ _),HB,hs2⟩
 case round =>
  clear HM HB hs2
  obtain ⟨i,pc,nc,cc,rfl,hik,HM,HO,HB,hwz⟩ := hrel
  by_cases hlt : i < P
  ·have hlt' : (i : Int) < (P : Int) := by omega
   obtain ⟨ul,uc,uf⟩ := boxN HM.out
   have u1 := uc 1 _ rfl
   have uz1 := uf 1
   simp only [Nat.zero_add] at u1
   clear uc uf
   have HL := hid (rdX_lits tyC_len wr [((1,⟨#[]⟩) : Ty)] #[.int .i64 1,.string ⟨#[]⟩] 25 rfl)
   have HO2 := hid (HO.out.kptS (.of_below (below_alM wr (.cells #[.int .i64 1,.string ⟨#[]⟩] 25)) : Kpt [] wr _) (fun _ _ => by simp))
   go_upto_region 6 with (at_builtin; refine wp_appM inf_typ shape_typ rfl _ _ rfl (w1.heap.size + 1) _ (List.replicate i ((1,⟨#[]⟩) : Ty)) rfl HO2.out wr.heap.size 0 1 1 [((1,⟨#[]⟩) : Ty)] rfl HL.out (by simp; omega) (by simp; omega) ?_; intro v3 x3 ho3 hg3 hl3; obtain ⟨p3,n3,c3,hv3⟩ := ho3.slice; subst hv3; rw [rep_next6] at ho3; have HO3 := hid ho3; have hHM := (hg3.block _ (by simp; omega) (fun e => by have := (HO.out.lt _ e.symm).1; omega)).trans (((below_alM wr _).block _ (by omega)).trans HM.out); replace HM := hid hHM; clear hHM; have HG3 := hid hg3; clear ho3 hg3 hl3; obtain ⟨xl,xc,xf⟩ := boxN HM.out; have x1 := xc 1 _ rfl; have xz1 := xf 1; simp only [Nat.zero_add] at x1; clear xc xf)
   go_wp2_with fail
   go_roundw
   case rel =>
    have kS : Kpt [w1.heap.size] x3 (x3.setCell ⟨w1.heap.size,1,none⟩ (.slice p3 n3 c3)) := Kpt.set _ _ _ _ _ (by simp)
    have hz3 := HG3.out.size
    simp only [World.size_alloc] at hz3
    refine ⟨i + 1,p3,n3,c3,by go_num,by omega,hid (by rw [heap_setCell_same _ _ 1 _ _ _ HM.out]; rfl),hid (HO3.out.kptS kS (fun g e => by have := (HO3.out.lt g e).1; simp; omega)),hid ?_,by have := kS.size; omega⟩
    have hbg : Below w1.heap.size (wr.alloc (.cells #[.int .i64 1,.string ⟨#[]⟩] 25)) x3 := ⟨HG3.out.os,HG3.out.tape,HG3.out.output,HG3.out.size,fun q hq => HG3.out.block q (by simp; omega) (fun e => by have := (HO.out.lt _ e.symm).1; omega)⟩
    exact ((HB.out.trans ((below_alM wr _).mono (by omega))).trans hbg).trans (Kpt.below kS (fun x hx => by simp at hx; omega) (by omega))
   case measure => simp [intOf]; omega
  ·obtain rfl : i = P := by omega
   have hnc : nc = i := by
    obtain ⟨q,c',e,-⟩ := (HO.out.rd (sP.grow _)).len
    simp only [Value.slice.injEq] at e
    rw [e.2.1,List.length_replicate]
   clear hlt hik HO
   subst hnc
   cases load
   ·skip
    obtain ⟨yl,yc,yf⟩ := boxN HM.out
    have y7 := yc 7 _ rfl
    have yz7 := yf 7
    simp only [Nat.zero_add] at y7
    clear yc yf
    go_upto_region 12 with fail
    obtain ⟨w3,hw3⟩ : ∃ x,x = (wr.setCell ⟨w1.heap.size,7,none⟩ (.slice (some ⟨wr.heap.size,0,none⟩) 2 2)).alloc (.cells #[.int .i64 5,.int .i32 0,.int .i64 (K : Int),.string ⟨#[]⟩,.string ⟨#[]⟩,.string ⟨#[]⟩,.string ⟨#[]⟩,.int .i64 40,.int .i32 0,.int .i64 0,.string ⟨#[]⟩,.string ⟨#[]⟩,.string ⟨#[]⟩,.string ⟨#[]⟩] 31) := ⟨_,rfl⟩
    rw [<- hw3]
    obtain ⟨p1,p2,p3,p4⟩ := box_put (cs' := #[.string ⟨#[]⟩,.slice pc nc cc,.int .i64 0,.string ⟨#[]⟩,.bool static,.bool false,.int .i64 (L : Int),.slice (some ⟨wr.heap.size,0,none⟩) 2 2,.slice none 0 0]) HM.out hw3 rfl
    replace HM := hid p1
    have hrI := rdX_lits insC_len (wr.setCell ⟨w1.heap.size,7,none⟩ (.slice (some ⟨wr.heap.size,0,none⟩) 2 2)) [((5 : Int),(0 : Int),(K : Int),es,es,es,es),(40,0,0,es,es,es,es)] #[.int .i64 5,.int .i32 0,.int .i64 (K : Int),.string ⟨#[]⟩,.string ⟨#[]⟩,.string ⟨#[]⟩,.string ⟨#[]⟩,.int .i64 40,.int .i32 0,.int .i64 0,.string ⟨#[]⟩,.string ⟨#[]⟩,.string ⟨#[]⟩,.string ⟨#[]⟩] 31 rfl
    rw [show (wr.setCell ⟨w1.heap.size,7,none⟩ (.slice (some ⟨wr.heap.size,0,none⟩) 2 2)).heap.size = wr.heap.size by simp,<- hw3] at hrI
    have HI := hid hrI
    replace HB := hid (HB.out.trans (p3.below (fun x hx => by simp at hx; omega) (by omega)))
    have hs3 : w1.heap.size < w3.heap.size := by omega
    clear hw3 p1 p2 p3 p4 y7 yz7 yl hrI
    cases static
    ·skip
     have hA : argsI ⟨⟨#[]⟩,List.replicate nc ((1,⟨#[]⟩) : Ty),(0,⟨#[]⟩),false,false,(L : Int),[((5 : Int),(0 : Int),(K : Int),es,es,es,es),(40,0,0,es,es,es,es)],[]⟩ = (nc : Int) + 1 := by unfold argsI; simp; omega
     have HA := hid (loc_ans (o := 5) (K := K) (L := L) _ _ (by decide) hA)
     clear hA
     have HARG : Hid (∀ w : World,Calls Tryz.prog 9 #[.agg #[.string ⟨#[]⟩,.slice pc nc cc,.int .i64 0,.string ⟨#[]⟩,.bool false,.bool false,.int .i64 (L : Int),.slice (some ⟨wr.heap.size,0,none⟩) 2 2,.slice none 0 0]] w fun e w' => e = .returned (.int .i64 ((nc : Int) + 1)) /\ Below w.heap.size w w') := hid (fun w => by have := args_any ⟨#[]⟩ ⟨#[]⟩ 0 (L : Int) false false pc (some ⟨wr.heap.size,0,none⟩) none nc cc 2 2 0 0 w (by omega); rw [if_neg (by decide),Int.add_comm] at this; exact this)
     obtain ⟨q0,q1,q2,q3,q4,q5,q6,q7,q8⟩ := z9 (boxN HM.out).2.1
     have ql := (boxN HM.out).1
     go_wp2_with fail
     refine (method_a _ _ _ _ _ _ _ _ _ _ _ _ _ _ _ (List.replicate nc ((1,⟨#[]⟩) : Ty)) [((5 : Int),(0 : Int),(K : Int),es,es,es,es),(40,0,0,es,es,es,es)] [] _ w3 (by rw [List.length_replicate]) (by omega) HI.out (RdX.nil _ _ _ _) (by show (2 : Nat) <= 1000000; decide) (by decide)).mono ?_
     rintro e4 w4 ⟨he4,hb4⟩
     replace HB := hid (HB.out.trans (hb4.mono HB.out.size))
     have hm4 := (hb4.block _ ql).trans HM.out
     replace HM := hid hm4
     clear q0 q1 q2 q3 q4 q5 q6 q7 q8 ql hb4 hm4
     obtain ⟨q0,q1,q2,q3,q4,q5,q6,q7,q8⟩ := z9 (boxN HM.out).2.1
     have ql := (boxN HM.out).1
     by_cases h1 : (L : Int) < (nc : Int) + 1
     ·skip
      rw [HA.out,if_pos h1] at he4
      subst he4
      clear HA
      go_wp2_with fail
      refine (HARG.out w4).mono ?_
      rintro e5 w5 ⟨rfl,hb5⟩
      have HB5 := hid (HB.out.trans (hb5.mono HB.out.size))
      have hm5 := (hb5.block _ ql).trans HM.out
      clear q0 q1 q2 q3 q4 q5 q6 q7 q8 ql hb5
      obtain ⟨q0,q1,q2,q3,q4,q5,q6,q7,q8⟩ := z9 (boxN hm5).2.1
      have ql := (boxN hm5).1
      clear hm5
      go_wp2_with fail
      go_ret
      exact ⟨rfl,HBW.out.trans (HB5.out.mono HBW.out.size)⟩
     ·skip
      by_cases h2 : K < L
      ·have h2' : (K : Int) < (L : Int) := by omega
       rw [HA.out,if_neg h1,if_pos h2] at he4
       subst he4
       clear HA
       go_wp2_with fail
       refine (HARG.out w4).mono ?_
       rintro e5 w5 ⟨rfl,hb5⟩
       have HB5 := hid (HB.out.trans (hb5.mono HB.out.size))
       have hm5 := (hb5.block _ ql).trans HM.out
       clear q0 q1 q2 q3 q4 q5 q6 q7 q8 ql hb5
       obtain ⟨q0,q1,q2,q3,q4,q5,q6,q7,q8⟩ := z9 (boxN hm5).2.1
       have ql := (boxN hm5).1
       clear hm5
       go_wp2_with fail
       go_ret
       exact ⟨rfl,HBW.out.trans (HB5.out.mono HBW.out.size)⟩
      ·have h2' : ¬ (K : Int) < (L : Int) := by omega
       rw [HA.out,if_neg h1,if_neg h2] at he4
       subst he4
       clear HA
       go_wp2_with fail
       refine (HARG.out w4).mono ?_
       rintro e5 w5 ⟨rfl,hb5⟩
       have HB5 := hid (HB.out.trans (hb5.mono HB.out.size))
       have hm5 := (hb5.block _ ql).trans HM.out
       clear q0 q1 q2 q3 q4 q5 q6 q7 q8 ql hb5
       obtain ⟨q0,q1,q2,q3,q4,q5,q6,q7,q8⟩ := z9 (boxN hm5).2.1
       have ql := (boxN hm5).1
       clear hm5
       go_wp2_with fail
       go_ret
       exact ⟨rfl,HBW.out.trans (HB5.out.mono HBW.out.size)⟩
    ·skip
     have hA : argsI ⟨⟨#[]⟩,List.replicate nc ((1,⟨#[]⟩) : Ty),(0,⟨#[]⟩),true,false,(L : Int),[((5 : Int),(0 : Int),(K : Int),es,es,es,es),(40,0,0,es,es,es,es)],[]⟩ = (nc : Int) := by unfold argsI; simp
     have HA := hid (loc_ans (o := 5) (K := K) (L := L) _ _ (by decide) hA)
     clear hA
     have HARG : Hid (∀ w : World,Calls Tryz.prog 9 #[.agg #[.string ⟨#[]⟩,.slice pc nc cc,.int .i64 0,.string ⟨#[]⟩,.bool true,.bool false,.int .i64 (L : Int),.slice (some ⟨wr.heap.size,0,none⟩) 2 2,.slice none 0 0]] w fun e w' => e = .returned (.int .i64 ((nc : Int))) /\ Below w.heap.size w w') := hid (fun w => by have := args_any ⟨#[]⟩ ⟨#[]⟩ 0 (L : Int) true false pc (some ⟨wr.heap.size,0,none⟩) none nc cc 2 2 0 0 w (by omega); rw [if_pos rfl] at this; exact this)
     obtain ⟨q0,q1,q2,q3,q4,q5,q6,q7,q8⟩ := z9 (boxN HM.out).2.1
     have ql := (boxN HM.out).1
     go_wp2_with fail
     refine (method_a _ _ _ _ _ _ _ _ _ _ _ _ _ _ _ (List.replicate nc ((1,⟨#[]⟩) : Ty)) [((5 : Int),(0 : Int),(K : Int),es,es,es,es),(40,0,0,es,es,es,es)] [] _ w3 (by rw [List.length_replicate]) (by omega) HI.out (RdX.nil _ _ _ _) (by show (2 : Nat) <= 1000000; decide) (by decide)).mono ?_
     rintro e4 w4 ⟨he4,hb4⟩
     replace HB := hid (HB.out.trans (hb4.mono HB.out.size))
     have hm4 := (hb4.block _ ql).trans HM.out
     replace HM := hid hm4
     clear q0 q1 q2 q3 q4 q5 q6 q7 q8 ql hb4 hm4
     obtain ⟨q0,q1,q2,q3,q4,q5,q6,q7,q8⟩ := z9 (boxN HM.out).2.1
     have ql := (boxN HM.out).1
     by_cases h1 : (L : Int) < (nc : Int)
     ·skip
      rw [HA.out,if_pos h1] at he4
      subst he4
      clear HA
      go_wp2_with fail
      refine (HARG.out w4).mono ?_
      rintro e5 w5 ⟨rfl,hb5⟩
      have HB5 := hid (HB.out.trans (hb5.mono HB.out.size))
      have hm5 := (hb5.block _ ql).trans HM.out
      clear q0 q1 q2 q3 q4 q5 q6 q7 q8 ql hb5
      obtain ⟨q0,q1,q2,q3,q4,q5,q6,q7,q8⟩ := z9 (boxN hm5).2.1
      have ql := (boxN hm5).1
      clear hm5
      go_wp2_with fail
      go_ret
      exact ⟨rfl,HBW.out.trans (HB5.out.mono HBW.out.size)⟩
     ·skip
      by_cases h2 : K < L
      ·have h2' : (K : Int) < (L : Int) := by omega
       rw [HA.out,if_neg h1,if_pos h2] at he4
       subst he4
       clear HA
       go_wp2_with fail
       refine (HARG.out w4).mono ?_
       rintro e5 w5 ⟨rfl,hb5⟩
       have HB5 := hid (HB.out.trans (hb5.mono HB.out.size))
       have hm5 := (hb5.block _ ql).trans HM.out
       clear q0 q1 q2 q3 q4 q5 q6 q7 q8 ql hb5
       obtain ⟨q0,q1,q2,q3,q4,q5,q6,q7,q8⟩ := z9 (boxN hm5).2.1
       have ql := (boxN hm5).1
       clear hm5
       go_wp2_with fail
       go_ret
       exact ⟨rfl,HBW.out.trans (HB5.out.mono HBW.out.size)⟩
      ·have h2' : ¬ (K : Int) < (L : Int) := by omega
       rw [HA.out,if_neg h1,if_neg h2] at he4
       subst he4
       clear HA
       go_wp2_with fail
       refine (HARG.out w4).mono ?_
       rintro e5 w5 ⟨rfl,hb5⟩
       have HB5 := hid (HB.out.trans (hb5.mono HB.out.size))
       have hm5 := (hb5.block _ ql).trans HM.out
       clear q0 q1 q2 q3 q4 q5 q6 q7 q8 ql hb5
       obtain ⟨q0,q1,q2,q3,q4,q5,q6,q7,q8⟩ := z9 (boxN hm5).2.1
       have ql := (boxN hm5).1
       clear hm5
       go_wp2_with fail
       go_ret
       exact ⟨rfl,HBW.out.trans (HB5.out.mono HBW.out.size)⟩
   ·skip
    obtain ⟨yl,yc,yf⟩ := boxN HM.out
    have y7 := yc 7 _ rfl
    have yz7 := yf 7
    simp only [Nat.zero_add] at y7
    clear yc yf
    go_upto_region 12 with fail
    obtain ⟨w3,hw3⟩ : ∃ x,x = (wr.setCell ⟨w1.heap.size,7,none⟩ (.slice (some ⟨wr.heap.size,0,none⟩) 2 2)).alloc (.cells #[.int .i64 4,.int .i32 0,.int .i64 (K : Int),.string ⟨#[]⟩,.string ⟨#[]⟩,.string ⟨#[]⟩,.string ⟨#[]⟩,.int .i64 40,.int .i32 0,.int .i64 0,.string ⟨#[]⟩,.string ⟨#[]⟩,.string ⟨#[]⟩,.string ⟨#[]⟩] 31) := ⟨_,rfl⟩
    rw [<- hw3]
    obtain ⟨p1,p2,p3,p4⟩ := box_put (cs' := #[.string ⟨#[]⟩,.slice pc nc cc,.int .i64 0,.string ⟨#[]⟩,.bool static,.bool false,.int .i64 (L : Int),.slice (some ⟨wr.heap.size,0,none⟩) 2 2,.slice none 0 0]) HM.out hw3 rfl
    replace HM := hid p1
    have hrI := rdX_lits insC_len (wr.setCell ⟨w1.heap.size,7,none⟩ (.slice (some ⟨wr.heap.size,0,none⟩) 2 2)) [((4 : Int),(0 : Int),(K : Int),es,es,es,es),(40,0,0,es,es,es,es)] #[.int .i64 4,.int .i32 0,.int .i64 (K : Int),.string ⟨#[]⟩,.string ⟨#[]⟩,.string ⟨#[]⟩,.string ⟨#[]⟩,.int .i64 40,.int .i32 0,.int .i64 0,.string ⟨#[]⟩,.string ⟨#[]⟩,.string ⟨#[]⟩,.string ⟨#[]⟩] 31 rfl
    rw [show (wr.setCell ⟨w1.heap.size,7,none⟩ (.slice (some ⟨wr.heap.size,0,none⟩) 2 2)).heap.size = wr.heap.size by simp,<- hw3] at hrI
    have HI := hid hrI
    replace HB := hid (HB.out.trans (p3.below (fun x hx => by simp at hx; omega) (by omega)))
    have hs3 : w1.heap.size < w3.heap.size := by omega
    clear hw3 p1 p2 p3 p4 y7 yz7 yl hrI
    cases static
    ·skip
     have hA : argsI ⟨⟨#[]⟩,List.replicate nc ((1,⟨#[]⟩) : Ty),(0,⟨#[]⟩),false,false,(L : Int),[((4 : Int),(0 : Int),(K : Int),es,es,es,es),(40,0,0,es,es,es,es)],[]⟩ = (nc : Int) + 1 := by unfold argsI; simp; omega
     have HA := hid (loc_ans (o := 4) (K := K) (L := L) _ _ (by decide) hA)
     clear hA
     have HARG : Hid (∀ w : World,Calls Tryz.prog 9 #[.agg #[.string ⟨#[]⟩,.slice pc nc cc,.int .i64 0,.string ⟨#[]⟩,.bool false,.bool false,.int .i64 (L : Int),.slice (some ⟨wr.heap.size,0,none⟩) 2 2,.slice none 0 0]] w fun e w' => e = .returned (.int .i64 ((nc : Int) + 1)) /\ Below w.heap.size w w') := hid (fun w => by have := args_any ⟨#[]⟩ ⟨#[]⟩ 0 (L : Int) false false pc (some ⟨wr.heap.size,0,none⟩) none nc cc 2 2 0 0 w (by omega); rw [if_neg (by decide),Int.add_comm] at this; exact this)
     obtain ⟨q0,q1,q2,q3,q4,q5,q6,q7,q8⟩ := z9 (boxN HM.out).2.1
     have ql := (boxN HM.out).1
     go_wp2_with fail
     refine (method_a _ _ _ _ _ _ _ _ _ _ _ _ _ _ _ (List.replicate nc ((1,⟨#[]⟩) : Ty)) [((4 : Int),(0 : Int),(K : Int),es,es,es,es),(40,0,0,es,es,es,es)] [] _ w3 (by rw [List.length_replicate]) (by omega) HI.out (RdX.nil _ _ _ _) (by show (2 : Nat) <= 1000000; decide) (by decide)).mono ?_
     rintro e4 w4 ⟨he4,hb4⟩
     replace HB := hid (HB.out.trans (hb4.mono HB.out.size))
     have hm4 := (hb4.block _ ql).trans HM.out
     replace HM := hid hm4
     clear q0 q1 q2 q3 q4 q5 q6 q7 q8 ql hb4 hm4
     obtain ⟨q0,q1,q2,q3,q4,q5,q6,q7,q8⟩ := z9 (boxN HM.out).2.1
     have ql := (boxN HM.out).1
     by_cases h1 : (L : Int) < (nc : Int) + 1
     ·skip
      rw [HA.out,if_pos h1] at he4
      subst he4
      clear HA
      go_wp2_with fail
      refine (HARG.out w4).mono ?_
      rintro e5 w5 ⟨rfl,hb5⟩
      have HB5 := hid (HB.out.trans (hb5.mono HB.out.size))
      have hm5 := (hb5.block _ ql).trans HM.out
      clear q0 q1 q2 q3 q4 q5 q6 q7 q8 ql hb5
      obtain ⟨q0,q1,q2,q3,q4,q5,q6,q7,q8⟩ := z9 (boxN hm5).2.1
      have ql := (boxN hm5).1
      clear hm5
      go_wp2_with fail
      go_ret
      exact ⟨rfl,HBW.out.trans (HB5.out.mono HBW.out.size)⟩
     ·skip
      by_cases h2 : K < L
      ·have h2' : (K : Int) < (L : Int) := by omega
       rw [HA.out,if_neg h1,if_pos h2] at he4
       subst he4
       clear HA
       go_wp2_with fail
       refine (HARG.out w4).mono ?_
       rintro e5 w5 ⟨rfl,hb5⟩
       have HB5 := hid (HB.out.trans (hb5.mono HB.out.size))
       have hm5 := (hb5.block _ ql).trans HM.out
       clear q0 q1 q2 q3 q4 q5 q6 q7 q8 ql hb5
       obtain ⟨q0,q1,q2,q3,q4,q5,q6,q7,q8⟩ := z9 (boxN hm5).2.1
       have ql := (boxN hm5).1
       clear hm5
       go_wp2_with fail
       go_ret
       exact ⟨rfl,HBW.out.trans (HB5.out.mono HBW.out.size)⟩
      ·have h2' : ¬ (K : Int) < (L : Int) := by omega
       rw [HA.out,if_neg h1,if_neg h2] at he4
       subst he4
       clear HA
       go_wp2_with fail
       refine (HARG.out w4).mono ?_
       rintro e5 w5 ⟨rfl,hb5⟩
       have HB5 := hid (HB.out.trans (hb5.mono HB.out.size))
       have hm5 := (hb5.block _ ql).trans HM.out
       clear q0 q1 q2 q3 q4 q5 q6 q7 q8 ql hb5
       obtain ⟨q0,q1,q2,q3,q4,q5,q6,q7,q8⟩ := z9 (boxN hm5).2.1
       have ql := (boxN hm5).1
       clear hm5
       go_wp2_with fail
       go_ret
       exact ⟨rfl,HBW.out.trans (HB5.out.mono HBW.out.size)⟩
    ·skip
     have hA : argsI ⟨⟨#[]⟩,List.replicate nc ((1,⟨#[]⟩) : Ty),(0,⟨#[]⟩),true,false,(L : Int),[((4 : Int),(0 : Int),(K : Int),es,es,es,es),(40,0,0,es,es,es,es)],[]⟩ = (nc : Int) := by unfold argsI; simp
     have HA := hid (loc_ans (o := 4) (K := K) (L := L) _ _ (by decide) hA)
     clear hA
     have HARG : Hid (∀ w : World,Calls Tryz.prog 9 #[.agg #[.string ⟨#[]⟩,.slice pc nc cc,.int .i64 0,.string ⟨#[]⟩,.bool true,.bool false,.int .i64 (L : Int),.slice (some ⟨wr.heap.size,0,none⟩) 2 2,.slice none 0 0]] w fun e w' => e = .returned (.int .i64 ((nc : Int))) /\ Below w.heap.size w w') := hid (fun w => by have := args_any ⟨#[]⟩ ⟨#[]⟩ 0 (L : Int) true false pc (some ⟨wr.heap.size,0,none⟩) none nc cc 2 2 0 0 w (by omega); rw [if_pos rfl] at this; exact this)
     obtain ⟨q0,q1,q2,q3,q4,q5,q6,q7,q8⟩ := z9 (boxN HM.out).2.1
     have ql := (boxN HM.out).1
     go_wp2_with fail
     refine (method_a _ _ _ _ _ _ _ _ _ _ _ _ _ _ _ (List.replicate nc ((1,⟨#[]⟩) : Ty)) [((4 : Int),(0 : Int),(K : Int),es,es,es,es),(40,0,0,es,es,es,es)] [] _ w3 (by rw [List.length_replicate]) (by omega) HI.out (RdX.nil _ _ _ _) (by show (2 : Nat) <= 1000000; decide) (by decide)).mono ?_
     rintro e4 w4 ⟨he4,hb4⟩
     replace HB := hid (HB.out.trans (hb4.mono HB.out.size))
     have hm4 := (hb4.block _ ql).trans HM.out
     replace HM := hid hm4
     clear q0 q1 q2 q3 q4 q5 q6 q7 q8 ql hb4 hm4
     obtain ⟨q0,q1,q2,q3,q4,q5,q6,q7,q8⟩ := z9 (boxN HM.out).2.1
     have ql := (boxN HM.out).1
     by_cases h1 : (L : Int) < (nc : Int)
     ·skip
      rw [HA.out,if_pos h1] at he4
      subst he4
      clear HA
      go_wp2_with fail
      refine (HARG.out w4).mono ?_
      rintro e5 w5 ⟨rfl,hb5⟩
      have HB5 := hid (HB.out.trans (hb5.mono HB.out.size))
      have hm5 := (hb5.block _ ql).trans HM.out
      clear q0 q1 q2 q3 q4 q5 q6 q7 q8 ql hb5
      obtain ⟨q0,q1,q2,q3,q4,q5,q6,q7,q8⟩ := z9 (boxN hm5).2.1
      have ql := (boxN hm5).1
      clear hm5
      go_wp2_with fail
      go_ret
      exact ⟨rfl,HBW.out.trans (HB5.out.mono HBW.out.size)⟩
     ·skip
      by_cases h2 : K < L
      ·have h2' : (K : Int) < (L : Int) := by omega
       rw [HA.out,if_neg h1,if_pos h2] at he4
       subst he4
       clear HA
       go_wp2_with fail
       refine (HARG.out w4).mono ?_
       rintro e5 w5 ⟨rfl,hb5⟩
       have HB5 := hid (HB.out.trans (hb5.mono HB.out.size))
       have hm5 := (hb5.block _ ql).trans HM.out
       clear q0 q1 q2 q3 q4 q5 q6 q7 q8 ql hb5
       obtain ⟨q0,q1,q2,q3,q4,q5,q6,q7,q8⟩ := z9 (boxN hm5).2.1
       have ql := (boxN hm5).1
       clear hm5
       go_wp2_with fail
       go_ret
       exact ⟨rfl,HBW.out.trans (HB5.out.mono HBW.out.size)⟩
      ·have h2' : ¬ (K : Int) < (L : Int) := by omega
       rw [HA.out,if_neg h1,if_neg h2] at he4
       subst he4
       clear HA
       go_wp2_with fail
       refine (HARG.out w4).mono ?_
       rintro e5 w5 ⟨rfl,hb5⟩
       have HB5 := hid (HB.out.trans (hb5.mono HB.out.size))
       have hm5 := (hb5.block _ ql).trans HM.out
       clear q0 q1 q2 q3 q4 q5 q6 q7 q8 ql hb5
       obtain ⟨q0,q1,q2,q3,q4,q5,q6,q7,q8⟩ := z9 (boxN hm5).2.1
       have ql := (boxN hm5).1
       clear hm5
       go_wp2_with fail
       go_ret
       exact ⟨rfl,HBW.out.trans (HB5.out.mono HBW.out.size)⟩
end Go.Proofs.YtofnbapnmhibaaaGreat.A
