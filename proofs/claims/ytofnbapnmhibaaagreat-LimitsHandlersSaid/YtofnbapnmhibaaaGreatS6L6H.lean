/- Texts that the proof is made of, joined. No condition. -/
import Derived.Test.YtofnbapnmhibaaaGreatS620
import Derived.Test.YtofnbapnmhibaaaGreatS6H
set_option linter.unusedVariables false
set_option linter.unusedSimpArgs false
set_option maxRecDepth 100000
set_option maxHeartbeats 16000000
namespace Go.Proofs.YtofnbapnmhibaaaGreat.A
open Go.RowKit Go.Proofs.YtofnbapnmhibaaaGreat.D Go.Proofs.YtofnbapnmhibaaaGreat.O
theorem hnd_code (k : Nat) (hk : 0 < k) : codeA 0 (List.replicate k iR) = (0,0) := by
 have h1 : badAt (findsB 0 (((List.replicate k iR).length : Nat) : Int)) (List.replicate k iR) = none := badAt_none (fun j x hx => by
  obtain rfl : x = iR := List.eq_of_mem_replicate (List.mem_of_getElem? hx)
  unfold findsB
  rw [if_neg (by show ¬ ((40 : Int) = 4 ∨ (40 : Int) = 5); decide),if_neg (by show ¬ (jumpsB 40 = true); decide)])
 have h2 : lastB (List.replicate k iR) = true := by
  unfold lastB
  rw [List.getElem?_replicate,if_pos (by rw [List.length_replicate]; omega)]
  rfl
 unfold codeA
 rw [h1,h2]
 rfl
theorem hnd_ans (k : Nat) (hk : 0 < k) (F T A : Int) : mthA (⟨⟨#[]⟩,[],(0,⟨#[]⟩),true,false,0,List.replicate k iR,[((0 : Int),(k : Int),(k : Int) - 1,(⟨#[70,97,117,108,116]⟩ : ByteArray)),(F,T,A,⟨#[70,97,117,108,116]⟩)]⟩ : Mth) = if 0 <= F /\ F < T /\ T <= (k : Int) /\ 0 <= A /\ A < (k : Int) then (0,0) else (-1,28) := by
 have hn : ¬ List.replicate k iR = [] := by
  intro e
  have := congrArg List.length e
  rw [List.length_replicate] at this
  simp at this
  omega
 rw [mthA_hs rfl hn (by show ¬ ((0 : Int) < 0); decide) (by show (codeA 0 (List.replicate k iR)).2 = 0; rw [hnd_code k hk])]
 have h1 : standsB ((List.replicate k iR).length : Nat) ((0 : Int),(k : Int),(k : Int) - 1,(⟨#[70,97,117,108,116]⟩ : ByteArray)) = true := by
  rw [List.length_replicate]
  unfold standsB inB
  simp only [Bool.and_eq_true,decide_eq_true_eq]
  omega
 have h2 : standsB ((List.replicate k iR).length : Nat) (F,T,A,(⟨#[70,97,117,108,116]⟩ : ByteArray)) = decide (0 <= F /\ F < T /\ T <= (k : Int) /\ 0 <= A /\ A < (k : Int)) := by
  rw [List.length_replicate]
  unfold standsB inB
  rw [<- Bool.decide_and,decide_eq_decide]
  simp only
  omega
 show (if List.all [((0 : Int),(k : Int),(k : Int) - 1,(⟨#[70,97,117,108,116]⟩ : ByteArray)),(F,T,A,⟨#[70,97,117,108,116]⟩)] (standsB ((List.replicate k iR).length : Nat)) = true then _ else _) = _
 rw [List.all_cons,List.all_cons,List.all_nil,h1,h2]
 by_cases h : 0 <= F /\ F < T /\ T <= (k : Int) /\ 0 <= A /\ A < (k : Int)
 ·rw [if_pos h,decide_eq_true h]
  rfl
 ·rw [if_neg h,decide_eq_false h]
  rfl
theorem hnd_l (n : Nat) (from_ to_ at_ : Int) (few : Bool) (w : World) (hg : Glob w) (hb0 : n < 256) (hf1 : -9223372036854775808 <= from_) (hf2 : from_ <= 9223372036854775807) (ha1 : -9223372036854775808 <= at_) (ha2 : at_ <= 9223372036854775807) : Calls Tryz.prog 3 #[.int .u8 (n : Int),.int .i64 from_,.int .i64 to_,.int .i64 at_,.bool few] w fun e w' => e = .returned (.bool true) /\ Below w.heap.size w w' := by
 obtain ⟨k,hk⟩ : ∃ k : Nat,(n : Int) % 12 + 1 = (k : Int) := ⟨n % 12 + 1,by omega⟩
 have hk12 : k <= 12 := by omega
 have hk0 : 0 < k := by omega
 go_enter Tryz.func3,Tryz.ntmps3
 go_wp2_with fail
 refine (known_l w hg).mono ?_
 rintro e1 w1 ⟨rfl,hb⟩
 have HBW := hid hb
 clear hb hg
 go_upto_region 5 with fail
 obtain ⟨w2,hw2⟩ : ∃ x,x = w1.alloc (.cells #[.string ⟨#[]⟩,.slice none 0 0,.int .i64 0,.string ⟨#[]⟩,.bool true,.bool false,.int .i64 0,.slice none 0 0,.slice none 0 0] 29) := ⟨_,rfl⟩
 rw [<- hw2]
 have HM : Hid (w2.heap[w1.heap.size]? = some (.cells #[.string ⟨#[]⟩,.slice none 0 0,.int .i64 0,.string ⟨#[]⟩,.bool true,.bool false,.int .i64 0,.slice none 0 0,.slice none 0 0] 29 (0,0))) := hid (by rw [hw2]; exact heap_alloc_new _ _)
 have HB : Hid (Below w1.heap.size w1 w2) := hid (by rw [hw2]; exact below_alM _ _)
 have hs2 : w1.heap.size + 1 <= w2.heap.size := by rw [hw2]; simp
 clear hw2
 go_wp2_with fail
 clear hk
 go_loopw [13] (fun v wr => ∃ (i : Nat) (pc : Option Addr) (nc cc : Nat),v = .int .i64 (i : Int) /\ i <= k /\ Hid (wr.heap[w1.heap.size]? = some (.cells #[.string ⟨#[]⟩,.slice none 0 0,.int .i64 0,.string ⟨#[]⟩,.bool true,.bool false,.int .i64 0,.slice pc nc cc,.slice none 0 0] 29 (0,0))) /\ Hid (OwnX 7 31 (sP insC) wr (w1.heap.size + 1) (.slice pc nc cc) (List.replicate i iR)) /\ Hid (Below w1.heap.size w1 wr) /\ w1.heap.size + 1 <= wr.heap.size) (fun v _ => k - (intOf v).toNat)
 case atStart => exact ⟨0,none,0,0,rfl,by omega,HM,hid (OwnX.nil _ _ _ _ _),HB,hs2⟩
 case round =>
  clear HM HB hs2
  obtain ⟨i,pc,nc,cc,rfl,hik,HM,HO,HB,hwz⟩ := hrel
  by_cases hlt : i < k
  ·have hlt' : (i : Int) < (k : Int) := by omega
   obtain ⟨ul,uc,uf⟩ := boxN HM.out
   have u7 := uc 7 _ rfl
   have uz7 := uf 7
   simp only [Nat.zero_add] at u7
   clear uc uf
   have HL := hid (rdX_lits insC_len wr [iR] #[.int .i64 40,.int .i32 0,.int .i64 0,.string ⟨#[]⟩,.string ⟨#[]⟩,.string ⟨#[]⟩,.string ⟨#[]⟩] 31 rfl)
   have HO2 := hid (HO.out.kptS (.of_below (below_alM wr (.cells #[.int .i64 40,.int .i32 0,.int .i64 0,.string ⟨#[]⟩,.string ⟨#[]⟩,.string ⟨#[]⟩,.string ⟨#[]⟩] 31)) : Kpt [] wr _) (fun _ _ => by simp))
   go_upto_region 7 with (at_builtin; refine wp_appM inf_ins shape_ins rfl _ _ rfl (w1.heap.size + 1) _ (List.replicate i iR) rfl HO2.out wr.heap.size 0 1 1 [iR] rfl HL.out (by simp; omega) (by simp; omega) ?_; intro v3 x3 ho3 hg3 hl3; obtain ⟨p3,n3,c3,hv3⟩ := ho3.slice; subst hv3; rw [rep_next6] at ho3; have HO3 := hid ho3; have hHM := (hg3.block _ (by simp; omega) (fun e => by have := (HO.out.lt _ e.symm).1; omega)).trans (((below_alM wr _).block _ (by omega)).trans HM.out); replace HM := hid hHM; clear hHM; have HG3 := hid hg3; clear ho3 hg3 hl3; obtain ⟨xl,xc,xf⟩ := boxN HM.out; have x7 := xc 7 _ rfl; have xz7 := xf 7; simp only [Nat.zero_add] at x7; clear xc xf)
   go_wp2_with fail
   go_roundw
   case rel =>
    have kS : Kpt [w1.heap.size] x3 (x3.setCell ⟨w1.heap.size,7,none⟩ (.slice p3 n3 c3)) := Kpt.set _ _ _ _ _ (by simp)
    have hz3 := HG3.out.size
    simp only [World.size_alloc] at hz3
    refine ⟨i + 1,p3,n3,c3,by go_num,by omega,hid (by rw [heap_setCell_same _ _ 7 _ _ _ HM.out]; rfl),hid (HO3.out.kptS kS (fun g e => by have := (HO3.out.lt g e).1; simp; omega)),hid ?_,by have := kS.size; omega⟩
    have hbg : Below w1.heap.size (wr.alloc (.cells #[.int .i64 40,.int .i32 0,.int .i64 0,.string ⟨#[]⟩,.string ⟨#[]⟩,.string ⟨#[]⟩,.string ⟨#[]⟩] 31)) x3 := ⟨HG3.out.os,HG3.out.tape,HG3.out.output,HG3.out.size,fun q hq => HG3.out.block q (by simp; omega) (fun e => by have := (HO.out.lt _ e.symm).1; omega)⟩
    exact ((HB.out.trans ((below_alM wr _).mono (by omega))).trans hbg).trans (Kpt.below kS (fun x hx => by simp at hx; omega) (by omega))
   case measure => simp [intOf]; omega
  ·obtain rfl : i = k := by omega
   have hnc : nc = i := by
    obtain ⟨q,c',e,-⟩ := (HO.out.rd (sP.grow _)).len
    simp only [Value.slice.injEq] at e
    rw [e.2.1,List.length_replicate]
   have HRC : Hid (RdX 7 (sP insC) (fun b => b ≠ w1.heap.size) wr (.slice pc nc cc) (List.replicate i iR)) := hid ((HO.out.rd (sP.grow _)).step (sP.grow _) (fun b hb _ => by omega) (fun _ _ _ => rfl) (Nat.le_refl _))
   clear hlt hik HO
   subst hnc
   cases few
   ·skip
    obtain ⟨yl,yc,yf⟩ := boxN HM.out
    have y8 := yc 8 _ rfl
    have yz8 := yf 8
    simp only [Nat.zero_add] at y8
    clear yc yf
    go_upto_region 12 with fail
    obtain ⟨w3,hw3⟩ : ∃ x,x = (wr.setCell ⟨w1.heap.size,8,none⟩ (.slice (some ⟨wr.heap.size,0,none⟩) 2 2)).alloc (.cells #[.int .i64 0,.int .i64 (nc : Int),.int .i64 ((nc : Int) - 1),.string ⟨#[70,97,117,108,116]⟩,.int .i64 from_,.int .i64 to_,.int .i64 at_,.string ⟨#[70,97,117,108,116]⟩] 33) := ⟨_,rfl⟩
    rw [<- hw3]
    obtain ⟨p1,p2,p3,p4⟩ := box_put (cs' := #[.string ⟨#[]⟩,.slice none 0 0,.int .i64 0,.string ⟨#[]⟩,.bool true,.bool false,.int .i64 0,.slice pc nc cc,.slice (some ⟨wr.heap.size,0,none⟩) 2 2]) HM.out hw3 rfl
    replace HM := hid p1
    replace HRC := hid (HRC.out.kpt6 p3)
    have hrH := rdX_lits hndC_len (wr.setCell ⟨w1.heap.size,8,none⟩ (.slice (some ⟨wr.heap.size,0,none⟩) 2 2)) [((0 : Int),(nc : Int),(nc : Int) - 1,(⟨#[70,97,117,108,116]⟩ : ByteArray)),(from_,to_,at_,⟨#[70,97,117,108,116]⟩)] #[.int .i64 0,.int .i64 (nc : Int),.int .i64 ((nc : Int) - 1),.string ⟨#[70,97,117,108,116]⟩,.int .i64 from_,.int .i64 to_,.int .i64 at_,.string ⟨#[70,97,117,108,116]⟩] 33 rfl
    rw [show (wr.setCell ⟨w1.heap.size,8,none⟩ (.slice (some ⟨wr.heap.size,0,none⟩) 2 2)).heap.size = wr.heap.size by simp,<- hw3] at hrH
    have HH := hid hrH
    replace HB := hid (HB.out.trans (p3.below (fun x hx => by simp at hx; omega) (by omega)))
    have hs3 : w1.heap.size < w3.heap.size := by omega
    clear hw3 p1 p2 p3 p4 y8 yz8 yl hrH
    have HA := hid (hnd_ans nc hk0 from_ to_ at_)
    obtain ⟨q0,q1,q2,q3,q4,q5,q6,q7,q8⟩ := z9 (boxN HM.out).2.1
    have ql := (boxN HM.out).1
    go_wp2_with fail
    refine (method_a _ _ _ _ _ _ _ _ _ _ _ _ _ _ _ [] (List.replicate nc iR) [((0 : Int),(nc : Int),(nc : Int) - 1,(⟨#[70,97,117,108,116]⟩ : ByteArray)),(from_,to_,at_,⟨#[70,97,117,108,116]⟩)] anyB w3 rfl (by decide) (HRC.out.step (sP.grow _) (fun _ _ _ => trivial) (fun _ _ _ => rfl) (Nat.le_refl _)) HH.out (by omega) (by show (2 : Nat) <= 1000000; decide)).mono ?_
    rintro e4 w4 ⟨he4,hb4⟩
    replace HB := hid (HB.out.trans (hb4.mono HB.out.size))
    clear q0 q1 q2 q3 q4 q5 q6 q7 q8 ql hb4 HM HRC HH hs3
    rcases (by omega : (¬ 0 <= from_) ∨ (0 <= from_ /\ ¬ from_ < to_) ∨ (0 <= from_ /\ from_ < to_ /\ ¬ to_ <= (nc : Int)) ∨ (0 <= from_ /\ from_ < to_ /\ to_ <= (nc : Int) /\ ¬ 0 <= at_) ∨ (0 <= from_ /\ from_ < to_ /\ to_ <= (nc : Int) /\ 0 <= at_ /\ ¬ at_ < (nc : Int)) ∨ (0 <= from_ /\ from_ < to_ /\ to_ <= (nc : Int) /\ 0 <= at_ /\ at_ < (nc : Int))) with h | h | h | h | h | h
    ·rw [HA.out,if_neg (by omega)] at he4
     subst he4
     clear HA
     go_wp2_with fail
     go_ret
     exact ⟨rfl,HBW.out.trans (HB.out.mono HBW.out.size)⟩
    ·rw [HA.out,if_neg (by omega)] at he4
     obtain ⟨h0,h1⟩ := h
     subst he4
     clear HA
     go_wp2_with fail
     go_ret
     exact ⟨rfl,HBW.out.trans (HB.out.mono HBW.out.size)⟩
    ·rw [HA.out,if_neg (by omega)] at he4
     obtain ⟨h0,h1,h2⟩ := h
     subst he4
     clear HA
     go_wp2_with fail
     go_ret
     exact ⟨rfl,HBW.out.trans (HB.out.mono HBW.out.size)⟩
    ·rw [HA.out,if_neg (by omega)] at he4
     obtain ⟨h0,h1,h2,h3⟩ := h
     subst he4
     clear HA
     go_wp2_with fail
     go_ret
     exact ⟨rfl,HBW.out.trans (HB.out.mono HBW.out.size)⟩
    ·rw [HA.out,if_neg (by omega)] at he4
     obtain ⟨h0,h1,h2,h3,h4⟩ := h
     subst he4
     clear HA
     go_wp2_with fail
     go_ret
     exact ⟨rfl,HBW.out.trans (HB.out.mono HBW.out.size)⟩
    ·rw [HA.out,if_pos h] at he4
     obtain ⟨h0,h1,h2,h3,h4⟩ := h
     subst he4
     clear HA
     go_wp2_with fail
     go_ret
     exact ⟨rfl,HBW.out.trans (HB.out.mono HBW.out.size)⟩
   ·skip
    obtain ⟨F0,hF,hF0,hF1⟩ : ∃ x : Int,bits .and .i64 from_ 15 = x /\ 0 <= x /\ x <= 15 := ⟨from_ % 16,and15 from_,by omega,by omega⟩
    obtain ⟨F,hF2⟩ : ∃ x : Int,F0 - 1 = x := ⟨_,rfl⟩
    obtain ⟨T0,hT,hT0,hT1⟩ : ∃ x : Int,bits .and .i64 to_ 15 = x /\ 0 <= x /\ x <= 15 := ⟨to_ % 16,and15 to_,by omega,by omega⟩
    obtain ⟨T,hT2⟩ : ∃ x : Int,T0 - 1 = x := ⟨_,rfl⟩
    obtain ⟨A0,hA,hA0,hA1⟩ : ∃ x : Int,bits .and .i64 at_ 15 = x /\ 0 <= x /\ x <= 15 := ⟨at_ % 16,and15 at_,by omega,by omega⟩
    obtain ⟨A,hA2⟩ : ∃ x : Int,A0 - 1 = x := ⟨_,rfl⟩
    go_upto_region 11 with fail
    obtain ⟨yl,yc,yf⟩ := boxN HM.out
    have y8 := yc 8 _ rfl
    have yz8 := yf 8
    simp only [Nat.zero_add] at y8
    clear yc yf
    go_upto_region 12 with fail
    obtain ⟨w3,hw3⟩ : ∃ x,x = (wr.setCell ⟨w1.heap.size,8,none⟩ (.slice (some ⟨wr.heap.size,0,none⟩) 2 2)).alloc (.cells #[.int .i64 0,.int .i64 (nc : Int),.int .i64 ((nc : Int) - 1),.string ⟨#[70,97,117,108,116]⟩,.int .i64 F,.int .i64 T,.int .i64 A,.string ⟨#[70,97,117,108,116]⟩] 33) := ⟨_,rfl⟩
    rw [<- hw3]
    obtain ⟨p1,p2,p3,p4⟩ := box_put (cs' := #[.string ⟨#[]⟩,.slice none 0 0,.int .i64 0,.string ⟨#[]⟩,.bool true,.bool false,.int .i64 0,.slice pc nc cc,.slice (some ⟨wr.heap.size,0,none⟩) 2 2]) HM.out hw3 rfl
    replace HM := hid p1
    replace HRC := hid (HRC.out.kpt6 p3)
    have hrH := rdX_lits hndC_len (wr.setCell ⟨w1.heap.size,8,none⟩ (.slice (some ⟨wr.heap.size,0,none⟩) 2 2)) [((0 : Int),(nc : Int),(nc : Int) - 1,(⟨#[70,97,117,108,116]⟩ : ByteArray)),(F,T,A,⟨#[70,97,117,108,116]⟩)] #[.int .i64 0,.int .i64 (nc : Int),.int .i64 ((nc : Int) - 1),.string ⟨#[70,97,117,108,116]⟩,.int .i64 F,.int .i64 T,.int .i64 A,.string ⟨#[70,97,117,108,116]⟩] 33 rfl
    rw [show (wr.setCell ⟨w1.heap.size,8,none⟩ (.slice (some ⟨wr.heap.size,0,none⟩) 2 2)).heap.size = wr.heap.size by simp,<- hw3] at hrH
    have HH := hid hrH
    replace HB := hid (HB.out.trans (p3.below (fun x hx => by simp at hx; omega) (by omega)))
    have hs3 : w1.heap.size < w3.heap.size := by omega
    clear hw3 p1 p2 p3 p4 y8 yz8 yl hrH
    have HA := hid (hnd_ans nc hk0 F T A)
    obtain ⟨q0,q1,q2,q3,q4,q5,q6,q7,q8⟩ := z9 (boxN HM.out).2.1
    have ql := (boxN HM.out).1
    go_wp2_with fail
    refine (method_a _ _ _ _ _ _ _ _ _ _ _ _ _ _ _ [] (List.replicate nc iR) [((0 : Int),(nc : Int),(nc : Int) - 1,(⟨#[70,97,117,108,116]⟩ : ByteArray)),(F,T,A,⟨#[70,97,117,108,116]⟩)] anyB w3 rfl (by decide) (HRC.out.step (sP.grow _) (fun _ _ _ => trivial) (fun _ _ _ => rfl) (Nat.le_refl _)) HH.out (by omega) (by show (2 : Nat) <= 1000000; decide)).mono ?_
    rintro e4 w4 ⟨he4,hb4⟩
    replace HB := hid (HB.out.trans (hb4.mono HB.out.size))
    clear q0 q1 q2 q3 q4 q5 q6 q7 q8 ql hb4 HM HRC HH hs3
    rcases (by omega : (¬ 0 <= F) ∨ (0 <= F /\ ¬ F < T) ∨ (0 <= F /\ F < T /\ ¬ T <= (nc : Int)) ∨ (0 <= F /\ F < T /\ T <= (nc : Int) /\ ¬ 0 <= A) ∨ (0 <= F /\ F < T /\ T <= (nc : Int) /\ 0 <= A /\ ¬ A < (nc : Int)) ∨ (0 <= F /\ F < T /\ T <= (nc : Int) /\ 0 <= A /\ A < (nc : Int))) with h | h | h | h | h | h
    ·rw [HA.out,if_neg (by omega)] at he4
     subst he4
     clear HA
     go_wp2_with fail
     go_ret
     exact ⟨rfl,HBW.out.trans (HB.out.mono HBW.out.size)⟩
    ·rw [HA.out,if_neg (by omega)] at he4
     obtain ⟨h0,h1⟩ := h
     subst he4
     clear HA
     go_wp2_with fail
     go_ret
     exact ⟨rfl,HBW.out.trans (HB.out.mono HBW.out.size)⟩
    ·rw [HA.out,if_neg (by omega)] at he4
     obtain ⟨h0,h1,h2⟩ := h
     subst he4
     clear HA
     go_wp2_with fail
     go_ret
     exact ⟨rfl,HBW.out.trans (HB.out.mono HBW.out.size)⟩
    ·rw [HA.out,if_neg (by omega)] at he4
     obtain ⟨h0,h1,h2,h3⟩ := h
     subst he4
     clear HA
     go_wp2_with fail
     go_ret
     exact ⟨rfl,HBW.out.trans (HB.out.mono HBW.out.size)⟩
    ·rw [HA.out,if_neg (by omega)] at he4
     obtain ⟨h0,h1,h2,h3,h4⟩ := h
     subst he4
     clear HA
     go_wp2_with fail
     go_ret
     exact ⟨rfl,HBW.out.trans (HB.out.mono HBW.out.size)⟩
    ·rw [HA.out,if_pos h] at he4
     obtain ⟨h0,h1,h2,h3,h4⟩ := h
     subst he4
     clear HA
     go_wp2_with fail
     go_ret
     exact ⟨rfl,HBW.out.trans (HB.out.mono HBW.out.size)⟩
end Go.Proofs.YtofnbapnmhibaaaGreat.A
