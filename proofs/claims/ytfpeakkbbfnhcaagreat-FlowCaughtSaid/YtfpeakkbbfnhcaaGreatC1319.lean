/- Texts that the proof is made of, joined. No condition. -/
import Derived.Test.YtfpeakkbbfnhcaaGreatC1318
import Derived.Test.YtfpeakkbbfnhcaaGreatC1310
import Derived.Test.YtfpeakkbbfnhcaaGreatC131
import Derived.Deep.DeepCutAuto
import Derived.Deep.CutBlock
import Derived.Test.YtfpeakkbbfnhcaaGreatC13H
set_option linter.unusedVariables false
set_option linter.unusedSimpArgs false
set_option maxRecDepth 100000
set_option maxHeartbeats 16000000
namespace Go.Proofs.YtfpeakkbbfnhcaaGreat.A
open Go.RowKit Go.Proofs.YtfpeakkbbfnhcaaGreat.D Go.Proofs.YtfpeakkbbfnhcaaGreat.O
theorem below_dr6 (w : World) : Below w.heap.size w w.drew := (Below.refl _ _).drew
theorem method_ab (nm r1 : ByteArray) (r0 lo : Int) (st : Bool) (pp pc ph : Option Addr) (np cp nc cc nh ch : Nat) (ps : List Ty) (c : List Ins) (hs : List Hnd) (ok : Nat -> Prop) (w : World) 
  (hr : RdX 7 (sP insC) ok w (.slice pc nc cc) c) (hh : RdX 4 (sP hndC) ok w (.slice ph nh ch) hs) :
  Calls Tryz.prog 37 #[.agg #[.string nm,.slice pp np cp,.int .i64 r0,.string r1,.bool st,.bool true,.int .i64 lo,.slice pc nc cc,.slice ph nh ch]] w fun e w' => e = .returned (.tuple #[.int .i64 (mthA (⟨nm,ps,(r0,r1),st,true,lo,c,hs⟩ : Mth)).1,.int .i64 (mthA (⟨nm,ps,(r0,r1),st,true,lo,c,hs⟩ : Mth)).2]) /\ Below w.heap.size w w' := by
 have hnc : nc = c.length := by obtain ⟨p',c',e,-⟩ := hr.len; simp only [Value.slice.injEq] at e; exact e.2.1
 have hnh : nh = hs.length := by obtain ⟨p',c',e,-⟩ := hh.len; simp only [Value.slice.injEq] at e; exact e.2.1
 have HM : Hid (mthA (⟨nm,ps,(r0,r1),st,true,lo,c,hs⟩ : Mth) = if decide (0 < nc ∨ 0 < nh ∨ lo ≠ 0) = true then (-1,25) else (0,0)) := hid (by rw [mthA_ab rfl]; unfold runsB; rw [hnc,hnh])
 clear hnc hnh hr hh
 obtain ⟨d,hd⟩ : ∃ d,decide (0 < nc ∨ 0 < nh ∨ lo ≠ 0) = d := ⟨_,rfl⟩
 have HR : Hid (∀ w,Calls Tryz.prog 80 #[.agg #[.string nm,.slice pp np cp,.int .i64 r0,.string r1,.bool st,.bool true,.int .i64 lo,.slice pc nc cc,.slice ph nh ch]] w fun e w' => e = .returned (.bool d) /\ Below w.heap.size w w') := hid (fun w => by rw [<- hd]; exact runs_any _ _ _ _ _ _ _ _ _ _ _ _ _ _ _ w)
 rw [hd] at HM
 clear hd
 cases d
 all_goals
  go_enter Tryz.func37,Tryz.ntmps37
  go_wp2_with fail
  refine (HR.out _).mono ?_
  rintro e w1 ⟨rfl,hb1⟩
  have hxb := boxed (vs := [.string nm,.slice pp np cp,.int .i64 r0,.string r1,.bool st,.bool true,.int .i64 lo,.slice pc nc cc,.slice ph nh ch]) hb1
  obtain ⟨q0,q1,q2,q3,q4,q5,q6,q7,q8⟩ := z9 hxb.1
  have hbl := hxb.2.2
  have hxlt := hxb.2.1
  clear hxb hb1
  go_wp2_with fail
  go_ret2
  exact ⟨ret_two (by rw [HM.out]; rfl),hbl⟩
theorem method_run (nm r1 : ByteArray) (r0 lo : Int) (st : Bool) (pp pc ph : Option Addr) (np cp nc cc nh ch : Nat) (ps : List Ty) (c : List Ins) (hs : List Hnd) (ok : Nat -> Prop) (w : World) (hp : np = ps.length) (hp2 : np <= 1000000)
  (hr : RdX 7 (sP insC) ok w (.slice pc nc cc) c) (hh : RdX 4 (sP hndC) ok w (.slice ph nh ch) hs) (hc2 : nc <= 1000000) (hh2 : nh <= 1000000) :
  Calls Tryz.prog 37 #[.agg #[.string nm,.slice pp np cp,.int .i64 r0,.string r1,.bool st,.bool false,.int .i64 lo,.slice pc nc cc,.slice ph nh ch]] w fun e w' => e = .returned (.tuple #[.int .i64 (mthA (⟨nm,ps,(r0,r1),st,false,lo,c,hs⟩ : Mth)).1,.int .i64 (mthA (⟨nm,ps,(r0,r1),st,false,lo,c,hs⟩ : Mth)).2]) /\ Below w.heap.size w w' := by
 have hnc : nc = c.length := by obtain ⟨p',c',e,-⟩ := hr.len; simp only [Value.slice.injEq] at e; exact e.2.1
 have hnh : nh = hs.length := by obtain ⟨p',c',e,-⟩ := hh.len; simp only [Value.slice.injEq] at e; exact e.2.1
 obtain ⟨A,hA⟩ : ∃ A,(if st = true then (np : Int) else 1 + (np : Int)) = A := ⟨_,rfl⟩
 have HARG : Hid (∀ w,Calls Tryz.prog 81 #[.agg #[.string nm,.slice pp np cp,.int .i64 r0,.string r1,.bool st,.bool false,.int .i64 lo,.slice pc nc cc,.slice ph nh ch]] w fun e w' => e = .returned (.int .i64 A) /\ Below w.heap.size w w') := hid (fun w => by rw [<- hA]; exact args_any _ _ _ _ _ _ _ _ _ _ _ _ _ _ _ w hp2)
 have hAI : argsI (⟨nm,ps,(r0,r1),st,false,lo,c,hs⟩ : Mth) = A := by rw [<- hA]; unfold argsI; rw [hp]
 clear hA
 by_cases hn : c = []
 ·have HF : Hid (mthA (⟨nm,ps,(r0,r1),st,false,lo,c,hs⟩ : Mth) = (-1,25)) := hid (mthA_no rfl hn)
  obtain rfl : nc = 0 := by rw [hnc,hn]; rfl
  clear hnc hnh hr hh hp hn hAI hp2 HARG
  go_enter Tryz.func37,Tryz.ntmps37
  go_wp2_with fail
  go_ret2
  exact ⟨ret_two HF.out.symm,(Below.refl _ _).alloc (Nat.le_refl _) _⟩
 ·have hpos : 0 < nc := by have := List.length_pos_iff.2 hn; omega
  have hz : ¬ (nc : Int) = 0 := by omega
  by_cases hlo : lo < A
  ·have HF : Hid (mthA (⟨nm,ps,(r0,r1),st,false,lo,c,hs⟩ : Mth) = (-1,22)) := hid (mthA_few rfl hn (by rw [hAI]; exact hlo))
   clear hnc hnh hr hh hp hn hAI
   go_enter Tryz.func37,Tryz.ntmps37
   go_wp2_with fail
   go_region_law (rw [if_pos (by rfl)]; go_simp; go_at_call 81; refine (HARG.out _).mono ?_; rintro e w1 ⟨rfl,hb1⟩; have hxb := boxed (vs := [.string nm,.slice pp np cp,.int .i64 r0,.string r1,.bool st,.bool false,.int .i64 lo,.slice pc nc cc,.slice ph nh ch]) ((below_dr6 _).trans hb1); obtain ⟨q0,q1,q2,q3,q4,q5,q6,q7,q8⟩ := z9 hxb.1; have hbl := hxb.2.2; have hxlt := hxb.2.1; clear hb1)
   all_goals
    go_wp2_with fail
    go_ret2
    exact ⟨ret_two HF.out.symm,hbl⟩
  ·obtain ⟨⟨C1,C2⟩,hCA⟩ : ∃ C : Int × Int,codeA lo c = C := ⟨_,rfl⟩
   have HCOD : Hid (∀ w',Below w.heap.size w w' -> Calls Tryz.prog 82 #[.agg #[.string nm,.slice pp np cp,.int .i64 r0,.string r1,.bool st,.bool false,.int .i64 lo,.slice pc nc cc,.slice ph nh ch]] w' fun e w2 => e = .returned (.tuple #[.int .i64 C1,.int .i64 C2]) /\ Below w'.heap.size w' w2) := hid (fun w' hb => by
    have := code_any nm r1 r0 lo st false pp pc ph np cp nc cc nh ch c ok w' (hr.any (sP.grow _) hb) hn (by omega)
    rw [hCA] at this
    exact this)
   by_cases hC2 : C2 = 0
   ·have HMH : Hid (mthA (⟨nm,ps,(r0,r1),st,false,lo,c,hs⟩ : Mth) = if hs.all (standsB (nc : Int)) then (0,0) else (-1,28)) := hid (by rw [mthA_hs rfl hn (by rw [hAI]; exact hlo) (by show (codeA lo c).2 = 0; rw [hCA]; exact hC2),hnc])
    subst hC2
    have HHS := hid hh
    have HNH := hid hnh
    clear hnc hnh hr hh hp hn hAI hCA
    go_enter Tryz.func37,Tryz.ntmps37
    go_wp2_with fail
    go_region_law (rw [if_pos (by rfl)]; go_simp; go_at_call 81; refine (HARG.out _).mono ?_; rintro e w1 ⟨rfl,hb1⟩; have hxb := boxed (vs := [.string nm,.slice pp np cp,.int .i64 r0,.string r1,.bool st,.bool false,.int .i64 lo,.slice pc nc cc,.slice ph nh ch]) ((below_dr6 _).trans hb1); obtain ⟨q0,q1,q2,q3,q4,q5,q6,q7,q8⟩ := z9 hxb.1; have hbl := hxb.2.2; have hxlt := hxb.2.1; clear hb1)
    all_goals
     have hbd := hbl
     have HX2 : Hid (CellsAt w1 w.heap.size 0 [.string nm,.slice pp np cp,.int .i64 r0,.string r1,.bool st,.bool false,.int .i64 lo,.slice pc nc cc,.slice ph nh ch] /\ w.heap.size < w1.heap.size) := hid ⟨hxb.1,hxlt⟩
     clear hxb hbl
     go_wp2_with fail
     refine (HCOD.out _ hbd).mono ?_
     rintro e w3 ⟨rfl,hb3⟩
     have hB3 : Hid (Below w.heap.size w w3) := hid (hbd.trans (hb3.mono hbd.size))
     have HX3 : Hid (CellsAt w3 w.heap.size 0 [.string nm,.slice pp np cp,.int .i64 r0,.string r1,.bool st,.bool false,.int .i64 lo,.slice pc nc cc,.slice ph nh ch] /\ w.heap.size < w3.heap.size) := hid ⟨HX2.out.1.below hb3 hxlt,Nat.lt_of_lt_of_le hxlt hb3.size⟩
     clear HX2 hb3 hbd q0 q1 q2 q3 q4 q5 q6 q7 q8 hxlt
     obtain ⟨q0,q1,q2,q3,q4,q5,q6,q7,q8⟩ := z9 HX3.out.1
     have hxlt := HX3.out.2
     go_wp2_with fail
     by_cases hs0 : hs = []
     ·have HF : Hid (mthA (⟨nm,ps,(r0,r1),st,false,lo,c,hs⟩ : Mth) = (0,0)) := hid (by rw [HMH.out,hs0]; rfl)
      obtain rfl : nh = 0 := by rw [HNH.out,hs0]; rfl
      clear hs0
      go_loop [45] (fun i => i = .int .i64 0) (fun _ => 0)
      case atStart => exact rfl
      case round =>
       obtain rfl := hrel
       go_wp2_with fail
       go_ret2
       exact ⟨ret_two HF.out.symm,hB3.out⟩
     ·obtain ⟨b,off,rfl,-,-,hok,hlt,hc⟩ := HHS.out.place hs0
      have HC := hid hc
      clear hc q0 q1 q2 q3 q4 q5 q6 q7 q8 hxlt hs0
      go_loopw [45] (fun i wr => ∃ k : Nat,k <= nh /\ i = .int .i64 k /\ Hid (∀ j x,j < k -> hs[j]? = some x -> standsB (nc : Int) x = true) /\ Hid (Below w3.heap.size w3 wr)) (fun i _ => nh - (intOf i).toNat)
      case atStart => exact ⟨0,Nat.zero_le _,rfl,hid (fun j x h => absurd h (Nat.not_lt_zero _)),hid (Below.refl _ _)⟩
      case round =>
       obtain ⟨k,hk,rfl,HR,HBR⟩ := hrel
       have hbl := hB3.out.trans (HBR.out.mono hB3.out.size)
       obtain ⟨q0,q1,q2,q3,q4,q5,q6,q7,q8⟩ := z9 (HX3.out.1.below HBR.out HX3.out.2)
       have hxlt := Nat.lt_of_lt_of_le HX3.out.2 HBR.out.size
       have hsz := hbl.size
       by_cases hlt2 : k < nh
       ·obtain ⟨x,hx⟩ : ∃ x,hs[k]? = some x := ⟨_,List.getElem?_eq_getElem (by have := HNH.out; omega)⟩
        have hcl := (sP_at (HC.out k x hx)).below hbl hlt
        obtain ⟨s0,s1,s2,s3⟩ := x
        obtain ⟨hc0,hc1,hc2,hc3⟩ := CellsAt.four hcl
        have HX := hid hx
        clear hx hcl
        go_wp2_with fail
        refine (stands_any _ _ _ _ _ _).mono ?_
        rintro e w4 ⟨rfl,hb4⟩
        have hb4' : Hid (Below w3.heap.size w3 w4) := hid (HBR.out.trans ((Below.refl _ _).alloc (Nat.le_refl _) _ |>.trans (hb4.mono (by simp)) |>.mono HBR.out.size))
        cases hfx : standsB (nc : Int) (s0,s1,s2,s3) with
        | false =>
         have HF : Hid (mthA (⟨nm,ps,(r0,r1),st,false,lo,c,hs⟩ : Mth) = (-1,28)) := hid (by rw [HMH.out,all_some HX.out hfx]; rfl)
         have hB := hB3.out.trans (hb4'.out.mono hB3.out.size)
         go_wp2_with fail
         go_ret2
         exact ⟨ret_two HF.out.symm,hB⟩
        | true =>
         have HS : Hid (∀ j x,j < k + 1 -> hs[j]? = some x -> standsB (nc : Int) x = true) := hid (by
          intro j y hj hy
          by_cases ej : j = k
          ·subst ej
           rw [HX.out] at hy
           cases hy
           exact hfx
          ·exact HR.out j y (by omega) hy)
         go_wp2_with fail
         go_roundw
         case rel => exact ⟨k + 1,by omega,by go_num,HS,hb4'⟩
         case measure => simp [intOf]; omega
       ·have HF : Hid (mthA (⟨nm,ps,(r0,r1),st,false,lo,c,hs⟩ : Mth) = (0,0)) := hid (by rw [HMH.out,all_none (fun j x hx => HR.out j x (by have := (List.getElem?_eq_some_iff.1 hx).1; have := HNH.out; omega) hx)]; rfl)
        go_wp2_with fail
        go_ret2
        exact ⟨ret_two HF.out.symm,hbl⟩
   ·have HF : Hid (mthA (⟨nm,ps,(r0,r1),st,false,lo,c,hs⟩ : Mth) = (C1,C2)) := hid (by rw [mthA_code rfl hn (by rw [hAI]; exact hlo) (by show (codeA lo c).2 ≠ 0; rw [hCA]; exact hC2)]; exact hCA)
    clear hnc hnh hr hh hp hn hAI hCA
    go_enter Tryz.func37,Tryz.ntmps37
    go_wp2_with fail
    go_region_law (rw [if_pos (by rfl)]; go_simp; go_at_call 81; refine (HARG.out _).mono ?_; rintro e w1 ⟨rfl,hb1⟩; have hxb := boxed (vs := [.string nm,.slice pp np cp,.int .i64 r0,.string r1,.bool st,.bool false,.int .i64 lo,.slice pc nc cc,.slice ph nh ch]) ((below_dr6 _).trans hb1); obtain ⟨q0,q1,q2,q3,q4,q5,q6,q7,q8⟩ := z9 hxb.1; have hbl := hxb.2.2; have hxlt := hxb.2.1; clear hb1)
    all_goals
     have hbd := hbl
     go_wp2_with fail
     refine (HCOD.out _ hbd).mono ?_
     rintro e w3 ⟨rfl,hb3⟩
     have hB := hbd.trans (hb3.mono hbd.size)
     clear hb3 hxb q0 q1 q2 q3 q4 q5 q6 q7 q8 hxlt
     go_wp2_with fail
     go_ret2
     exact ⟨ret_two HF.out.symm,hB⟩
theorem method_a (nm r1 : ByteArray) (r0 lo : Int) (st ab : Bool) (pp pc ph : Option Addr) (np cp nc cc nh ch : Nat) (ps : List Ty) (c : List Ins) (hs : List Hnd) (ok : Nat -> Prop) (w : World) (hp : np = ps.length) (hp2 : np <= 1000000)
  (hr : RdX 7 (sP insC) ok w (.slice pc nc cc) c) (hh : RdX 4 (sP hndC) ok w (.slice ph nh ch) hs) (hc2 : nc <= 1000000) (hh2 : nh <= 1000000) :
  Calls Tryz.prog 37 #[.agg #[.string nm,.slice pp np cp,.int .i64 r0,.string r1,.bool st,.bool ab,.int .i64 lo,.slice pc nc cc,.slice ph nh ch]] w fun e w' => e = .returned (.tuple #[.int .i64 (mthA (⟨nm,ps,(r0,r1),st,ab,lo,c,hs⟩ : Mth)).1,.int .i64 (mthA (⟨nm,ps,(r0,r1),st,ab,lo,c,hs⟩ : Mth)).2]) /\ Below w.heap.size w w' := by
 cases ab
 ·exact method_run nm r1 r0 lo st pp pc ph np cp nc cc nh ch ps c hs ok w hp hp2 hr hh hc2 hh2
 ·exact method_ab nm r1 r0 lo st pp pc ph np cp nc cc nh ch ps c hs ok w hr hh
end Go.Proofs.YtfpeakkbbfnhcaaGreat.A
namespace Go.Proofs.YtfpeakkbbfnhcaaGreat.R
open Go.RowKit Go.Proofs.YtfpeakkbbfnhcaaGreat.D Go.Proofs.YtfpeakkbbfnhcaaGreat.O Go.Proofs.YtfpeakkbbfnhcaaGreat.A
def FewM (m : Mth) : Prop := m.params.length <= 1000000 /\ m.code.length <= 1000000 /\ m.hs.length <= 1000000
theorem when_all {α : Type} {P : α -> Prop} {b : Bool} {l : List α} (h : ∀ m ∈ l,P m) : ∀ m ∈ whenS b l,P m := fun m hm => by
 unfold whenS at hm
 split at hm
 ·exact h m hm
 ·cases hm
theorem app_all {α : Type} {P : α -> Prop} {a b : List α} (h : ∀ m ∈ a,P m) (k : ∀ m ∈ b,P m) : ∀ m ∈ a ++ b,P m := fun m hm => (List.mem_append.1 hm).elim (h m) (k m)
theorem one_all {α : Type} {P : α -> Prop} {a : α} {l : List α} (h : P a) (k : ∀ m ∈ l,P m) : ∀ m ∈ a :: l,P m := fun m hm => (List.mem_cons.1 hm).elim (fun e => e ▸ h) (k m)
theorem nil_all {α : Type} {P : α -> Prop} : ∀ m ∈ ([] : List α),P m := fun m hm => by cases hm
theorem when_len {α : Type} (b : Bool) (l : List α) : (whenS b l).length <= l.length := by unfold whenS; split <;> simp
theorem mth_few {n : ByteArray} {ps : List Ty} {r : Ty} {st : Bool} {lo : Int} {code : List Ins} (h : ps.length <= 100) (k : code.length <= 100) : FewM (mthS n ps r st lo code) := ⟨Nat.le_trans h (by decide),Nat.le_trans k (by decide),Nat.zero_le _⟩
theorem run_few (c : ByteArray) (n : Nat) : FewM (runS c n) := mth_few (by simp) (by split <;> (try split) <;> simp)
theorem abs_few : FewM absS := ⟨Nat.zero_le _,Nat.zero_le _,Nat.zero_le _⟩
theorem clinit_few (s : ByteArray) : FewM (clinitS s) := mth_few (by simp) (by simp)
theorem rev_all {b : Bool} {P : Cls -> Prop} {a : List Cls} (h : ∀ c ∈ a,P c) : ∀ c ∈ (fun a : Arch => if b then a.reverse else a) a,P c := fun c hc => by
 dsimp only at hc
 split at hc
 ·exact h c (List.mem_reverse.1 hc)
 ·exact h c hc
theorem few_cls {c : Cls} (h1 : c.ifaces.length <= 100) (h2 : c.fields.length <= 100) (h3 : c.methods.length <= 100) (h4 : ∀ m ∈ c.methods,FewM m) : FewC c := ⟨Nat.le_trans h1 (by decide),Nat.le_trans h2 (by decide),Nat.le_trans h3 (by decide),h4⟩
theorem util_few (k : Nat) : FewC (utilS k) := by
 refine few_cls (by simp [utilS]) (by simp [utilS]) ?_ ?_
 ·unfold utilS
  dsimp only
  rw [List.length_append]
  (repeat' split) <;> simp
 ·refine app_all ?_ (by split; exact one_all (clinit_few _) nil_all; exact nil_all)
  refine one_all (mth_few (by simp) (by simp)) (one_all (mth_few (by simp) (by simp)) (one_all (mth_few (by simp) (by simp)) (one_all (mth_few (by simp) (by simp)) (one_all (mth_few (by simp) (by simp)) (one_all (mth_few (by simp) (by simp)) (one_all (mth_few (by simp) (by simp)) (one_all (mth_few (by simp) (by split <;> simp)) (one_all (mth_few (by simp) (by simp)) nil_all))))))))
theorem len2 {α : Type} {a b : List α} {n m : Nat} (h : a.length <= n) (k : b.length <= m) : (a ++ b).length <= n + m := by rw [List.length_append]; omega
theorem seat_few (k0 k1 k2 k3 : Nat) : ∀ c ∈ archS k0 k1 k2 k3 [] [],FewC c := by
 unfold archS
 refine rev_all ?_
 refine app_all (app_all ?_ ?_) ?_
 ·refine one_all (few_cls (by simp [mainS]) (by simp [mainS]) (Nat.le_trans (len2 (n := 2) (by simp) (when_len _ _)) (by simp)) (app_all (one_all ⟨by simp,by simp [bodyS,bAdd,roundsS],by simp [bodyS,bAdd,roundsS]⟩ (one_all ⟨by simp,by simp [bodyS,bAdd,roundsS],by simp [bodyS,bAdd,roundsS]⟩ nil_all)) (when_all (one_all (clinit_few _) nil_all)))) ?_
  refine one_all (few_cls (by simp) (by simp) (by simp) (one_all abs_few nil_all)) ?_
  exact one_all (few_cls (by simp) (by simp) (Nat.le_trans (when_len _ _) (by simp)) (when_all (one_all abs_few nil_all))) nil_all
 ·unfold familyS
  refine one_all (few_cls (by simp) (by simp) (Nat.le_trans (len2 (n := 2) (m := 1) (len2 (n := 1) (m := 1) (by simp) (Nat.le_trans (when_len _ _) (by simp))) (Nat.le_trans (when_len _ _) (by simp))) (by simp)) (app_all (app_all (one_all (mth_few (by simp) (by simp)) nil_all) (when_all (one_all abs_few nil_all))) (when_all (one_all (clinit_few _) nil_all)))) ?_
  refine one_all (few_cls (by simp) (by simp) (Nat.le_trans (len2 (n := 1) (m := 1) (by simp) (Nat.le_trans (when_len _ _) (by simp))) (by simp)) (app_all (one_all (run_few _ _) nil_all) (when_all (one_all (clinit_few _) nil_all)))) ?_
  refine one_all (few_cls (by simp) (by simp) (Nat.le_trans (len2 (n := 1) (m := 1) (Nat.le_trans (when_len _ _) (by simp)) (Nat.le_trans (when_len _ _) (by simp))) (by simp)) (app_all (when_all (one_all (run_few _ _) nil_all)) (when_all (one_all (mth_few (by simp) (by simp)) nil_all)))) ?_
  refine one_all (few_cls (Nat.le_trans (when_len _ _) (by simp)) (by simp) (by simp) nil_all) ?_
  refine one_all (few_cls (by simp) (by simp) (Nat.le_trans (len2 (n := 2) (m := 1) (by simp) (Nat.le_trans (when_len _ _) (by simp))) (by simp)) (app_all (one_all (run_few _ _) (one_all (mth_few (by simp) (by simp)) nil_all)) (when_all (one_all (mth_few (by simp) (by simp)) nil_all)))) ?_
  exact one_all (few_cls (by simp) (by simp) (Nat.le_trans (len2 (n := 1) (m := 1) (by simp) (Nat.le_trans (when_len _ _) (by simp))) (by simp)) (app_all (one_all (run_few _ _) nil_all) (when_all (one_all (clinit_few _) nil_all)))) nil_all
 ·refine one_all (few_cls (by simp) (by simp) (by simp) nil_all) (one_all (few_cls (by simp) (by simp) (by simp) nil_all) (one_all (few_cls (by simp) (by simp) (by simp) (one_all (mth_few (by simp) (by simp)) nil_all)) (one_all (util_few k3) nil_all)))
theorem keep_few {l : List Cls} (h : ∀ c ∈ l,FewC c) : ∀ c ∈ keepL l,FewC c := fun c hc => h c (keepL_mem l c hc)
theorem sz_small {b : ByteArray} (h : b.size <= 1000) : b.size <= maxLen := Nat.le_trans h (by unfold maxLen; omega)
end Go.Proofs.YtfpeakkbbfnhcaaGreat.R
namespace Go.Proofs.YtfpeakkbbfnhcaaGreat.R
open Go.RowKit Go.Proofs.YtfpeakkbbfnhcaaGreat.D Go.Proofs.YtfpeakkbbfnhcaaGreat.O Go.Proofs.YtfpeakkbbfnhcaaGreat.A
theorem own_rdI {w : World} {B : Nat} {v : Value} {xs : List Int} {T : TypeId} (h : S.OwnC S.cI T w B v xs) : RdX 1 (sP intC) (fun b => B <= b) w v xs := by
 rcases h.cells with ⟨rfl,rfl⟩ | ⟨g,cap,cur,rfl,hb,hlt,_,h1,_,h3,_⟩
 ·exact RdX.nil _ _ _ _
 ·refine ⟨_,cap,rfl,h1,(fun e => by cases e),.inr ⟨g,0,rfl,hb,hlt,fun i x hx => ⟨_,rfl,fun j u hu => ?_⟩⟩⟩
  cases j with
  | zero =>
   simp only [intC,List.getElem?_cons_zero,Option.some.injEq] at hu
   subst hu
   have := h3 i x hx
   rwa [Nat.zero_add,Nat.mul_one,Nat.add_zero]
  | succ j => simp [intC] at hu
theorem isAt_w (nm r2 : ByteArray) (r1 lo : Int) (st ab : Bool) (pp pc ph : Option Addr) (np cp nc cc nh ch : Nat) (a : Int) (w : World) :
  Calls Tryz.prog 55 #[.agg #[.string nm,.slice pp np cp,.int .i64 r1,.string r2,.bool st,.bool ab,.int .i64 lo,.slice pc nc cc,.slice ph nh ch],.int .i64 a] w fun e w' => e = .returned (.bool (decide (0 <= a /\ a < (nc : Int)))) /\ Below w.heap.size w w' := by
 obtain ⟨wn,hwn⟩ : ∃ z,z = w.alloc (.cells #[.string nm,.slice pp np cp,.int .i64 r1,.string r2,.bool st,.bool ab,.int .i64 lo,.slice pc nc cc,.slice ph nh ch] 49) := ⟨_,rfl⟩
 have HB : Hid (Below w.heap.size w wn) := hid (by rw [hwn]; exact below_alR _ _)
 have HM : Hid (wn.heap[w.heap.size]? = some (.cells #[.string nm,.slice pp np cp,.int .i64 r1,.string r2,.bool st,.bool ab,.int .i64 lo,.slice pc nc cc,.slice ph nh ch] 49 (0,0))) := hid (by rw [hwn]; exact heap_alloc_new _ _)
 go_enter Tryz.func55,Tryz.ntmps55
 go_upto_region 1 with fail
 rw [<- hwn]
 clear hwn
 obtain ⟨g,hg⟩ : ∃ z,w.heap.size = z := ⟨_,rfl⟩
 rw [hg] at HM ⊢
 clear hg
 obtain ⟨zl,zc,zf⟩ := boxN HM.out
 have z7 := zc 7 _ rfl
 simp only [Nat.zero_add] at z7
 clear zc zf
 by_cases h0 : 0 <= a
 ·by_cases h1 : a < (nc : Int)
  ·go_wp2_with fail
   go_ret
   exact ⟨D.ret_bool (by simp [h0,h1]),HB.out⟩
  ·go_wp2_with fail
   go_ret
   exact ⟨D.ret_bool (by simp [h0,h1]),HB.out⟩
 ·go_wp2_with fail
  go_ret
  exact ⟨D.ret_bool (by simp; omega),HB.out⟩
theorem index_i (x : Int) (l : List Int) (p : Option Addr) (c : Nat) (ok : Nat -> Prop) (w : World) (hr : RdX 1 (sP intC) ok w (.slice p l.length c) l) (hl : l.length <= 1000000) :
  Calls Tryz.prog 114 #[.slice p l.length c,.int .i64 x] w fun e w' => (∃ r : Int,e = .returned (.int .i64 r) /\ decide (0 <= r) = S.hasB l x) /\ Below w.heap.size w w' := by
 have hcap : l.length <= c := by obtain ⟨_,_,e,h,_⟩ := hr; simp only [Value.slice.injEq] at e; rw [e.2.2]; exact h
 have HR := hid hr
 clear hr
 go_enter Tryz.func114,Tryz.ntmps114
 go_wp2_with fail
 go_loopw [8] (fun v wr => ∃ i : Nat,v = .int .i64 (i : Int) /\ i <= l.length /\ Hid (x ∉ l.take i) /\ wr = w) (fun v _ => l.length - (intOf v).toNat)
 case atStart => exact ⟨0,rfl,by omega,hid (by simp),rfl⟩
 case round =>
  obtain ⟨i,rfl,hi,HX,rfl⟩ := hrel
  by_cases hlt : i < l.length
  ·obtain ⟨y,hy⟩ : ∃ y,l[i]? = some y := ⟨_,List.getElem?_eq_getElem hlt⟩
   have hne : l ≠ [] := by rintro rfl; simp at hlt
   obtain ⟨b,off,rfl,-,-,hb,hbl,hcc⟩ := HR.out.place hne
   have hc : wr.cell? ⟨b,off + i,none⟩ = some (Value.int .i64 y) := by have h9 := sP_at (hcc i _ hy); have h8 := h9 0 _ rfl; simpa using h8
   have hlt' : (i : Int) < (l.length : Int) := by omega
   have i0 : (0 : Int) <= (i : Int) := by omega
   have HY := hid hy
   clear hy hcc
   by_cases hxy : x = y
   ·subst hxy
    go_wp2_with fail
    go_ret
    exact ⟨⟨_,rfl,by rw [S.hasB_in (List.mem_of_getElem? HY.out)]; exact decide_eq_true i0⟩,Below.refl _ _⟩
   ·have he : (x == y) = false := by simpa using hxy
    go_wp2_with fail
    go_roundw
    case rel => exact ⟨i + 1,by go_num,by omega,hid (by
     obtain ⟨hi',e⟩ := List.getElem?_eq_some_iff.1 HY.out
     rw [List.take_succ_eq_append_getElem hi',e,List.mem_append]
     simp only [List.mem_singleton,not_or]
     exact ⟨HX.out,hxy⟩),by first | rfl | trivial⟩
    case measure => simp [intOf]; omega
  ·have hlt' : ¬ (i : Int) < (l.length : Int) := by omega
   obtain rfl : i = l.length := by omega
   go_wp2_with fail
   go_ret
   have hx := HX.out
   rw [List.take_length] at hx
   exact ⟨⟨_,rfl,by rw [S.hasB_out hx]; decide⟩,Below.refl _ _⟩
theorem contains_i (x : Int) (l : List Int) (p : Option Addr) (c : Nat) (ok : Nat -> Prop) (w : World) (hr : RdX 1 (sP intC) ok w (.slice p l.length c) l) (hl : l.length <= 1000000) :
  Calls Tryz.prog 58 #[.slice p l.length c,.int .i64 x] w fun e w' => e = .returned (.bool (S.hasB l x)) /\ Below w.heap.size w w' := by
 go_enter Tryz.func58,Tryz.ntmps58
 go_wp2_with fail
 refine (index_i x l p c ok w hr hl).mono ?_
 rintro e w1 ⟨⟨r,rfl,hrr⟩,hb⟩
 have HB := hid hb
 have HRR := hid hrr
 clear hb hr hrr
 go_wp2_with fail
 go_ret
 exact ⟨D.ret_bool (by rw [<- HRR.out]),HB.out⟩
theorem hnds_next (H : List Hnd) (a : Int) (i : Nat) {y : Hnd} (hy : H[i]? = some y) : (((List.range (i + 1)).filter fun k => decide ((H.getD k noHnd).1 <= a /\ a < (H.getD k noHnd).2.1)).map fun (n : Nat) => (n : Int)) = (((List.range i).filter fun k => decide ((H.getD k noHnd).1 <= a /\ a < (H.getD k noHnd).2.1)).map fun (n : Nat) => (n : Int)) ++ (if y.1 <= a /\ a < y.2.1 then [(i : Int)] else []) := by
 have e : H.getD i noHnd = y := by rw [List.getD_eq_getElem?_getD,hy]; rfl
 rw [List.range_succ,List.filter_append,List.map_append]
 by_cases h : y.1 <= a /\ a < y.2.1
 ·rw [if_pos h,List.filter_cons_of_pos (by rw [e]; exact decide_eq_true h)]; rfl
 ·rw [if_neg h,List.filter_cons_of_neg (by rw [e]; simpa using h)]; rfl
theorem hnds_len (H : List Hnd) (a : Int) (i : Nat) : (((List.range i).filter fun k => decide ((H.getD k noHnd).1 <= a /\ a < (H.getD k noHnd).2.1)).map fun (n : Nat) => (n : Int)).length <= i := by
 rw [List.length_map]
 exact Nat.le_trans (List.length_filter_le _ _) (by simp)
theorem Handlers_w (m : Mth) (pp pc ph : Option Addr) (np cp nc cc nh ch : Nat) (a : Int) (w : World) (hc : RdX 7 (sP insC) anyB w (.slice pc nc cc) m.code) (hh : RdX 4 (sP hndC) anyB w (.slice ph nh ch) m.hs) (hz : m.code.length <= 1000 /\ m.hs.length <= 100) :
  Calls Tryz.prog 21 #[.agg #[.string m.name,.slice pp np cp,.int .i64 m.ret.1,.string m.ret.2,.bool m.st,.bool m.ab,.int .i64 m.locals,.slice pc nc cc,.slice ph nh ch],.int .i64 a] w fun e w' => ∃ p c,e = .returned (.slice p (hndsW m.code m.hs a).length c) /\ RdX 1 (sP intC) (fun b => w.heap.size <= b) w' (.slice p (hndsW m.code m.hs a).length c) (hndsW m.code m.hs a) /\ Below w.heap.size w w' := by
 have hnc : nc = m.code.length := by obtain ⟨p',c',e,-⟩ := hc.len; simp only [Value.slice.injEq] at e; exact e.2.1
 have hnh : nh = m.hs.length := by obtain ⟨p',c',e,-⟩ := hh.len; simp only [Value.slice.injEq] at e; exact e.2.1
 obtain ⟨R,hR⟩ : ∃ z,hndsW m.code m.hs a = z := ⟨_,rfl⟩
 rw [hR]
 have HR : Hid ((if 0 <= a /\ a < (nc : Int) then ((hndsN m.hs a).map fun (n : Nat) => (n : Int)) else []) = R) := hid (by rw [hnc]; exact hR)
 obtain ⟨H,hH⟩ : ∃ z,m.hs = z := ⟨_,rfl⟩
 rw [hH] at HR hh hnh hz
 have HH := hid hh
 have HN : Hid (nh = H.length /\ H.length <= 100) := hid ⟨hnh,hz.2⟩
 clear hR hh hc hnc hz hH hnh
 obtain ⟨wn,hwn⟩ : ∃ z,z = w.alloc (.cells #[.string m.name,.slice pp np cp,.int .i64 m.ret.1,.string m.ret.2,.bool m.st,.bool m.ab,.int .i64 m.locals,.slice pc nc cc,.slice ph nh ch] 49) := ⟨_,rfl⟩
 have HB : Hid (Below w.heap.size w wn) := hid (by rw [hwn]; exact below_alR _ _)
 have HM : Hid (wn.heap[w.heap.size]? = some (.cells #[.string m.name,.slice pp np cp,.int .i64 m.ret.1,.string m.ret.2,.bool m.st,.bool m.ab,.int .i64 m.locals,.slice pc nc cc,.slice ph nh ch] 49 (0,0))) := hid (by rw [hwn]; exact heap_alloc_new _ _)
 go_enter Tryz.func21,Tryz.ntmps21
 go_upto_region 1 with fail
 rw [<- hwn]
 clear hwn
 obtain ⟨g,hg⟩ : ∃ z,w.heap.size = z := ⟨_,rfl⟩
 rw [hg] at HM ⊢
 have HG := hid hg
 clear hg
 replace HH := hid (HH.out.any (sP.grow _) HB.out)
 obtain ⟨zl,zc,zf⟩ := boxN HM.out
 have z0 := zc 0 _ rfl
 have z1 := zc 1 _ rfl
 have z2 := zc 2 _ rfl
 have z3 := zc 3 _ rfl
 have z4 := zc 4 _ rfl
 have z5 := zc 5 _ rfl
 have z6 := zc 6 _ rfl
 have z7 := zc 7 _ rfl
 have z8 := zc 8 _ rfl
 simp only [Nat.zero_add] at z0 z1 z2 z3 z4 z5 z6 z7 z8
 clear zc zf
 go_wp2_with fail
 refine (isAt_w _ _ _ _ _ _ _ _ _ _ _ _ _ _ _ a wn).mono ?_
 rintro e w1 ⟨rfl,hbn⟩
 replace HM := hid (blk_b HM.out hbn)
 replace HH := hid (HH.out.any (sP.grow _) hbn)
 replace HB := hid (HB.out.trans (hbn.mono HB.out.size))
 clear hbn
 clear zl z0 z1 z2 z3 z4 z5 z6 z7 z8
 by_cases hin : 0 <= a /\ a < (nc : Int)
 ·rw [decide_eq_true hin]
  have HR2 : Hid (((hndsN H a).map fun (n : Nat) => (n : Int)) = R) := hid (by have h9 := HR.out; rw [if_pos hin] at h9; exact h9)
  clear HR hin
  obtain ⟨zl,zc,zf⟩ := boxN HM.out
  have z0 := zc 0 _ rfl
  have z1 := zc 1 _ rfl
  have z2 := zc 2 _ rfl
  have z3 := zc 3 _ rfl
  have z4 := zc 4 _ rfl
  have z5 := zc 5 _ rfl
  have z6 := zc 6 _ rfl
  have z7 := zc 7 _ rfl
  have z8 := zc 8 _ rfl
  simp only [Nat.zero_add] at z0 z1 z2 z3 z4 z5 z6 z7 z8
  clear zc zf
  go_wp2_with fail
  have HWS : Hid (w.heap.size <= w1.heap.size) := hid HB.out.size
  go_loopw [5,16] (fun v5 v16 wr => ∃ (i : Nat) (p : Option Addr) (c : Nat),v5 = .slice p (((List.range i).filter fun k => decide ((H.getD k noHnd).1 <= a /\ a < (H.getD k noHnd).2.1)).map fun (n : Nat) => (n : Int)).length c /\ v16 = .int .i64 (i : Int) /\ i <= nh /\ Hid (S.OwnC S.cI 3 wr w1.heap.size (.slice p (((List.range i).filter fun k => decide ((H.getD k noHnd).1 <= a /\ a < (H.getD k noHnd).2.1)).map fun (n : Nat) => (n : Int)).length c) (((List.range i).filter fun k => decide ((H.getD k noHnd).1 <= a /\ a < (H.getD k noHnd).2.1)).map fun (n : Nat) => (n : Int))) /\ Hid (Below w1.heap.size w1 wr)) (fun _ x _ => nh - (intOf x).toNat)
  case atStart => exact ⟨0,none,0,rfl,rfl,by omega,hid (S.OwnC.nil _ _),hid (Below.refl _ _)⟩
  case round =>
   obtain ⟨i,p,c,rfl,rfl,hi,HO,HBW⟩ := hrel
   obtain ⟨P,hP⟩ : ∃ z,(((List.range i).filter fun k => decide ((H.getD k noHnd).1 <= a /\ a < (H.getD k noHnd).2.1)).map fun (n : Nat) => (n : Int)) = z := ⟨_,rfl⟩
   rw [hP] at HO ⊢
   have HP := hid hP
   have HPL : Hid (P.length <= i) := hid (by rw [<- hP]; exact hnds_len H a i)
   clear hP
   by_cases hlt : i < nh
   ·have hlt' : (i : Int) < (nh : Int) := by omega
    have hnb : nh <= 100 := by have := HN.out; omega
    have i0 : (0 : Int) <= (i : Int) := by omega
    obtain ⟨y,hy⟩ : ∃ y,H[i]? = some y := ⟨_,List.getElem?_eq_getElem (by have := HN.out.1; omega)⟩
    have HNX := hid (hnds_next H a i hy)
    obtain ⟨b,off,rfl,-,-,-,hbl,hcc⟩ := (HH.out.any (sP.grow _) HBW.out).place (fun e => by rw [e] at hy; simp at hy)
    have hc4 := sP_at (hcc i y hy)
    have k0 := hc4 0 _ rfl
    have k1 := hc4 1 _ rfl
    have k2 := hc4 2 _ rfl
    have k3 := hc4 3 _ rfl
    simp only [Nat.add_zero] at k0
    clear hcc hc4 hy
    have HOa := hid ((HO.out.alloc (.cells #[.int .i64 y.1,.int .i64 y.2.1,.int .i64 y.2.2.1,.string y.2.2.2] 68)).alloc (.cells #[.int .i64 (i : Int)] 3))
    have HX := hid (S.rd_one (c := S.cI) (x := (i : Int)) (heap_alloc_new (wr.alloc (.cells #[.int .i64 y.1,.int .i64 y.2.1,.int .i64 y.2.2.1,.string y.2.2.2] 68)) (.cells #[.int .i64 (i : Int)] 3)) rfl)
    rw [World.size_alloc] at HX
    have hz7 := hid HBW.out.size
    by_cases h1 : y.1 <= a
    ·by_cases h2 : a < y.2.1
     ·go_wp2_with (at_builtin; refine S.wp_appC S.infI (fun _ => rfl) rfl _ _ rfl w1.heap.size _ P rfl HOa.out (fun _ => True) _ [(i : Int)] rfl HX.out (by have := HPL.out; have := HN.out; simp; omega) (by have := hz7.out; simp; omega) ?_)
      intro v8 w8 ho8 hg8 hl8
      obtain ⟨p8,n8,c8,rfl⟩ := ho8.slice
      have hn8 : n8 = (P ++ [(i : Int)]).length := by obtain ⟨_,_,e,-⟩ := (own_rdI ho8).len; simp only [Value.slice.injEq] at e; exact e.2.1
      subst hn8
      have k8 : S.Kpt (Value.slice p P.length c).ownBlock.toList wr w8 := ((S.Kpt.alloc _ wr (.cells #[.int .i64 y.1,.int .i64 y.2.1,.int .i64 y.2.2.1,.string y.2.2.2] 68)).trans (S.Kpt.alloc _ _ _) (fun y hy => .inl hy)).trans (.of_grown (S := (Value.slice p P.length c).ownBlock.toList) hg8 (fun g e => .inl (by rw [e]; simp))) (fun y hy => .inl hy)
      have HO8 := hid ho8
      have HB8 : Hid (Below w1.heap.size w1 w8) := hid (HBW.out.trans (k8.below (fun y hy => (HO.out.lt y (by simpa using hy)).1) HBW.out.size))
      clear ho8 hg8 hl8 k8 HOa HX
      go_wp2_with fail
      go_roundw
      case rel =>
       have e9 : (((List.range (i + 1)).filter fun k => decide ((H.getD k noHnd).1 <= a /\ a < (H.getD k noHnd).2.1)).map fun (n : Nat) => (n : Int)) = P ++ [(i : Int)] := by rw [HNX.out,HP.out,if_pos ⟨h1,h2⟩]
       exact ⟨i + 1,p8,c8,by rw [e9],by go_num,by omega,by rw [e9]; exact HO8,HB8⟩
      case measure => simp [intOf]; omega
     ·clear HOa HX
      go_wp2_with fail
      go_roundw
      case rel =>
       have e9 : (((List.range (i + 1)).filter fun k => decide ((H.getD k noHnd).1 <= a /\ a < (H.getD k noHnd).2.1)).map fun (n : Nat) => (n : Int)) = P := by rw [HNX.out,HP.out,if_neg (fun h => h2 h.2),List.append_nil]
       exact ⟨i + 1,p,c,by rw [e9],by go_num,by omega,by rw [e9]; exact hid (HO.out.alloc _),hid (HBW.out.trans ((below_alR wr _).mono HBW.out.size))⟩
      case measure => simp [intOf]; omega
    ·clear HOa HX
     go_wp2_with fail
     go_roundw
     case rel =>
      have e9 : (((List.range (i + 1)).filter fun k => decide ((H.getD k noHnd).1 <= a /\ a < (H.getD k noHnd).2.1)).map fun (n : Nat) => (n : Int)) = P := by rw [HNX.out,HP.out,if_neg (fun h => h1 h.1),List.append_nil]
      exact ⟨i + 1,p,c,by rw [e9],by go_num,by omega,by rw [e9]; exact hid (HO.out.alloc _),hid (HBW.out.trans ((below_alR wr _).mono HBW.out.size))⟩
     case measure => simp [intOf]; omega
   ·have hlt' : ¬ (i : Int) < (nh : Int) := by omega
    obtain rfl : i = nh := by omega
    have e9 : P = R := by rw [<- HP.out,<- HR2.out,HN.out.1]; rfl
    subst e9
    go_wp2_with fail
    go_ret
    exact ⟨p,c,rfl,(own_rdI HO.out).step (sP.grow _) (fun b hb _ => Nat.le_trans HWS.out hb) (fun _ _ _ => rfl) (Nat.le_refl _),HB.out.trans (HBW.out.mono HWS.out)⟩
 ·rw [decide_eq_false hin]
  obtain rfl : [] = R := by have h9 := HR.out; rw [if_neg hin] at h9; exact h9
  go_wp2_with fail
  go_ret
  exact ⟨none,0,rfl,RdX.nil _ _ _ _,HB.out⟩
theorem Next_w (m : Mth) (pp pc ph : Option Addr) (np cp nc cc nh ch : Nat) (a : Int) (w : World) (hc : RdX 7 (sP insC) anyB w (.slice pc nc cc) m.code) (hz : m.code.length <= 1000) :
  Calls Tryz.prog 19 #[.agg #[.string m.name,.slice pp np cp,.int .i64 m.ret.1,.string m.ret.2,.bool m.st,.bool m.ab,.int .i64 m.locals,.slice pc nc cc,.slice ph nh ch],.int .i64 a] w fun e w' => ∃ p c,e = .returned (.slice p (nextW m.code a).length c) /\ RdX 1 (sP intC) (fun b => w.heap.size <= b) w' (.slice p (nextW m.code a).length c) (nextW m.code a) /\ Below w.heap.size w w' := by
 have hnc : nc = m.code.length := by obtain ⟨p',c',e,-⟩ := hc.len; simp only [Value.slice.injEq] at e; exact e.2.1
 obtain ⟨R,hR⟩ : ∃ z,nextW m.code a = z := ⟨_,rfl⟩
 rw [hR]
 obtain ⟨C,hC⟩ : ∃ z,m.code = z := ⟨_,rfl⟩
 have HR : Hid ((if 0 <= a /\ a < (nc : Int) then nextI (C.getD a.toNat noIns) a else []) = R) := hid (by rw [hnc,<- hC]; exact hR)
 rw [hC] at hc hnc hz
 have HC := hid hc
 have HN : Hid (nc = C.length /\ C.length <= 1000) := hid ⟨hnc,hz⟩
 clear hR hc hz hC hnc
 obtain ⟨wn,hwn⟩ : ∃ z,z = w.alloc (.cells #[.string m.name,.slice pp np cp,.int .i64 m.ret.1,.string m.ret.2,.bool m.st,.bool m.ab,.int .i64 m.locals,.slice pc nc cc,.slice ph nh ch] 49) := ⟨_,rfl⟩
 have HB : Hid (Below w.heap.size w wn) := hid (by rw [hwn]; exact below_alR _ _)
 have HM : Hid (wn.heap[w.heap.size]? = some (.cells #[.string m.name,.slice pp np cp,.int .i64 m.ret.1,.string m.ret.2,.bool m.st,.bool m.ab,.int .i64 m.locals,.slice pc nc cc,.slice ph nh ch] 49 (0,0))) := hid (by rw [hwn]; exact heap_alloc_new _ _)
 go_enter Tryz.func19,Tryz.ntmps19
 go_upto_region 2 with fail
 rw [<- hwn]
 clear hwn
 obtain ⟨g,hg⟩ : ∃ z,w.heap.size = z := ⟨_,rfl⟩
 rw [hg] at HM ⊢
 have HG := hid hg
 clear hg
 obtain ⟨v5,hv5⟩ : ∃ z,z = Value.slice none 0 0 := ⟨_,rfl⟩
 rw [<- hv5]
 have HV5 := hid hv5
 clear hv5
 replace HC := hid (HC.out.any (sP.grow _) HB.out)
 obtain ⟨zl,zc,zf⟩ := boxN HM.out
 have z0 := zc 0 _ rfl
 have z1 := zc 1 _ rfl
 have z2 := zc 2 _ rfl
 have z3 := zc 3 _ rfl
 have z4 := zc 4 _ rfl
 have z5 := zc 5 _ rfl
 have z6 := zc 6 _ rfl
 have z7 := zc 7 _ rfl
 have z8 := zc 8 _ rfl
 simp only [Nat.zero_add] at z0 z1 z2 z3 z4 z5 z6 z7 z8
 clear zc zf
 go_wp2_with fail
 refine (isAt_w _ _ _ _ _ _ _ _ _ _ _ _ _ _ _ a wn).mono ?_
 rintro e w1 ⟨rfl,hbn⟩
 replace HM := hid (blk_b HM.out hbn)
 replace HC := hid (HC.out.any (sP.grow _) hbn)
 replace HB := hid (HB.out.trans (hbn.mono HB.out.size))
 clear hbn
 clear zl z0 z1 z2 z3 z4 z5 z6 z7 z8
 by_cases hin : 0 <= a /\ a < (nc : Int)
 ·rw [decide_eq_true hin]
  obtain ⟨k,rfl⟩ : ∃ k : Nat,a = (k : Int) := ⟨a.toNat,by omega⟩
  have k0 : (0 : Int) <= (k : Int) := by omega
  have k1 : (k : Int) < (nc : Int) := hin.2
  have k2 : (k : Int).toNat = k := by omega
  obtain ⟨x,hx⟩ : ∃ x,C[k]? = some x := ⟨_,List.getElem?_eq_getElem (by have := HN.out.1; omega)⟩
  have HR2 : Hid (nextI x (k : Int) = R) := hid (by have h9 := HR.out; rw [if_pos hin,k2,List.getD_eq_getElem?_getD,hx] at h9; exact h9)
  have hw1 : IntKind.i64.wrap ((k : Int) + 1) = (k : Int) + 1 := w64 (by omega) (by have := HN.out; omega)
  obtain ⟨b,off,rfl,-,-,-,hbl,hcc⟩ := HC.out.place (fun e => by rw [e] at hx; simp at hx)
  have hc7 := sP_at (hcc k x hx)
  have c0 := hc7 0 _ rfl
  have c1 := hc7 1 _ rfl
  have c2 := hc7 2 _ rfl
  have c3 := hc7 3 _ rfl
  have c4 := hc7 4 _ rfl
  have c5 := hc7 5 _ rfl
  have c6 := hc7 6 _ rfl
  simp only [Nat.add_zero] at c0
  clear hcc hc7 hx HR hin
  obtain ⟨zl,zc,zf⟩ := boxN HM.out
  have z0 := zc 0 _ rfl
  have z1 := zc 1 _ rfl
  have z2 := zc 2 _ rfl
  have z3 := zc 3 _ rfl
  have z4 := zc 4 _ rfl
  have z5 := zc 5 _ rfl
  have z6 := zc 6 _ rfl
  have z7 := zc 7 _ rfl
  have z8 := zc 8 _ rfl
  simp only [Nat.zero_add] at z0 z1 z2 z3 z4 z5 z6 z7 z8
  clear zc zf
  go_upto_region 5 with fail
  obtain ⟨w2,hw2⟩ : ∃ z,z = w1.alloc (.cells #[.int .i64 x.1,.int .i32 x.2.1,.int .i64 x.2.2.1,.string x.2.2.2.1,.string x.2.2.2.2.1,.string x.2.2.2.2.2.1,.string x.2.2.2.2.2.2] 59) := ⟨_,rfl⟩
  have HI : Hid (w2.heap[w1.heap.size]? = some (.cells #[.int .i64 x.1,.int .i32 x.2.1,.int .i64 x.2.2.1,.string x.2.2.2.1,.string x.2.2.2.2.1,.string x.2.2.2.2.2.1,.string x.2.2.2.2.2.2] 59 (0,0))) := hid (by rw [hw2]; exact heap_alloc_new _ _)
  have HWS : Hid (w.heap.size <= w2.heap.size) := hid (by have := HB.out.size; rw [hw2]; simp; omega)
  replace HB : Hid (Below w.heap.size w w2) := hid (by rw [hw2]; exact HB.out.trans ((below_alR w1 _).mono HB.out.size))
  rw [<- hw2]
  obtain ⟨gi,hgi⟩ : ∃ z,w1.heap.size = z := ⟨_,rfl⟩
  rw [hgi] at HI ⊢
  clear hw2 hgi c0 c1 c2 c3 c4 c5 c6 hbl
  clear zl z0 z1 z2 z3 z4 z5 z6 z7 z8
  obtain ⟨he,hhe⟩ : ∃ z,endsB x.1 = z := ⟨_,rfl⟩
  obtain ⟨hj,hhj⟩ : ∃ z,jumpsB x.1 = z := ⟨_,rfl⟩
  have HE := hid hhe
  have HJ := hid hhj
  clear hhe hhj
  obtain ⟨L0,hL0⟩ : ∃ z,(if he then [] else [(k : Int) + 1]) = z := ⟨_,rfl⟩
  have HL0 := hid hL0
  clear hL0
  have HLN : Hid (L0.length <= 1) := hid (by rw [<- HL0.out]; split <;> simp)
  have HR3 : Hid (L0 ++ (if hj = true /\ x.2.2.1 ∉ L0 then [x.2.2.1] else []) = R) := hid (by rw [<- HR2.out,<- HL0.out]; unfold nextI; rw [HE.out,HJ.out]; cases he <;> cases hj <;> simp)
  clear HR2
  obtain ⟨ul,uc,uf⟩ := boxN HI.out
  have u0 := uc 0 _ rfl
  have u1 := uc 1 _ rfl
  have u2 := uc 2 _ rfl
  have u3 := uc 3 _ rfl
  have u4 := uc 4 _ rfl
  have u5 := uc 5 _ rfl
  have u6 := uc 6 _ rfl
  simp only [Nat.zero_add] at u0 u1 u2 u3 u4 u5 u6
  clear uc uf
  go_upto_if 20 with (first | (go_at_call 56; refine (ends_any _ _).mono ?_; rw [HE.out]; rintro e w' ⟨rfl,rfl⟩))
  clear ul u0 u1 u2 u3 u4 u5 u6
  go_cut [5] from 21 to 26 (fun s5 wx => Hid (S.OwnC S.cI 3 wx w2.heap.size s5 L0) /\ Hid (Below w2.heap.size w2 wx))
  case first =>
   cases he with
   | true =>
    obtain rfl : [] = L0 := HL0.out
    go_wp2_with fail
    go_meet
    case rel => exact ⟨hid (by rw [HV5.out]; exact S.OwnC.nil _ _),hid (Below.refl _ _)⟩
   | false =>
    obtain rfl : [(k : Int) + 1] = L0 := HL0.out
    have HOa : Hid (S.OwnC S.cI 3 (w2.alloc (.cells #[.int .i64 ((k : Int) + 1)] 3)) w2.heap.size v5 []) := hid (by rw [HV5.out]; exact S.OwnC.nil _ _)
    have HX := hid (S.rd_one (c := S.cI) (x := ((k : Int) + 1)) (heap_alloc_new w2 (.cells #[.int .i64 ((k : Int) + 1)] 3)) rfl)
    have HKX := hid (S.Kpt.alloc [] w2 (.cells #[.int .i64 ((k : Int) + 1)] 3))
    go_wp2_with (at_builtin; refine S.wp_appC S.infI (fun _ => rfl) rfl _ _ rfl w2.heap.size _ [] rfl HOa.out (fun _ => True) _ [((k : Int) + 1)] rfl HX.out (by simp) (by simp) ?_)
    intro v3 w3 ho hg hl
    have HO3 := hid ho
    have HB3 : Hid (Below w2.heap.size w2 w3) := hid ((HKX.out.trans (.of_grown (S := []) hg (fun g e => by rw [HV5.out] at e; cases e)) (fun y hy => .inl hy)).below (fun x hx => by cases hx) (Nat.le_refl _))
    clear ho hg hl HOa HX HKX
    go_wp2_with fail
    go_meet
    case rel => exact ⟨HO3,HB3⟩
  case rest =>
   obtain ⟨HO3,HB3⟩ := hcut
   obtain ⟨p3,n3,c3,rfl⟩ := HO3.out.slice
   have hn3 : n3 = L0.length := by obtain ⟨_,_,e,-⟩ := (own_rdI HO3.out).len; simp only [Value.slice.injEq] at e; exact e.2.1
   subst hn3
   have HI3 := hid (blk_b HI.out HB3.out)
   replace HB := hid (HB.out.trans (HB3.out.mono HWS.out))
   have HZ : Hid (w2.heap.size <= wc.heap.size) := hid HB3.out.size
   clear HB3 HI HL0
   cases hj with
   | false =>
    obtain rfl : L0 = R := by have h9 := HR3.out; simpa using h9
    obtain ⟨ul,uc,uf⟩ := boxN HI3.out
    have u0 := uc 0 _ rfl
    have u1 := uc 1 _ rfl
    have u2 := uc 2 _ rfl
    have u3 := uc 3 _ rfl
    have u4 := uc 4 _ rfl
    have u5 := uc 5 _ rfl
    have u6 := uc 6 _ rfl
    simp only [Nat.zero_add] at u0 u1 u2 u3 u4 u5 u6
    clear uc uf
    go_wp2_with (first | (go_at_call 57; refine (jumps_any _ _).mono ?_; rw [HJ.out]; rintro e w' ⟨rfl,rfl⟩))
    go_ret
    exact ⟨_,_,rfl,(own_rdI HO3.out).step (sP.grow _) (fun b hb _ => Nat.le_trans HWS.out hb) (fun _ _ _ => rfl) (Nat.le_refl _),HB.out⟩
   | true =>
    obtain ⟨ul,uc,uf⟩ := boxN HI3.out
    have u0 := uc 0 _ rfl
    have u1 := uc 1 _ rfl
    have u2 := uc 2 _ rfl
    have u3 := uc 3 _ rfl
    have u4 := uc 4 _ rfl
    have u5 := uc 5 _ rfl
    have u6 := uc 6 _ rfl
    simp only [Nat.zero_add] at u0 u1 u2 u3 u4 u5 u6
    clear uc uf
    go_wp2_with (first | (go_at_call 57; refine (jumps_any _ _).mono ?_; rw [HJ.out]; rintro e w' ⟨rfl,rfl⟩))
    refine (contains_i x.2.2.1 L0 p3 c3 _ wc (own_rdI HO3.out) (by have := HLN.out; omega)).mono ?_
    rintro e w4 ⟨rfl,hbn⟩
    have HO4 : Hid (S.OwnC S.cI 3 w4 w2.heap.size (.slice p3 L0.length c3) L0) := hid (HO3.out.kpt (.of_below (S := []) hbn) (by simp))
    replace HI3 := hid (blk_b HI3.out hbn)
    replace HZ : Hid (w2.heap.size <= w4.heap.size) := hid (Nat.le_trans HZ.out hbn.size)
    replace HB := hid (HB.out.trans (hbn.mono HB.out.size))
    clear hbn HO3
    clear ul u0 u1 u2 u3 u4 u5 u6
    by_cases hk : x.2.2.1 ∈ L0
    ·rw [S.hasB_in hk]
     obtain rfl : L0 = R := by have h9 := HR3.out; rw [if_neg (by simp [hk])] at h9; simpa using h9
     clear hk
     go_wp2_with fail
     go_ret
     exact ⟨_,_,rfl,(own_rdI HO4.out).step (sP.grow _) (fun b hb _ => Nat.le_trans HWS.out hb) (fun _ _ _ => rfl) (Nat.le_refl _),HB.out⟩
    ·rw [S.hasB_out hk]
     obtain rfl : L0 ++ [x.2.2.1] = R := by have h9 := HR3.out; rw [if_pos (by simp [hk])] at h9; exact h9
     clear hk HR3
     have HOa := hid (HO4.out.alloc (.cells #[.int .i64 x.2.2.1] 3))
     have HX := hid (S.rd_one (c := S.cI) (x := x.2.2.1) (heap_alloc_new w4 (.cells #[.int .i64 x.2.2.1] 3)) rfl)
     have HKX := hid (S.Kpt.alloc (Value.slice p3 L0.length c3).ownBlock.toList w4 (.cells #[.int .i64 x.2.2.1] 3))
     obtain ⟨ul,uc,uf⟩ := boxN HI3.out
     have u0 := uc 0 _ rfl
     have u1 := uc 1 _ rfl
     have u2 := uc 2 _ rfl
     have u3 := uc 3 _ rfl
     have u4 := uc 4 _ rfl
     have u5 := uc 5 _ rfl
     have u6 := uc 6 _ rfl
     simp only [Nat.zero_add] at u0 u1 u2 u3 u4 u5 u6
     clear uc uf
     go_wp2_with (at_builtin; refine S.wp_appC S.infI (fun _ => rfl) rfl _ _ rfl w2.heap.size _ L0 rfl HOa.out (fun _ => True) _ [x.2.2.1] rfl HX.out (by have := HLN.out; simp; omega) (by have := HZ.out; simp; omega) ?_)
     intro v5 w5 ho hg hl
     obtain ⟨p5,n5,c5,rfl⟩ := ho.slice
     have hn5 : n5 = (L0 ++ [x.2.2.1]).length := by obtain ⟨_,_,e,-⟩ := (own_rdI ho).len; simp only [Value.slice.injEq] at e; exact e.2.1
     subst hn5
     have HO5 := hid ho
     replace HB : Hid (Below w.heap.size w w5) := hid (HB.out.trans ((HKX.out.trans (.of_grown (S := (Value.slice p3 L0.length c3).ownBlock.toList) hg (fun g e => .inl (by rw [e]; simp))) (fun y hy => .inl hy)).below (fun y hy => Nat.le_trans HWS.out (HO4.out.lt y (by simpa using hy)).1) HB.out.size))
     clear ho hg hl HOa HX HKX HO4
     clear ul u0 u1 u2 u3 u4 u5 u6
     go_wp2_with fail
     go_ret
     exact ⟨_,_,rfl,(own_rdI HO5.out).step (sP.grow _) (fun b hb _ => Nat.le_trans HWS.out hb) (fun _ _ _ => rfl) (Nat.le_refl _),HB.out⟩
 ·rw [decide_eq_false hin]
  obtain rfl : [] = R := by have h9 := HR.out; rw [if_neg hin] at h9; exact h9
  go_wp2_with fail
  go_ret
  exact ⟨none,0,by rw [HV5.out]; rfl,RdX.nil _ _ _ _,HB.out⟩
theorem badH_drop (T : List Sk) {H : List Hnd} {i : Nat} {y : Hnd} (hy : H[i]? = some y) : badH T (H.drop i) = if knownT T y.2.2.2 = false then 32 else if subT T y.2.2.2 fltT = false then 29 else badH T (H.drop (i + 1)) := by
 obtain ⟨hi,e⟩ := List.getElem?_eq_some_iff.1 hy
 rw [List.drop_eq_getElem_cons hi,e]
 rfl
theorem wrongCatch_w (ok : Nat -> Prop) (tb mb : Nat) (vs : Value) (K : List Cls) (m : Mth) (pp pc ph : Option Addr) (np cp nc cc nh ch : Nat) (w : World) (h : TrW w ok tb mb vs K) (hh : RdX 4 (sP hndC) anyB w (.slice ph nh ch) m.hs) (hz : m.hs.length <= 100 /\ ∀ x ∈ m.hs,x.2.2.2.size <= 1000) :
  Calls Tryz.prog 38 #[.pointer (some ⟨tb,0,none⟩),.agg #[.string m.name,.slice pp np cp,.int .i64 m.ret.1,.string m.ret.2,.bool m.st,.bool m.ab,.int .i64 m.locals,.slice pc nc cc,.slice ph nh ch]] w fun e w' => e = .returned (.int .i64 (badH (K.map skOf) m.hs)) /\ Below w.heap.size w w' := by
 have hnh : nh = m.hs.length := by obtain ⟨p',c',e,-⟩ := hh.len; simp only [Value.slice.injEq] at e; exact e.2.1
 obtain ⟨H,hH⟩ : ∃ z,m.hs = z := ⟨_,rfl⟩
 obtain ⟨T,hT⟩ : ∃ z,K.map skOf = z := ⟨_,rfl⟩
 obtain ⟨R,hR⟩ : ∃ z,badH T H = z := ⟨_,rfl⟩
 rw [hH] at hh hnh hz ⊢
 rw [hT,hR]
 have HR := hid hR
 have HTT := hid hT
 have HH := hid hh
 have HT := hid h
 have HN : Hid (nh = H.length /\ H.length <= 100) := hid ⟨hnh,hz.1⟩
 have HS := hid hz.2
 clear hR hh hH hnh hz h hT
 obtain ⟨wn,hwn⟩ : ∃ z,z = w.alloc (.cells #[.string m.name,.slice pp np cp,.int .i64 m.ret.1,.string m.ret.2,.bool m.st,.bool m.ab,.int .i64 m.locals,.slice pc nc cc,.slice ph nh ch] 49) := ⟨_,rfl⟩
 have HB : Hid (Below w.heap.size w wn) := hid (by rw [hwn]; exact below_alR _ _)
 have HM : Hid (wn.heap[w.heap.size]? = some (.cells #[.string m.name,.slice pp np cp,.int .i64 m.ret.1,.string m.ret.2,.bool m.st,.bool m.ab,.int .i64 m.locals,.slice pc nc cc,.slice ph nh ch] 49 (0,0))) := hid (by rw [hwn]; exact heap_alloc_new _ _)
 go_enter Tryz.func38,Tryz.ntmps38
 go_upto_region 1 with fail
 rw [<- hwn]
 clear hwn
 obtain ⟨g,hg⟩ : ∃ z,w.heap.size = z := ⟨_,rfl⟩
 rw [hg] at HM ⊢
 have HG := hid hg
 clear hg
 replace HH := hid (HH.out.any (sP.grow _) HB.out)
 replace HT := hid (HT.out.below HB.out)
 obtain ⟨zl,zc,zf⟩ := boxN HM.out
 have z0 := zc 0 _ rfl
 have z1 := zc 1 _ rfl
 have z2 := zc 2 _ rfl
 have z3 := zc 3 _ rfl
 have z4 := zc 4 _ rfl
 have z5 := zc 5 _ rfl
 have z6 := zc 6 _ rfl
 have z7 := zc 7 _ rfl
 have z8 := zc 8 _ rfl
 simp only [Nat.zero_add] at z0 z1 z2 z3 z4 z5 z6 z7 z8
 clear zc zf
 go_wp2_with fail
 go_loopw [10] (fun v10 wr => ∃ i : Nat,v10 = .int .i64 (i : Int) /\ i <= nh /\ Hid (badH T (H.drop i) = R) /\ Hid (Below wn.heap.size wn wr)) (fun x _ => nh - (intOf x).toNat)
 case atStart => exact ⟨0,rfl,by omega,hid (by rw [List.drop_zero]; exact HR.out),hid (Below.refl _ _)⟩
 case round =>
  obtain ⟨i,rfl,hi,HD,HBW⟩ := hrel
  by_cases hlt : i < nh
  ·have hlt' : (i : Int) < (nh : Int) := by omega
   have hnb : nh <= 100 := by have := HN.out; omega
   have i0 : (0 : Int) <= (i : Int) := by omega
   obtain ⟨y,hy⟩ : ∃ y,H[i]? = some y := ⟨_,List.getElem?_eq_getElem (by have := HN.out.1; omega)⟩
   have hsz : y.2.2.2.size <= maxLen := sz_small (HS.out y (List.mem_of_getElem? hy))
   have HNX := hid (badH_drop T hy)
   obtain ⟨b,off,rfl,-,-,-,hbl,hcc⟩ := (HH.out.any (sP.grow _) HBW.out).place (fun e => by rw [e] at hy; simp at hy)
   have hc4 := sP_at (hcc i y hy)
   have k0 := hc4 0 _ rfl
   have k1 := hc4 1 _ rfl
   have k2 := hc4 2 _ rfl
   have k3 := hc4 3 _ rfl
   simp only [Nat.add_zero] at k0
   clear hcc hc4 hy
   go_upto_region 4 with fail
   obtain ⟨w2,hw2⟩ : ∃ z,z = wr.alloc (.cells #[.int .i64 y.1,.int .i64 y.2.1,.int .i64 y.2.2.1,.string y.2.2.2] 68) := ⟨_,rfl⟩
   have HI : Hid (w2.heap[wr.heap.size]? = some (.cells #[.int .i64 y.1,.int .i64 y.2.1,.int .i64 y.2.2.1,.string y.2.2.2] 68 (0,0))) := hid (by rw [hw2]; exact heap_alloc_new _ _)
   have HB2 : Hid (Below wn.heap.size wn w2) := hid (by rw [hw2]; exact HBW.out.trans ((below_alR wr _).mono HBW.out.size))
   rw [<- hw2]
   obtain ⟨gi,hgi⟩ : ∃ z,wr.heap.size = z := ⟨_,rfl⟩
   rw [hgi] at HI ⊢
   clear hw2 hgi k0 k1 k2 k3 hbl
   obtain ⟨ul,uc,uf⟩ := boxN HI.out
   have u0 := uc 0 _ rfl
   have u1 := uc 1 _ rfl
   have u2 := uc 2 _ rfl
   have u3 := uc 3 _ rfl
   simp only [Nat.zero_add] at u0 u1 u2 u3
   clear uc uf
   go_wp2_with fail
   refine (known_t ok tb mb vs K y.2.2.2 w2 (HT.out.below HB2.out) hsz).mono ?_
   rw [HTT.out]
   rintro e w3 ⟨rfl,hbn⟩
   replace HI := hid (blk_b HI.out hbn)
   have HB3 := hid (HB2.out.trans (hbn.mono HB2.out.size))
   clear hbn
   clear ul u0 u1 u2 u3
   cases hkn : knownT T y.2.2.2 with
   | false =>
    obtain rfl : 32 = R := by have h9 := HD.out; rw [HNX.out,if_pos hkn] at h9; exact h9
    go_wp2_with fail
    go_ret
    exact ⟨rfl,HB.out.trans (HB3.out.mono HB.out.size)⟩
   | true =>
    have HKN := hid hkn
    clear hkn
    obtain ⟨ul,uc,uf⟩ := boxN HI.out
    have u0 := uc 0 _ rfl
    have u1 := uc 1 _ rfl
    have u2 := uc 2 _ rfl
    have u3 := uc 3 _ rfl
    simp only [Nat.zero_add] at u0 u1 u2 u3
    clear uc uf
    go_wp2_with fail
    refine (Sub_t ok tb mb vs K y.2.2.2 fltT w3 (HT.out.below HB3.out) hsz (by decide)).mono ?_
    rw [HTT.out]
    rintro e w4 ⟨rfl,hbn⟩
    have HB4 := hid (HB3.out.trans (hbn.mono HB3.out.size))
    clear hbn
    clear ul u0 u1 u2 u3
    cases hsb : subT T y.2.2.2 fltT with
    | false =>
     obtain rfl : 29 = R := by have h9 := HD.out; rw [HNX.out,if_neg (by rw [HKN.out]; simp),if_pos hsb] at h9; exact h9
     go_wp2_with fail
     go_ret
     exact ⟨rfl,HB.out.trans (HB4.out.mono HB.out.size)⟩
    | true =>
     have HD2 : Hid (badH T (H.drop (i + 1)) = R) := hid (by have h9 := HD.out; rw [HNX.out,if_neg (by rw [HKN.out]; simp),if_neg (by rw [hsb]; simp)] at h9; exact h9)
     clear hsb
     go_wp2_with fail
     go_roundw
     case rel => exact ⟨i + 1,by go_num,by omega,HD2,HB4⟩
     case measure => simp [intOf]; omega
  ·have hlt' : ¬ (i : Int) < (nh : Int) := by omega
   obtain rfl : i = nh := by omega
   obtain rfl : 0 = R := by have h9 := HD.out; rw [HN.out.1,List.drop_length] at h9; exact h9
   go_wp2_with fail
   go_ret
   exact ⟨rfl,HB.out.trans (HBW.out.mono HB.out.size)⟩
end Go.Proofs.YtfpeakkbbfnhcaaGreat.R
