/- Texts that the proof is made of, joined. No condition. -/
import Derived.Test.YtofnbapnmhibaaaGreatS67
import Derived.Deep.RegionLaw
import Derived.Test.YtofnbapnmhibaaaGreatS6H
set_option linter.unusedVariables false
set_option linter.unusedSimpArgs false
set_option maxRecDepth 100000
set_option maxHeartbeats 16000000
namespace Go.Proofs.YtofnbapnmhibaaaGreat.A
open Go.RowKit Go.Proofs.YtofnbapnmhibaaaGreat.D Go.Proofs.YtofnbapnmhibaaaGreat.O
theorem below_dr6 (w : World) : Below w.heap.size w w.drew := (Below.refl _ _).drew
theorem method_ab (nm r1 : ByteArray) (r0 lo : Int) (st : Bool) (pp pc ph : Option Addr) (np cp nc cc nh ch : Nat) (ps : List Ty) (c : List Ins) (hs : List Hnd) (ok : Nat -> Prop) (w : World) 
  (hr : RdX 7 (sP insC) ok w (.slice pc nc cc) c) (hh : RdX 4 (sP hndC) ok w (.slice ph nh ch) hs) :
  Calls Tryz.prog 8 #[.agg #[.string nm,.slice pp np cp,.int .i64 r0,.string r1,.bool st,.bool true,.int .i64 lo,.slice pc nc cc,.slice ph nh ch]] w fun e w' => e = .returned (.tuple #[.int .i64 (mthA (⟨nm,ps,(r0,r1),st,true,lo,c,hs⟩ : Mth)).1,.int .i64 (mthA (⟨nm,ps,(r0,r1),st,true,lo,c,hs⟩ : Mth)).2]) /\ Below w.heap.size w w' := by
 have hnc : nc = c.length := by obtain ⟨p',c',e,-⟩ := hr.len; simp only [Value.slice.injEq] at e; exact e.2.1
 have hnh : nh = hs.length := by obtain ⟨p',c',e,-⟩ := hh.len; simp only [Value.slice.injEq] at e; exact e.2.1
 have HM : Hid (mthA (⟨nm,ps,(r0,r1),st,true,lo,c,hs⟩ : Mth) = if decide (0 < nc ∨ 0 < nh ∨ lo ≠ 0) = true then (-1,25) else (0,0)) := hid (by rw [mthA_ab rfl]; unfold runsB; rw [hnc,hnh])
 clear hnc hnh hr hh
 obtain ⟨d,hd⟩ : ∃ d,decide (0 < nc ∨ 0 < nh ∨ lo ≠ 0) = d := ⟨_,rfl⟩
 have HR : Hid (∀ w,Calls Tryz.prog 12 #[.agg #[.string nm,.slice pp np cp,.int .i64 r0,.string r1,.bool st,.bool true,.int .i64 lo,.slice pc nc cc,.slice ph nh ch]] w fun e w' => e = .returned (.bool d) /\ Below w.heap.size w w') := hid (fun w => by rw [<- hd]; exact runs_any _ _ _ _ _ _ _ _ _ _ _ _ _ _ _ w)
 rw [hd] at HM
 clear hd
 cases d
 all_goals
  go_enter Tryz.func8,Tryz.ntmps8
  go_wp2_with fail
  refine (HR.out _).mono ?_
  rintro e w1 ⟨rfl,hb1⟩
  have hxb := boxed (vs := [.string nm,.slice pp np cp,.int .i64 r0,.string r1,.bool st,.bool true,.int .i64 lo,.slice pc nc cc,.slice ph nh ch]) hb1
  obtain ⟨q0,q1,q2,q3,q4,q5,q6,q7,q8⟩ := z9 hxb.1
  have hbl := hxb.2.2
  have hxlt := hxb.2.1
  clear hxb hb1
  go_wp2_with fail
  go_ret2
  exact ⟨ret_two (by rw [HM.out]; rfl),hbl⟩
theorem method_run (nm r1 : ByteArray) (r0 lo : Int) (st : Bool) (pp pc ph : Option Addr) (np cp nc cc nh ch : Nat) (ps : List Ty) (c : List Ins) (hs : List Hnd) (ok : Nat -> Prop) (w : World) (hp : np = ps.length) (hp2 : np <= 1000000)
  (hr : RdX 7 (sP insC) ok w (.slice pc nc cc) c) (hh : RdX 4 (sP hndC) ok w (.slice ph nh ch) hs) (hc2 : nc <= 1000000) (hh2 : nh <= 1000000) :
  Calls Tryz.prog 8 #[.agg #[.string nm,.slice pp np cp,.int .i64 r0,.string r1,.bool st,.bool false,.int .i64 lo,.slice pc nc cc,.slice ph nh ch]] w fun e w' => e = .returned (.tuple #[.int .i64 (mthA (⟨nm,ps,(r0,r1),st,false,lo,c,hs⟩ : Mth)).1,.int .i64 (mthA (⟨nm,ps,(r0,r1),st,false,lo,c,hs⟩ : Mth)).2]) /\ Below w.heap.size w w' := by
 have hnc : nc = c.length := by obtain ⟨p',c',e,-⟩ := hr.len; simp only [Value.slice.injEq] at e; exact e.2.1
 have hnh : nh = hs.length := by obtain ⟨p',c',e,-⟩ := hh.len; simp only [Value.slice.injEq] at e; exact e.2.1
 obtain ⟨A,hA⟩ : ∃ A,(if st = true then (np : Int) else 1 + (np : Int)) = A := ⟨_,rfl⟩
 have HARG : Hid (∀ w,Calls Tryz.prog 9 #[.agg #[.string nm,.slice pp np cp,.int .i64 r0,.string r1,.bool st,.bool false,.int .i64 lo,.slice pc nc cc,.slice ph nh ch]] w fun e w' => e = .returned (.int .i64 A) /\ Below w.heap.size w w') := hid (fun w => by rw [<- hA]; exact args_any _ _ _ _ _ _ _ _ _ _ _ _ _ _ _ w hp2)
 have hAI : argsI (⟨nm,ps,(r0,r1),st,false,lo,c,hs⟩ : Mth) = A := by rw [<- hA]; unfold argsI; rw [hp]
 clear hA
 by_cases hn : c = []
 ·have HF : Hid (mthA (⟨nm,ps,(r0,r1),st,false,lo,c,hs⟩ : Mth) = (-1,25)) := hid (mthA_no rfl hn)
  obtain rfl : nc = 0 := by rw [hnc,hn]; rfl
  clear hnc hnh hr hh hp hn hAI hp2 HARG
  go_enter Tryz.func8,Tryz.ntmps8
  go_wp2_with fail
  go_ret2
  exact ⟨ret_two HF.out.symm,(Below.refl _ _).alloc (Nat.le_refl _) _⟩
 ·have hpos : 0 < nc := by have := List.length_pos_iff.2 hn; omega
  have hz : ¬ (nc : Int) = 0 := by omega
  by_cases hlo : lo < A
  ·have HF : Hid (mthA (⟨nm,ps,(r0,r1),st,false,lo,c,hs⟩ : Mth) = (-1,22)) := hid (mthA_few rfl hn (by rw [hAI]; exact hlo))
   clear hnc hnh hr hh hp hn hAI
   go_enter Tryz.func8,Tryz.ntmps8
   go_wp2_with fail
   go_region_law (rw [if_pos (by rfl)]; go_simp; go_at_call 9; refine (HARG.out _).mono ?_; rintro e w1 ⟨rfl,hb1⟩; have hxb := boxed (vs := [.string nm,.slice pp np cp,.int .i64 r0,.string r1,.bool st,.bool false,.int .i64 lo,.slice pc nc cc,.slice ph nh ch]) ((below_dr6 _).trans hb1); obtain ⟨q0,q1,q2,q3,q4,q5,q6,q7,q8⟩ := z9 hxb.1; have hbl := hxb.2.2; have hxlt := hxb.2.1; clear hb1)
   all_goals
    go_wp2_with fail
    go_ret2
    exact ⟨ret_two HF.out.symm,hbl⟩
  ·obtain ⟨⟨C1,C2⟩,hCA⟩ : ∃ C : Int × Int,codeA lo c = C := ⟨_,rfl⟩
   have HCOD : Hid (∀ w',Below w.heap.size w w' -> Calls Tryz.prog 13 #[.agg #[.string nm,.slice pp np cp,.int .i64 r0,.string r1,.bool st,.bool false,.int .i64 lo,.slice pc nc cc,.slice ph nh ch]] w' fun e w2 => e = .returned (.tuple #[.int .i64 C1,.int .i64 C2]) /\ Below w'.heap.size w' w2) := hid (fun w' hb => by
    have := code_any nm r1 r0 lo st false pp pc ph np cp nc cc nh ch c ok w' (hr.any (sP.grow _) hb) hn (by omega)
    rw [hCA] at this
    exact this)
   by_cases hC2 : C2 = 0
   ·have HMH : Hid (mthA (⟨nm,ps,(r0,r1),st,false,lo,c,hs⟩ : Mth) = if hs.all (standsB (nc : Int)) then (0,0) else (-1,28)) := hid (by rw [mthA_hs rfl hn (by rw [hAI]; exact hlo) (by show (codeA lo c).2 = 0; rw [hCA]; exact hC2),hnc])
    subst hC2
    have HHS := hid hh
    have HNH := hid hnh
    clear hnc hnh hr hh hp hn hAI hCA
    go_enter Tryz.func8,Tryz.ntmps8
    go_wp2_with fail
    go_region_law (rw [if_pos (by rfl)]; go_simp; go_at_call 9; refine (HARG.out _).mono ?_; rintro e w1 ⟨rfl,hb1⟩; have hxb := boxed (vs := [.string nm,.slice pp np cp,.int .i64 r0,.string r1,.bool st,.bool false,.int .i64 lo,.slice pc nc cc,.slice ph nh ch]) ((below_dr6 _).trans hb1); obtain ⟨q0,q1,q2,q3,q4,q5,q6,q7,q8⟩ := z9 hxb.1; have hbl := hxb.2.2; have hxlt := hxb.2.1; clear hb1)
    all_goals
     have hbd := hbl
     have HX2 : Hid (CellsAt w1 w.heap.size 0 [.string nm,.slice pp np cp,.int .i64 r0,.string r1,.bool st,.bool false,.int .i64 lo,.slice pc nc cc,.slice ph nh ch] /\ w.heap.size < w1.heap.size) := hid ⟨hxb.1,hxlt⟩
     clear hxb hbl
     go_wp2_with fail
     refine (HCOD.out _ hbd).mono ?_
     rintro e w3 ⟨rfl,hb3⟩
     have hB3 : Hid (Below w.heap.size w w3) := hid (hbd.trans (hb3.mono hbd.size))
     have HX3 : Hid (CellsAt w3 w.heap.size 0 [.string nm,.slice pp np cp,.int .i64 r0,.string r1,.bool st,.bool false,.int .i64 lo,.slice pc nc cc,.slice ph nh ch] /\ w.heap.size < w3.heap.size) := hid ⟨HX2.out.1.below hb3 hxlt,Nat.lt_of_lt_of_le hxlt hb3.size⟩
     clear HX2 hb3 hbd q0 q1 q2 q3 q4 q5 q6 q7 q8 hxlt
     obtain ⟨q0,q1,q2,q3,q4,q5,q6,q7,q8⟩ := z9 HX3.out.1
     have hxlt := HX3.out.2
     go_wp2_with fail
     by_cases hs0 : hs = []
     ·have HF : Hid (mthA (⟨nm,ps,(r0,r1),st,false,lo,c,hs⟩ : Mth) = (0,0)) := hid (by rw [HMH.out,hs0]; rfl)
      obtain rfl : nh = 0 := by rw [HNH.out,hs0]; rfl
      clear hs0
      go_loop [45] (fun i => i = .int .i64 0) (fun _ => 0)
      case atStart => exact rfl
      case round =>
       obtain rfl := hrel
       go_wp2_with fail
       go_ret2
       exact ⟨ret_two HF.out.symm,hB3.out⟩
     ·obtain ⟨b,off,rfl,-,-,hok,hlt,hc⟩ := HHS.out.place hs0
      have HC := hid hc
      clear hc q0 q1 q2 q3 q4 q5 q6 q7 q8 hxlt hs0
      go_loopw [45] (fun i wr => ∃ k : Nat,k <= nh /\ i = .int .i64 k /\ Hid (∀ j x,j < k -> hs[j]? = some x -> standsB (nc : Int) x = true) /\ Hid (Below w3.heap.size w3 wr)) (fun i _ => nh - (intOf i).toNat)
      case atStart => exact ⟨0,Nat.zero_le _,rfl,hid (fun j x h => absurd h (Nat.not_lt_zero _)),hid (Below.refl _ _)⟩
      case round =>
       obtain ⟨k,hk,rfl,HR,HBR⟩ := hrel
       have hbl := hB3.out.trans (HBR.out.mono hB3.out.size)
       obtain ⟨q0,q1,q2,q3,q4,q5,q6,q7,q8⟩ := z9 (HX3.out.1.below HBR.out HX3.out.2)
       have hxlt := Nat.lt_of_lt_of_le HX3.out.2 HBR.out.size
       have hsz := hbl.size
       by_cases hlt2 : k < nh
       ·obtain ⟨x,hx⟩ : ∃ x,hs[k]? = some x := ⟨_,List.getElem?_eq_getElem (by have := HNH.out; omega)⟩
        have hcl := (sP_at (HC.out k x hx)).below hbl hlt
        obtain ⟨s0,s1,s2,s3⟩ := x
        obtain ⟨hc0,hc1,hc2,hc3⟩ := CellsAt.four hcl
        have HX := hid hx
        clear hx hcl
        go_wp2_with fail
        refine (stands_any _ _ _ _ _ _).mono ?_
        rintro e w4 ⟨rfl,hb4⟩
        have hb4' : Hid (Below w3.heap.size w3 w4) := hid (HBR.out.trans ((Below.refl _ _).alloc (Nat.le_refl _) _ |>.trans (hb4.mono (by simp)) |>.mono HBR.out.size))
        cases hfx : standsB (nc : Int) (s0,s1,s2,s3) with
        | false =>
         have HF : Hid (mthA (⟨nm,ps,(r0,r1),st,false,lo,c,hs⟩ : Mth) = (-1,28)) := hid (by rw [HMH.out,all_some HX.out hfx]; rfl)
         have hB := hB3.out.trans (hb4'.out.mono hB3.out.size)
         go_wp2_with fail
         go_ret2
         exact ⟨ret_two HF.out.symm,hB⟩
        | true =>
         have HS : Hid (∀ j x,j < k + 1 -> hs[j]? = some x -> standsB (nc : Int) x = true) := hid (by
          intro j y hj hy
          by_cases ej : j = k
          ·subst ej
           rw [HX.out] at hy
           cases hy
           exact hfx
          ·exact HR.out j y (by omega) hy)
         go_wp2_with fail
         go_roundw
         case rel => exact ⟨k + 1,by omega,by go_num,HS,hb4'⟩
         case measure => simp [intOf]; omega
       ·have HF : Hid (mthA (⟨nm,ps,(r0,r1),st,false,lo,c,hs⟩ : Mth) = (0,0)) := hid (by rw [HMH.out,all_none (fun j x hx => HR.out j x (by have := (List.getElem?_eq_some_iff.1 hx).1; have := HNH.out; omega) hx)]; rfl)
        go_wp2_with fail
        go_ret2
        exact ⟨ret_two HF.out.symm,hbl⟩
   ·have HF : Hid (mthA (⟨nm,ps,(r0,r1),st,false,lo,c,hs⟩ : Mth) = (C1,C2)) := hid (by rw [mthA_code rfl hn (by rw [hAI]; exact hlo) (by show (codeA lo c).2 ≠ 0; rw [hCA]; exact hC2)]; exact hCA)
    clear hnc hnh hr hh hp hn hAI hCA
    go_enter Tryz.func8,Tryz.ntmps8
    go_wp2_with fail
    go_region_law (rw [if_pos (by rfl)]; go_simp; go_at_call 9; refine (HARG.out _).mono ?_; rintro e w1 ⟨rfl,hb1⟩; have hxb := boxed (vs := [.string nm,.slice pp np cp,.int .i64 r0,.string r1,.bool st,.bool false,.int .i64 lo,.slice pc nc cc,.slice ph nh ch]) ((below_dr6 _).trans hb1); obtain ⟨q0,q1,q2,q3,q4,q5,q6,q7,q8⟩ := z9 hxb.1; have hbl := hxb.2.2; have hxlt := hxb.2.1; clear hb1)
    all_goals
     have hbd := hbl
     go_wp2_with fail
     refine (HCOD.out _ hbd).mono ?_
     rintro e w3 ⟨rfl,hb3⟩
     have hB := hbd.trans (hb3.mono hbd.size)
     clear hb3 hxb q0 q1 q2 q3 q4 q5 q6 q7 q8 hxlt
     go_wp2_with fail
     go_ret2
     exact ⟨ret_two HF.out.symm,hB⟩
theorem method_a (nm r1 : ByteArray) (r0 lo : Int) (st ab : Bool) (pp pc ph : Option Addr) (np cp nc cc nh ch : Nat) (ps : List Ty) (c : List Ins) (hs : List Hnd) (ok : Nat -> Prop) (w : World) (hp : np = ps.length) (hp2 : np <= 1000000)
  (hr : RdX 7 (sP insC) ok w (.slice pc nc cc) c) (hh : RdX 4 (sP hndC) ok w (.slice ph nh ch) hs) (hc2 : nc <= 1000000) (hh2 : nh <= 1000000) :
  Calls Tryz.prog 8 #[.agg #[.string nm,.slice pp np cp,.int .i64 r0,.string r1,.bool st,.bool ab,.int .i64 lo,.slice pc nc cc,.slice ph nh ch]] w fun e w' => e = .returned (.tuple #[.int .i64 (mthA (⟨nm,ps,(r0,r1),st,ab,lo,c,hs⟩ : Mth)).1,.int .i64 (mthA (⟨nm,ps,(r0,r1),st,ab,lo,c,hs⟩ : Mth)).2]) /\ Below w.heap.size w w' := by
 cases ab
 ·exact method_run nm r1 r0 lo st pp pc ph np cp nc cc nh ch ps c hs ok w hp hp2 hr hh hc2 hh2
 ·exact method_ab nm r1 r0 lo st pp pc ph np cp nc cc nh ch ps c hs ok w hr hh
end Go.Proofs.YtofnbapnmhibaaaGreat.A
namespace Go.Proofs.YtofnbapnmhibaaaGreat.A
open Go.RowKit Go.Proofs.YtofnbapnmhibaaaGreat.D Go.Proofs.YtofnbapnmhibaaaGreat.O
def Fr (ok : Nat -> Prop) (w w' : World) : Prop := Below 0 w w' /\ Keeps ok w w'
theorem Fr.size {ok : Nat -> Prop} {w w' : World} (h : Fr ok w w') : w.heap.size <= w'.heap.size := h.1.size
theorem Fr.refl (ok : Nat -> Prop) (w : World) : Fr ok w w := ⟨Below.refl _ _,fun _ _ _ => rfl⟩
theorem Fr.trans {ok : Nat -> Prop} {a b c : World} (h : Fr ok a b) (k : Fr ok b c) : Fr ok a c :=
 ⟨h.1.trans k.1,fun x hx hl => (k.2 x hx (Nat.lt_of_lt_of_le hl h.size)).trans (h.2 x hx hl)⟩
theorem Fr.drew (ok : Nat -> Prop) (w : World) : Fr ok w w.drew := ⟨(Below.refl _ _).drew,fun _ _ _ => rfl⟩
theorem Fr.mono {ok ok' : Nat -> Prop} {a b : World} (h : Fr ok a b) (ho : ∀ x,ok' x -> x < a.heap.size -> ok x) : Fr ok' a b := ⟨h.1,fun x hx hl => h.2 x (ho x hx hl) hl⟩
theorem Fr.of_below {ok : Nat -> Prop} {w w' : World} (h : Below w.heap.size w w') : Fr ok w w' := ⟨h.mono (Nat.zero_le _),.of_below h⟩
theorem Fr.of_kpt {ok : Nat -> Prop} {S : List Nat} {w w' : World} (h : Kpt S w w') (hS : ∀ b,ok b -> b ∉ S) : Fr ok w w' := ⟨h.1,.of_kpt h hS⟩
theorem Fr.of_grown {ok : Nat -> Prop} {w w' : World} {r : Option Nat} (h : w.grownBy w' r) (hr : ∀ b,ok b -> r ≠ some b) : Fr ok w w' :=
 ⟨⟨h.os,h.tape,h.output,h.size,fun k hk => absurd hk (Nat.not_lt_zero k)⟩,.of_grown h hr⟩
theorem Fr.set {ok : Nat -> Prop} (w : World) (b j : Nat) (u : Value) (hb : ¬ ok b) : Fr ok w (w.setCell ⟨b,j,none⟩ u) := .of_grown (grown_set w b j u) (fun x hx e => by cases e; exact hb hx)
theorem Fr.below {ok : Nat -> Prop} {B : Nat} {w w' : World} (h : Fr ok w w') (hok : ∀ b,b < B -> ok b) (hB : B <= w.heap.size) : Below B w w' :=
 ⟨h.1.os,h.1.tape,h.1.output,h.1.size,fun k hk => h.2 k (hok k hk) (Nat.lt_of_lt_of_le hk hB)⟩
theorem Fr.step {α : Type} {sz : Nat} {P : Pv α} (hP : MonoG P) {ok : Nat -> Prop} {w w' : World} {v : Value} {xs : List α} (h : RdX sz P ok w v xs) (hf : Fr ok w w') : RdX sz P ok w' v xs := h.step hP (fun _ h _ => h) hf.2 hf.size
theorem Fr.cells {ok : Nat -> Prop} {w w' : World} {b o : Nat} {vs : List Value} (h : CellsAt w b o vs) (hf : Fr ok w w') (hb : ok b) : CellsAt w' b o vs := fun j u hu => cell_keeps (h j u hu) hf.2 hb
theorem run_appB (w : World) (B : Nat) (v : Value) (l : List UInt8) (hown : Own w B v l) (vx : Value) (m : List UInt8) (hr : Rd w vx m) (hb : l.length + m.length <= 10000000000) (hbase : B <= w.heap.size) (ty : TypeId) :
  ∃ v' w',(Builtin.append_ #[38,38] ty #[v,vx]).run Tryz.prog w = .ok v' w' /\ Own w' B v' (l ++ m) /\ w.grownBy w' v.ownBlock /\ (v'.ownBlock = v.ownBlock ∨ v'.ownBlock = some w.heap.size) := by
 obtain ⟨i0,hi,hz0,hz1,hz2⟩ := info_parts Tryz.infoB
 obtain ⟨p,cap,rfl,h1,h2,h3⟩ := hr
 cases p with
 | none =>
  have hc := h2 rfl
  have hm : m = [] := List.eq_nil_of_length_eq_zero (by omega)
  subst hm hc
  refine ⟨v,w,run_append_owned_none w B 38 ty 5 i0 1 Tryz.underlying38 hi v l.length (l.map u8) hown,by rw [List.append_nil]; exact hown,⟨rfl,rfl,rfl,Nat.le_refl _,fun _ _ _ => rfl⟩,.inl rfl⟩
 | some a =>
  obtain ⟨v',w',hrun,g1,g2,_,g4⟩ := run_append_own_at (P := Tryz.prog) w B 38 ty 5 i0 (.int .u8 0) 1 1 Tryz.underlying38 hi hz0 hz1 hz2 rfl (by decide) v l.length (l.map u8) hown a m.length cap (m.map u8) (by simp)
   (fun j u hj => by
    rw [List.getElem?_map,Option.map_eq_some_iff] at hj
    obtain ⟨b,hb1,rfl⟩ := hj
    exact h3 a rfl j b hb1) (u8_one m) (by unfold maxLen; omega) (by omega) hbase
  refine ⟨v',w',hrun,?_,g2,g4⟩
  unfold Own
  rw [List.length_append,List.map_append]
  exact g1
theorem step_appB {w : World} {ops : Array Oper} {o : Oper} {a : Act} {K : Act -> World -> Prop} {Q : Exit -> Act -> World -> Prop} {E : Prop} (hw : Region.wanted o (yielded ops a.tmps) = true) (s x : Operand)
  (ho : o.op = .call { callee := .builtin .append,args := #[s,x],argTypes := #[38,38] })
  (B : Nat) (v : Value) (l : List UInt8) (hs : a.eval s = v) (hown : Own w B v l) (vx : Value) (m : List UInt8) (hx : a.eval x = vx) (hr : Rd w vx m)
  (hb : l.length + m.length <= 10000000000) (hbase : B <= w.heap.size)
  (h : ∀ v' w',Own w' B v' (l ++ m) -> w.grownBy w' v.ownBlock -> (v'.ownBlock = v.ownBlock ∨ v'.ownBlock = some w.heap.size) -> K (a.put o.dst v') w') :
  if Region.wanted o (yielded ops a.tmps) = true then Oper.wp Tryz.prog o a w K Q else E := by
 rw [if_pos hw]
 obtain ⟨v',w',hrun,g1,g2,g4⟩ := run_appB w B v l hown vx m hr hb hbase o.type
 unfold Oper.wp execOp
 simp only [ho,resolve,invoke,builtin,Sem.run_bind,Sem.run_pure,Result.andThen_ok,List.map_toArray,List.map_cons,List.map_nil,hs,hx,hrun]
 exact h v' w' g1 g2 g4
def WtP (w : World) (ok : Nat -> Prop) (wb pb mb : Nat) (sl bv : Value) (L : List ByteArray) (b : List UInt8) : Prop :=
 w.heap[wb]? = some (.cells #[.pointer (some ⟨pb,0,none⟩),bv] 93 (0,0)) /\ Pl w 0 pb mb sl L /\ Own w 0 bv b /\ bv.ownBlock ≠ some wb /\
 (∀ x ∈ fp pb mb sl,x ≠ wb /\ bv.ownBlock ≠ some x /\ ¬ ok x) /\ ¬ ok wb /\ ∀ g,bv.ownBlock = some g -> ¬ ok g
def Wt (w : World) (ok : Nat -> Prop) (wb pb mb : Nat) (st : WS) : Prop := ∃ sl bv,WtP w ok wb pb mb sl bv st.1 st.2
theorem WtP.lt {w : World} {ok : Nat -> Prop} {wb pb mb : Nat} {sl bv : Value} {L : List ByteArray} {b : List UInt8} (h : WtP w ok wb pb mb sl bv L b) : wb < w.heap.size := (Array.getElem?_eq_some_iff.1 h.1).1
theorem WtP.cells {w : World} {ok : Nat -> Prop} {wb pb mb : Nat} {sl bv : Value} {L : List ByteArray} {b : List UInt8} (h : WtP w ok wb pb mb sl bv L b) :
  wb < w.heap.size /\ w.cell? ⟨wb,0,none⟩ = some (.pointer (some ⟨pb,0,none⟩)) /\ w.cell? ⟨wb,1,none⟩ = some bv /\ w.frozen? ⟨wb,1,none⟩ = false := by
 refine ⟨h.lt,?_,?_,?_⟩
 ·simp [World.cell?,h.1]
 ·simp [World.cell?,h.1]
 ·simp [World.frozen?,h.1]
theorem WtP.kpt {w w' : World} {ok ok' : Nat -> Prop} {S : List Nat} {wb pb mb : Nat} {sl bv : Value} {L : List ByteArray} {b : List UInt8} (h : WtP w ok wb pb mb sl bv L b) (hk : Kpt S w w') (hS : ∀ x,x < w.heap.size -> x ∉ S) (ho : ∀ x,ok' x -> ok x ∨ w.heap.size <= x) : WtP w' ok' wb pb mb sl bv L b := by
 have hlt := h.lt
 obtain ⟨h1,h2,h3,h4,h5,h6,h7⟩ := h
 have hpl := h2.lt
 refine ⟨?_,h2.kpt hk (fun x hx => hS x (hpl x hx).2),h3.kpt hk (fun g hg => hS g (h3.lt g hg).2),h4,fun x hx => ⟨(h5 x hx).1,(h5 x hx).2.1,fun hx' => ?_⟩,fun hx' => ?_,fun g hg hx' => ?_⟩
 ·rw [hk.2 wb hlt (hS wb hlt)]; exact h1
 ·rcases ho x hx' with e | e
  ·exact (h5 x hx).2.2 e
  ·have := (hpl x hx).2; omega
 ·rcases ho wb hx' with e | e
  ·exact h6 e
  ·omega
 ·rcases ho g hx' with e | e
  ·exact h7 g hg e
  ·have := (h3.lt g hg).2; omega
theorem Wt.below {w w' : World} {ok ok' : Nat -> Prop} {wb pb mb : Nat} {st : WS} (h : Wt w ok wb pb mb st) (hb : Below w.heap.size w w') (ho : ∀ x,ok' x -> ok x ∨ w.heap.size <= x) : Wt w' ok' wb pb mb st := by
 obtain ⟨sl,bv,h⟩ := h
 exact ⟨sl,bv,h.kpt (.of_below hb : Kpt [] w w') (fun _ _ => by simp) ho⟩
theorem Wt.weak {w : World} {ok ok' : Nat -> Prop} {wb pb mb : Nat} {st : WS} (h : Wt w ok wb pb mb st) (ho : ∀ x,ok' x -> ok x) : Wt w ok' wb pb mb st := h.below (Below.refl _ _) (fun x hx => .inl (ho x hx))
theorem WtP.pool {w w' : World} {ok : Nat -> Prop} {wb pb mb : Nat} {sl sl' bv : Value} {L L' : List ByteArray} {b : List UInt8} (h : WtP w ok wb pb mb sl bv L b) (ho : On w w' 0 pb mb sl sl' L') (hok : ∀ x,ok x -> x < w.heap.size) :
  WtP w' ok wb pb mb sl' bv L' b /\ Fr ok w w' := by
 have hlt := h.lt
 obtain ⟨h1,h2,h3,h4,h5,h6,h7⟩ := h
 have hfr := ho.fresh
 obtain ⟨g1,g2,g3⟩ := ho
 refine ⟨⟨?_,g1,h3.kpt g2 (fun g hg hx => (h5 g hx).2.1 hg),h4,fun x hx => ?_,h6,h7⟩,.of_kpt g2 (fun x hx hx' => (h5 x hx').2.2 hx)⟩
 ·rw [g2.2 wb hlt (fun hx => (h5 wb hx).1 rfl)]; exact h1
 ·rcases hfr x hx with e | e
  ·exact h5 x e
  ·refine ⟨by omega,fun hb => ?_,fun hx' => ?_⟩
   ·have := (h3.lt x hb).2; omega
   ·have := hok x hx'; omega
theorem WtP.put {w w1 : World} {ok : Nat -> Prop} {wb pb mb : Nat} {sl bv v' : Value} {L : List ByteArray} {b m : List UInt8} (h : WtP w ok wb pb mb sl bv L b) (ho : Own w1 0 v' (b ++ m)) (hg : w.grownBy w1 bv.ownBlock)
  (hl : v'.ownBlock = bv.ownBlock ∨ v'.ownBlock = some w.heap.size) (hok : ∀ x,ok x -> x < w.heap.size) :
  w1.cell? ⟨wb,1,none⟩ = some bv /\ w1.frozen? ⟨wb,1,none⟩ = false /\ WtP (w1.setCell ⟨wb,1,none⟩ v') ok wb pb mb sl v' L (b ++ m) /\ Fr ok w (w1.setCell ⟨wb,1,none⟩ v') := by
 have hlt := h.lt
 obtain ⟨h1,h2,h3,h4,h5,h6,h7⟩ := h
 have hpl := h2.lt
 have hne : v'.ownBlock ≠ some wb := by
  rcases hl with e | e
  ·rw [e]; exact h4
  ·rw [e]; simp only [ne_eq,Option.some.injEq]; omega
 have hw1 : w1.heap[wb]? = some (.cells #[.pointer (some ⟨pb,0,none⟩),bv] 93 (0,0)) := by rw [hg.block wb hlt (fun e => h4 e.symm)]; exact h1
 have k1 : Kpt bv.ownBlock.toList w w1 := .of_grown hg (fun g e => .inl (by rw [e]; simp))
 have k2 : Kpt [wb] w1 (w1.setCell ⟨wb,1,none⟩ v') := Kpt.set _ _ _ _ _ (by simp)
 have hdis : ∀ x ∈ fp pb mb sl,v'.ownBlock ≠ some x := fun x hx e => by
  rcases hl with e' | e'
  ·exact (h5 x hx).2.1 (e' ▸ e)
  ·rw [e'] at e
   cases e
   have := (hpl _ hx).2
   omega
 have hno : ∀ g,v'.ownBlock = some g -> ¬ ok g := fun g e hg' => by
  rcases hl with e' | e'
  ·exact h7 g (e' ▸ e) hg'
  ·rw [e'] at e
   cases e
   have := hok _ hg'
   omega
 refine ⟨by simp [World.cell?,hw1],by simp [World.frozen?,hw1],⟨?_,?_,ho.kpt k2 (fun g e => ?_),hne,fun x hx => ⟨(h5 x hx).1,hdis x hx,(h5 x hx).2.2⟩,h6,hno⟩,(Fr.of_grown hg (fun x hx e => h7 x e hx)).trans (.set w1 wb 1 v' h6)⟩
 ·rw [heap_setCell_same w1 wb 1 _ _ _ hw1]; rfl
 ·refine (h2.kpt k1 (fun x hx hx' => ?_)).kpt k2 (fun x hx hx' => (h5 x hx).1 (List.mem_singleton.1 hx'))
  exact (h5 x hx).2.1 (by simpa using hx')
 ·rw [List.mem_singleton]
  exact fun e' => hne (e' ▸ e)
def Room (st : WS) (n : Nat) : Prop := st.1.length + n <= 9000000 /\ st.2.length + 30 * n <= 1000000000
theorem Room.next {st : WS} {n a b : Nat} {f : WS -> WS} (h : Room st n) (hf : Ext f a) (hn : a + b <= n) : Room (f st) b := by
 obtain ⟨M,bs,e,l1,l2,_⟩ := hf st
 unfold Room at h ⊢
 rw [e]
 simp only [List.length_append]
 omega
theorem Room.le {st : WS} {n m : Nat} (h : Room st n) (hn : m <= n) : Room st m := by unfold Room at h ⊢; omega
theorem own_slice {w : World} {B : Nat} {v : Value} {l : List UInt8} (h : Own w B v l) : ∃ a n c,v = .slice a n c := by
 obtain ⟨a,c,e,_⟩ := h.len
 exact ⟨a,_,c,e⟩
theorem two_len (n : Int) : (two n).length = 2 := rfl
def Wrote (ok : Nat -> Prop) (wb pb mb : Nat) (st : WS) (w : World) (e : Ending) (w' : World) : Prop := e = .returned (.tuple #[]) /\ Wt w' ok wb pb mb st /\ Fr ok w w'
theorem text_w (ok : Nat -> Prop) (wb pb mb : Nat) (st : WS) (s : ByteArray) (w : World) (h : Wt w ok wb pb mb st) (hok : ∀ x,ok x -> x < w.heap.size) (hs : s.size <= 1000) (hr : Room st 1) :
  Calls Tryz.prog 51 #[.pointer (some ⟨wb,0,none⟩),.string s] w (Wrote ok wb pb mb (wText s st) w) := by
 obtain ⟨sl,bv,hw⟩ := h
 obtain ⟨a0,n0,c0',hsl⟩ := own_slice hw.2.2.1
 subst hsl
 unfold Room at hr
 have hL : st.1.length <= 10000000 := by omega
 have hwD : WtP w.drew ok wb pb mb sl (.slice a0 n0 c0') st.1 st.2 := hw
 obtain ⟨hlt,c0,c1,f1⟩ := hwD.cells
 have hpos := pos_le st.1 s
 go_enter Tryz.func51,Tryz.ntmps51
 go_region_law (first
  | (refine step_appB (by rfl) _ _ (by rfl) 0 _ st.2 (by rfl) hw2.2.2.1 _ _ (by rfl) ho2.rd (by rw [List.nil_append,two_len]; omega) (by omega) ?_; intro v3 w3 ho3 hg3 hl3; obtain ⟨a3,n3,c3,hv3⟩ := own_slice ho3; subst hv3; obtain ⟨d0,d1,hfin,hfr⟩ := hw2.put ho3 hg3 hl3 hok2)
  | (rw [if_pos (by rfl)]; go_simp; go_at_call 65; refine (pput_any 0 pb mb sl st.1 s _ hwD.2.1 (by omega) (by omega) (by omega)).mono ?_; rintro e w1 ⟨sl1,rfl,hon⟩; obtain ⟨hw1,hf1⟩ := hwD.pool hon hok; have hok1 : ∀ x,ok x -> x < w1.heap.size := fun x hx => (by have := hok x hx; have := hf1.size; simp at this; omega); obtain ⟨hlt1,e0,e1,g1⟩ := hw1.cells)
  | (rw [if_pos (by rfl)]; go_simp; go_at_call 64; refine (two_any (.slice none 0 0) [] (pos st.1 s : Int) _ (rd_nil _) (.inl rfl) (by simp) (by omega) (by omega)).mono ?_; rintro e w2 ⟨v2,rfl,ho2,hb2⟩; have hw2 : WtP w2 ok wb pb mb sl1 (.slice a0 n0 c0') (putL st.1 s) st.2 := (hw1.kpt (.of_below hb2 : Kpt [] w1 w2) (fun _ _ => by simp) (fun x hx => .inl hx)); have hok2 : ∀ x,ok x -> x < w2.heap.size := fun x hx => (by have := hok1 x hx; have := hb2.size; omega); obtain ⟨hlt2,e0',e1',g1'⟩ := hw2.cells))
 all_goals
  go_wp2_with fail
  exact bodyPost_end (results_none rfl _ _ _) rfl ⟨rfl,⟨_,_,hfin⟩,(((Fr.drew ok w).trans hf1).trans (.of_below hb2)).trans hfr⟩
theorem rdI_lit {w : World} {vs : List Value} {zs : List Int} (T : TypeId) (hv : vs = zs.map (Value.int .i64)) (hz : ∀ z ∈ zs,-9223372036854775808 <= z /\ z <= 9223372036854775807) :
  RdI (w.alloc (.cells vs.toArray T)) (.slice (some ⟨w.heap.size,0,none⟩) zs.length zs.length) zs := by
 subst hv
 refine ⟨_,_,rfl,(fun a ha _ => by cases ha; rfl),(fun h => by cases h),fun i x hx => hz x (List.mem_of_getElem? hx),fun a ha i x hx => ?_⟩
 cases ha
 simp [hx]
theorem nums_w (ok : Nat -> Prop) (wb pb mb : Nat) (st : WS) (p : Option Addr) (n c : Nat) (zs : List Int) (m : Nat) (w : World) (h : Wt w ok wb pb mb st) (hok : ∀ x,ok x -> x < w.heap.size) (hz : ∀ z ∈ zs,z <= 9223372036854775807) (hl : zs.length <= 3 * m) (hm : m <= 100) (hr : Room st m)
  (hi : RdI w (.slice p n c) zs) (hp : ∀ g,(Value.slice p n c).ownBlock = some g -> g < w.heap.size) :
  Calls Tryz.prog 49 #[.pointer (some ⟨wb,0,none⟩),.slice p n c] w (Wrote ok wb pb mb (wNums zs st) w) := by
 obtain ⟨sl,bv,hw⟩ := h
 obtain ⟨a0,n0,c0',hsl⟩ := own_slice hw.2.2.1
 subst hsl
 obtain ⟨M,bs,e,l1,l2,_⟩ := ext_nums hz hl st
 have hbs : (nums zs).length <= 30 * m := by
  have : st.2 ++ nums zs = st.2 ++ bs := (congrArg Prod.snd e : _)
  rw [List.append_cancel_left this]; exact l2
 clear e l1 l2
 unfold Room at hr
 have hwD : WtP w.drew ok wb pb mb sl (.slice a0 n0 c0') st.1 st.2 := hw
 have hiD : RdI w.drew (.slice p n c) zs := hi
 obtain ⟨hlt,c0,c1,f1⟩ := hwD.cells
 go_enter Tryz.func49,Tryz.ntmps49
 go_region_law (first
  | (refine step_appB (by rfl) _ _ (by rfl) 0 _ st.2 (by rfl) hw2.2.2.1 _ _ (by rfl) ho2.rd (by rw [List.nil_append]; omega) (by omega) ?_; intro v3 w3 ho3 hg3 hl3; obtain ⟨a3,n3,c3,hv3⟩ := own_slice ho3; subst hv3; obtain ⟨d0,d1,hfin,hfr⟩ := hw2.put ho3 hg3 hl3 hok2)
  | (rw [if_pos (by rfl)]; go_simp; go_at_call 63; refine (num_any (.slice none 0 0) _ [] zs _ (rd_nil _) (.inl rfl) (by simp) hiD (.inr hp) (by omega)).mono ?_; rintro e w2 ⟨v2,rfl,ho2,hb2⟩; have hw2 : WtP w2 ok wb pb mb sl (.slice a0 n0 c0') st.1 st.2 := (hwD.kpt (.of_below hb2 : Kpt [] w.drew w2) (fun _ _ => by simp) (fun x hx => .inl hx)); have hok2 : ∀ x,ok x -> x < w2.heap.size := fun x hx => (by have := hok x hx; have := hb2.size; simp at this; omega); obtain ⟨hlt2,e0',e1',g1'⟩ := hw2.cells))
 all_goals
  go_wp2_with fail
  exact bodyPost_end (results_none rfl _ _ _) rfl ⟨rfl,⟨_,_,hfin⟩,((Fr.drew ok w).trans (.of_below hb2)).trans hfr⟩
theorem bit_any (b : Bool) (n : Int) (w : World) : Calls Tryz.prog 69 #[.bool b,.int .i64 n] w fun e w' => e = .returned (.int .i64 (bitN b n)) /\ w = w' := by
 cases b
 all_goals
  go_enter Tryz.func69,Tryz.ntmps69
  go_wp2
  go_ret
  exact ⟨rfl,rfl⟩
end Go.Proofs.YtofnbapnmhibaaaGreat.A
