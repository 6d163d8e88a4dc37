/- Texts that the proof is made of, joined. No condition. -/
import Derived.Test.YtfpeakkbbfnhcaaGreatC133
import Derived.Test.YtfpeakkbbfnhcaaGreatC132
import Derived.Deep.DeepCutAuto
import Derived.Deep.CutBlock
import Derived.Test.YtfpeakkbbfnhcaaGreatC13H
set_option linter.unusedVariables false
set_option linter.unusedSimpArgs false
set_option maxRecDepth 100000
set_option maxHeartbeats 16000000
namespace Go.Proofs.YtfpeakkbbfnhcaaGreat.R
open Go.RowKit Go.Proofs.YtfpeakkbbfnhcaaGreat.D Go.Proofs.YtfpeakkbbfnhcaaGreat.O Go.Proofs.YtfpeakkbbfnhcaaGreat.A
theorem own_rdX {w : World} {B : Nat} {v : Value} {xs : List ByteArray} {T : TypeId} (h : S.OwnC S.cS T w B v xs) : RdX 1 (sP strC) (fun b => B <= b) w v xs := by
 rcases h.cells with ⟨rfl,rfl⟩ | ⟨g,cap,cur,rfl,hb,hlt,_,h1,_,h3,_⟩
 ·exact RdX.nil _ _ _ _
 ·refine ⟨_,cap,rfl,h1,(fun e => by cases e),.inr ⟨g,0,rfl,hb,hlt,fun i x hx => ⟨_,rfl,fun j u hu => ?_⟩⟩⟩
  cases j with
  | zero =>
   simp only [strC,List.getElem?_cons_zero,Option.some.injEq] at hu
   subst hu
   have := h3 i x hx
   rwa [Nat.zero_add,Nat.mul_one,Nat.add_zero]
  | succ j => simp [strC] at hu
theorem Chain_t (ok : Nat -> Prop) (tb mt : Nat) (vs : Value) (K : List Cls) (n : ByteArray) (w : World) (h : TrW w ok tb mt vs K) (hn : n.size <= maxLen) :
  Calls Tryz.prog 51 #[.pointer (some ⟨tb,0,none⟩),.string n] w fun e w' => ∃ p c,e = .returned (.slice p (chainT (K.map skOf) n).1.length c) /\ S.OwnC S.cS 9 w' w.heap.size (.slice p (chainT (K.map skOf) n).1.length c) (chainT (K.map skOf) n).1 /\ Below w.heap.size w w' := by
 go_enter Tryz.func51,Tryz.ntmps51
 go_wp2_with fail
 refine (chain_t ok tb mt vs K n w h hn).mono ?_
 rintro e w1 ⟨p,c,rfl,ho,hb⟩
 have HO := hid ho
 have HB := hid hb
 clear ho hb h
 go_wp2_with fail
 go_ret
 exact ⟨_,_,rfl,HO.out,HB.out⟩
theorem index_t (x : ByteArray) (l : List ByteArray) (p : Option Addr) (c : Nat) (ok : Nat -> Prop) (w : World) (hr : RdX 1 (sP strC) ok w (.slice p l.length c) l) (hl : l.length <= 1000000) :
  Calls Tryz.prog 111 #[.slice p l.length c,.string x] w fun e w' => (∃ r : Int,e = .returned (.int .i64 r) /\ decide (0 <= r) = S.hasB l x) /\ Below w.heap.size w w' := by
 have hcap : l.length <= c := by obtain ⟨_,_,e,h,_⟩ := hr; simp only [Value.slice.injEq] at e; rw [e.2.2]; exact h
 have HR := hid hr
 clear hr
 go_enter Tryz.func111,Tryz.ntmps111
 go_wp2_with fail
 go_loopw [8] (fun v wr => ∃ i : Nat,v = .int .i64 (i : Int) /\ i <= l.length /\ Hid (x ∉ l.take i) /\ wr = w) (fun v _ => l.length - (intOf v).toNat)
 case atStart => exact ⟨0,rfl,by omega,hid (by simp),rfl⟩
 case round =>
  obtain ⟨i,rfl,hi,HX,rfl⟩ := hrel
  by_cases hlt : i < l.length
  ·obtain ⟨y,hy⟩ : ∃ y,l[i]? = some y := ⟨_,List.getElem?_eq_getElem hlt⟩
   obtain ⟨b,off,rfl,-,-,hb,hbl,hc⟩ := rdX_at HR.out hy
   have hlt' : (i : Int) < (l.length : Int) := by omega
   have i0 : (0 : Int) <= (i : Int) := by omega
   have HY := hid hy
   clear hy
   by_cases hxy : x = y
   ·subst hxy
    have he := Go.Proofs.YtfpeakkbbfnhcaaGreat.txt_eq (rfl : x = x)
    go_wp2_with fail
    go_ret
    exact ⟨⟨_,rfl,by rw [S.hasB_in (List.mem_of_getElem? HY.out)]; exact decide_eq_true i0⟩,Below.refl _ _⟩
   ·have he := Go.Proofs.YtfpeakkbbfnhcaaGreat.txt_ne hxy
    go_wp2_with fail
    go_roundw
    case rel => exact ⟨i + 1,by go_num,by omega,hid (by
     obtain ⟨hi',e⟩ := List.getElem?_eq_some_iff.1 HY.out
     rw [List.take_succ_eq_append_getElem hi',e,List.mem_append]
     simp only [List.mem_singleton,not_or]
     exact ⟨HX.out,hxy⟩),by first | rfl | trivial⟩
    case measure => simp [intOf]; omega
  ·have hlt' : ¬ (i : Int) < (l.length : Int) := by omega
   obtain rfl : i = l.length := by omega
   go_wp2_with fail
   go_ret
   have hx := HX.out
   rw [List.take_length] at hx
   exact ⟨⟨_,rfl,by rw [S.hasB_out hx]; decide⟩,Below.refl _ _⟩
theorem contains_t (x : ByteArray) (l : List ByteArray) (p : Option Addr) (c : Nat) (ok : Nat -> Prop) (w : World) (hr : RdX 1 (sP strC) ok w (.slice p l.length c) l) (hl : l.length <= 1000000) :
  Calls Tryz.prog 53 #[.slice p l.length c,.string x] w fun e w' => e = .returned (.bool (S.hasB l x)) /\ Below w.heap.size w w' := by
 go_enter Tryz.func53,Tryz.ntmps53
 go_wp2_with fail
 refine (index_t x l p c ok w hr hl).mono ?_
 rintro e w1 ⟨⟨r,rfl,hrr⟩,hb⟩
 have HB := hid hb
 have HRR := hid hrr
 clear hb hr hrr
 go_wp2_with fail
 go_ret
 exact ⟨D.ret_bool (by rw [<- HRR.out]),HB.out⟩
theorem wp_appR {w : World} {ops : Array Oper} {rest : List Oper} {o : Oper} {a : Act} {Q : Exit -> Act -> World -> Prop} (hgd : o.guard = none) (s x : Operand)
  (ho : o.op = .call { callee := .builtin .append,args := #[s,x],argTypes := #[38,38] })
  (B : Nat) (v : Value) (xs : List ByteArray) (hs : a.eval s = v) (hown : S.OwnC S.cS 9 w B v xs) (ok : Nat -> Prop) (v2 : Value) (ys : List ByteArray) (hx : a.eval x = v2) (hy : RdX 1 (sP strC) ok w v2 ys)
  (hb : xs.length + ys.length <= 1000000) (hbase : B <= w.heap.size)
  (h : ∀ v' w',S.OwnC S.cS 9 w' B v' (xs ++ ys) -> w.grownBy w' v.ownBlock -> (v'.ownBlock = v.ownBlock ∨ v'.ownBlock = some w.heap.size) -> wpList Tryz.prog ops Q rest (a.put o.dst v') w') :
  wpList Tryz.prog ops Q (o :: rest) a w := by
 have hy' := hy
 obtain ⟨p,cap,e2,hle,hnone,hcs⟩ := hy
 by_cases hcap : cap <= maxLen
 ·refine S.wp_appC S.infS (fun _ => rfl) hgd s x ho B v xs hs hown ok v2 ys hx ⟨p,cap,e2,hle,hnone,hcap,?_⟩ hb hbase h
  rcases hcs with hcs | ⟨b,off,rfl,hb,hlt,_⟩
  ·exact .inl hcs
  ·refine .inr ⟨b,off,rfl,hb,hlt,fun i y hi => ?_⟩
   subst e2
   obtain ⟨b',off',e',_,_,_,_,hc⟩ := rdX_at hy' hi
   cases e'
   exact hc
 ·obtain ⟨hi1,hu,hz,hbb⟩ := S.infS
  obtain ⟨i0,hi,hz0,hz1,hz2⟩ := info_parts hi1
  subst e2
  cases p with
  | none =>
   have hc0 := hnone rfl
   rw [hc0] at hcap
   exact absurd (Nat.zero_le _) hcap
  | some ad =>
   refine wpList_append_own_at w hgd s x 38 ho B 9 i0 _ 1 16 hu hi hz0 hz1 hz2 hz (by decide) v xs.length (xs.map S.cS) hs hown ad ys.length cap (ys.map S.cS) hx (by simp) ?_ (by simp [Value.oneCell']) (by unfold maxLen; omega) (by omega) hbase ?_
   ·intro j u hj
    rw [List.getElem?_map,Option.map_eq_some_iff] at hj
    obtain ⟨y,hy1,rfl⟩ := hj
    obtain ⟨b',off',e',_,_,_,_,hc⟩ := rdX_at hy' hy1
    cases e'
    rw [S.add_add _ j rfl]
    exact hc
   ·intro v' w' g1 g2 _ g4
    refine h v' w' ?_ g2 g4
    unfold S.OwnC
    rw [List.length_append,List.map_append]
    exact g1
theorem Ifaces_t (ok : Nat -> Prop) (tb mt : Nat) (vs : Value) (K : List Cls) (n : ByteArray) (w : World) (h : TrW w ok tb mt vs K) (hn : n.size <= maxLen) :
  Calls Tryz.prog 54 #[.pointer (some ⟨tb,0,none⟩),.string n] w fun e w' => ∃ p c,e = .returned (.slice p (ifacesT (K.map skOf) n).length c) /\ S.OwnC S.cS 9 w' w.heap.size (.slice p (ifacesT (K.map skOf) n).length c) (ifacesT (K.map skOf) n) /\ Below w.heap.size w w' := by
 obtain ⟨R,hR⟩ : ∃ x,ifacesT (K.map skOf) n = x := ⟨_,rfl⟩
 obtain ⟨T,hT⟩ : ∃ x,K.map skOf = x := ⟨_,rfl⟩
 have HT := hid h
 have HS : Hid (SzT T) := hid (by rw [<- hT]; exact h.2.2.2.2.2)
 have HR : Hid (closedT T (wideT T n) = R) := hid (by rw [<- hT]; exact hR)
 have HTT := hid hT
 rw [hR]
 clear h hR hT
 have HW := hid (HS.out.wide n)
 have HKC := hid (chain_kn T n)
 have hclen := HKC.out.len
 have hTl := HS.out.1
 go_enter Tryz.func54,Tryz.ntmps54
 go_wp2_with fail
 refine (Chain_t ok tb mt vs K n w HT.out hn).mono ?_
 rw [HTT.out]
 rintro e w1 ⟨p,c,rfl,ho,hb⟩
 obtain ⟨l,hl⟩ : ∃ l,(chainT T n).1 = l := ⟨_,rfl⟩
 have HWT : Hid (wideT T n = l.flatMap (ifsT T)) := hid (by rw [<- hl]; rfl)
 rw [hl] at ho hclen HKC ⊢
 clear hl
 have HL := hid (own_rdX ho)
 have hcap : l.length <= c := by obtain ⟨_,_,e,h,_⟩ := HL.out; simp only [Value.slice.injEq] at e; rw [e.2.2]; exact h
 have HB := hid hb
 clear ho hb
 have hz1 := HB.out.size
 go_wp2_with fail
 go_loopw [5,12] (fun v x wr => ∃ i : Nat,x = .int .i64 (i : Int) /\ i <= l.length /\ Hid (S.OwnC S.cS 9 wr w1.heap.size v ((l.take i).flatMap (ifsT T))) /\ Hid (Below w1.heap.size w1 wr)) (fun _ x _ => l.length - (intOf x).toNat)
 case atStart => exact ⟨0,rfl,by omega,hid (S.OwnC.nil _ _),hid (Below.refl _ _)⟩
 case round =>
  obtain ⟨i,rfl,hi,HO,HBr⟩ := hrel
  by_cases hlt : i < l.length
  ·obtain ⟨y,hy⟩ : ∃ y,l[i]? = some y := ⟨_,List.getElem?_eq_getElem hlt⟩
   obtain ⟨b,off,rfl,-,-,hbk,hbl,hc⟩ := rdX_at HL.out hy
   have hlt' : (i : Int) < (l.length : Int) := by omega
   have i0 : (0 : Int) <= (i : Int) := by omega
   have hc2 : wr.cell? ⟨b,off + i,none⟩ = some (.string y) := (HBr.out.cell hbl).trans hc
   have hym := HS.out.kn HKC.out y (List.mem_of_getElem? hy)
   have HE : Hid ((l.take (i + 1)).flatMap (ifsT T) = (l.take i).flatMap (ifsT T) ++ ifsT T y) := hid (by
    obtain ⟨hi',e⟩ := List.getElem?_eq_some_iff.1 hy
    rw [List.take_succ_eq_append_getElem hi',e,List.flatMap_append]; simp)
   have hfl : ((l.take i).flatMap (ifsT T)).length + (ifsT T y).length <= 1000000 := by
    have h1 := flat_few HS.out (l.take i)
    have h2 := (HS.out.ifs y).1
    have h3 : (l.take i).length <= l.length := by rw [List.length_take]; omega
    omega
   have HFL := hid hfl
   obtain ⟨va,vn,vk,hv⟩ := HO.out.slice
   have HV := hid hv
   clear hy hc hfl hv
   go_wp2_with fail
   refine (own_t ok tb mt vs K y wr (HT.out.below (HB.out.trans (HBr.out.mono hz1))) hym).mono ?_
   rw [HTT.out]
   rintro e w2 ⟨q,c2,rfl,hr2,hb2⟩
   have HR2 := hid (hr2.any (sP.grow _) hb2)
   have HO2 := hid (HO.out.kpt (S.Kpt.of_below (S := []) hb2) (by simp))
   have HB2 := hid (HBr.out.trans (hb2.mono HBr.out.size))
   have hz2 := HB2.out.size
   clear hr2 hb2 HO HBr hc2
   go_wp2_with (at_builtin; refine wp_appR rfl _ _ rfl w1.heap.size _ _ rfl HO2.out ok _ (ifsT T y) rfl HR2.out HFL.out hz2 ?_)
   intro v3 w3 ho3 hg3 hl3
   have k3 : S.Kpt _ w2 w3 := .of_grown (S := _) hg3 (fun g e => .inl (by rw [e]; exact List.mem_singleton.2 rfl : g ∈ (Option.toList (Value.ownBlock _))))
   have HO3 : Hid (S.OwnC S.cS 9 w3 w1.heap.size v3 ((l.take (i + 1)).flatMap (ifsT T))) := hid (by rw [HE.out]; exact ho3)
   have HB3 : Hid (Below w1.heap.size w1 w3) := hid (HB2.out.trans (k3.below (fun x hx => (HO2.out.lt x (by simpa using hx)).1) hz2))
   clear ho3 hg3 hl3 k3 HO2 HR2 HB2
   go_wp2_with fail
   go_roundw
   case rel => exact ⟨i + 1,by go_num,by omega,HO3,HB3⟩
   case measure => simp [intOf]; omega
  ·have hlt' : ¬ (i : Int) < (l.length : Int) := by omega
   obtain rfl : i = l.length := by omega
   rw [List.take_length,<- HWT.out] at HO
   obtain ⟨pv,kv,hv,-⟩ := HO.out.rd.form
   subst hv
   have hbw := HB.out.trans (HBr.out.mono hz1)
   go_wp2_with fail
   refine (closed_t ok tb mt vs K wr (HT.out.below hbw) (wideT T n) pv kv _ (own_rdX HO.out) HW.out.1 HW.out.2).mono ?_
   rw [HTT.out,HR.out]
   rintro e w2 ⟨q,c2,rfl,ho2,hb2⟩
   have HO2 := hid (ho2.mono hbw.size)
   have HB2 := hid (hbw.trans (hb2.mono hbw.size))
   clear ho2 hb2 hbw
   go_wp2_with fail
   go_ret
   exact ⟨_,_,rfl,HO2.out,HB2.out⟩
end Go.Proofs.YtfpeakkbbfnhcaaGreat.R
namespace Go.Proofs.YtfpeakkbbfnhcaaGreat.R
open Go.RowKit Go.Proofs.YtfpeakkbbfnhcaaGreat.D Go.Proofs.YtfpeakkbbfnhcaaGreat.O Go.Proofs.YtfpeakkbbfnhcaaGreat.A
theorem SzT.chain {T : List Sk} (h : SzT T) (n : ByteArray) : (chainT T n).1.length <= 2000 := by
 have h1 := (chain_kn T n).len
 have h2 := h.1
 omega
theorem SzT.closed {T : List Sk} (h : SzT T) (l : List ByteArray) : (closedT T l).length <= 2000 := by
 have h1 := (closed_kn T l).len
 have h2 := h.1
 omega
theorem obj_eq {b : ByteArray} (h : b = objT) : (b.toList == [79,98,106,101,99,116]) = true := tl_eq #[79,98,106,101,99,116] h
theorem obj_ne {b : ByteArray} (h : b ≠ objT) : (b.toList == [79,98,106,101,99,116]) = false := tl_ne #[79,98,106,101,99,116] h
theorem Sub_t (ok : Nat -> Prop) (tb mt : Nat) (vs : Value) (K : List Cls) (a b : ByteArray) (w : World) (h : TrW w ok tb mt vs K) (ha : a.size <= maxLen) (hb : b.size <= maxLen) :
  Calls Tryz.prog 18 #[.pointer (some ⟨tb,0,none⟩),.string a,.string b] w fun e w' => e = .returned (.bool (subT (K.map skOf) a b)) /\ Below w.heap.size w w' := by
 have HT := hid h
 have HS := hid h.2.2.2.2.2
 have hcl := HS.out.chain a
 have hcl2 : (ifacesT (K.map skOf) a).length <= 2000 := HS.out.closed _
 clear h
 cases hka : knownT (K.map skOf) a with
 | false =>
  have HR : Hid (subT (K.map skOf) a b = false) := hid (by unfold subT; rw [hka]; rfl)
  go_enter Tryz.func18,Tryz.ntmps18
  go_wp2_with fail
  refine (known_t ok tb mt vs K a w HT.out ha).mono ?_
  rw [hka]
  rintro e w1 ⟨rfl,hb1⟩
  have HB := hid hb1
  clear hb1
  go_wp2_with fail
  go_ret
  exact ⟨by rw [HR.out]; rfl,HB.out⟩
 | true =>
  cases hkb : knownT (K.map skOf) b with
  | false =>
   have HR : Hid (subT (K.map skOf) a b = false) := hid (by unfold subT; rw [hka,hkb]; rfl)
   go_enter Tryz.func18,Tryz.ntmps18
   go_wp2_with fail
   refine (known_t ok tb mt vs K a w HT.out ha).mono ?_
   rw [hka]
   rintro e w1 ⟨rfl,hb1⟩
   have HB := hid hb1
   clear hb1
   go_wp2_with fail
   refine (known_t ok tb mt vs K b w1 (HT.out.below HB.out) hb).mono ?_
   rw [hkb]
   rintro e w2 ⟨rfl,hb2⟩
   have HB2 := hid (HB.out.trans (hb2.mono HB.out.size))
   clear hb2 HB
   go_wp2_with fail
   go_ret
   exact ⟨by rw [HR.out]; rfl,HB2.out⟩
  | true =>
   by_cases hab : a = b
   ·have HR : Hid (subT (K.map skOf) a b = true) := hid (by unfold subT; rw [hka,hkb,if_pos rfl,if_pos rfl,if_pos hab])
    have he := Go.Proofs.YtfpeakkbbfnhcaaGreat.txt_eq hab
    clear hab
    go_enter Tryz.func18,Tryz.ntmps18
    go_wp2_with fail
    refine (known_t ok tb mt vs K a w HT.out ha).mono ?_
    rw [hka]
    rintro e w1 ⟨rfl,hb1⟩
    have HB := hid hb1
    clear hb1
    go_wp2_with fail
    refine (known_t ok tb mt vs K b w1 (HT.out.below HB.out) hb).mono ?_
    rw [hkb]
    rintro e w2 ⟨rfl,hb2⟩
    have HB2 := hid (HB.out.trans (hb2.mono HB.out.size))
    clear hb2 HB
    go_wp2_with fail
    go_ret
    exact ⟨by rw [HR.out]; rfl,HB2.out⟩
   ·have he := Go.Proofs.YtfpeakkbbfnhcaaGreat.txt_ne hab
    by_cases hbo : b = objT
    ·have HR : Hid (subT (K.map skOf) a b = true) := hid (by unfold subT; rw [hka,hkb,if_pos rfl,if_pos rfl,if_neg hab,if_pos hbo])
     have he2 := obj_eq hbo
     clear hbo hab
     go_enter Tryz.func18,Tryz.ntmps18
     go_wp2_with fail
     refine (known_t ok tb mt vs K a w HT.out ha).mono ?_
     rw [hka]
     rintro e w1 ⟨rfl,hb1⟩
     have HB := hid hb1
     clear hb1
     go_wp2_with fail
     refine (known_t ok tb mt vs K b w1 (HT.out.below HB.out) hb).mono ?_
     rw [hkb]
     rintro e w2 ⟨rfl,hb2⟩
     have HB2 := hid (HB.out.trans (hb2.mono HB.out.size))
     clear hb2 HB
     go_wp2_with fail
     go_ret
     exact ⟨by rw [HR.out]; rfl,HB2.out⟩
    ·have he2 := obj_ne hbo
     have hsub : subT (K.map skOf) a b = (S.hasB (chainT (K.map skOf) a).1 b || S.hasB (ifacesT (K.map skOf) a) b) := by unfold subT; rw [hka,hkb,if_pos rfl,if_pos rfl,if_neg hab,if_neg hbo]
     have HSUB := hid hsub
     clear hsub hbo hab
     go_enter Tryz.func18,Tryz.ntmps18
     go_wp2_with fail
     refine (known_t ok tb mt vs K a w HT.out ha).mono ?_
     rw [hka]
     rintro e w1 ⟨rfl,hb1⟩
     have HB := hid hb1
     clear hb1
     go_wp2_with fail
     refine (known_t ok tb mt vs K b w1 (HT.out.below HB.out) hb).mono ?_
     rw [hkb]
     rintro e w2 ⟨rfl,hb2⟩
     have HB2 := hid (HB.out.trans (hb2.mono HB.out.size))
     clear hb2 HB
     go_wp2_with fail
     refine (Chain_t ok tb mt vs K a w2 (HT.out.below HB2.out) ha).mono ?_
     rintro e w3 ⟨p,c,rfl,ho3,hb3⟩
     have HO3 := hid (own_rdX ho3)
     have HB3 := hid (HB2.out.trans (hb3.mono HB2.out.size))
     clear ho3 hb3 HB2
     go_wp2_with fail
     refine (contains_t b _ p c _ w3 HO3.out (by omega)).mono ?_
     rintro e w4 ⟨rfl,hb4⟩
     have HB4 := hid (HB3.out.trans (hb4.mono HB3.out.size))
     clear hb4 HB3 HO3
     cases hin : S.hasB (chainT (K.map skOf) a).1 b with
     | true =>
      have HR : Hid (subT (K.map skOf) a b = true) := hid (by rw [HSUB.out,hin]; rfl)
      go_wp2_with fail
      go_ret
      exact ⟨by rw [HR.out]; rfl,HB4.out⟩
     | false =>
      have HR : Hid (subT (K.map skOf) a b = S.hasB (ifacesT (K.map skOf) a) b) := hid (by rw [HSUB.out,hin]; rfl)
      go_wp2_with fail
      refine (Ifaces_t ok tb mt vs K a w4 (HT.out.below HB4.out) ha).mono ?_
      rintro e w5 ⟨p5,c5,rfl,ho5,hb5⟩
      have HO5 := hid (own_rdX ho5)
      have HB5 := hid (HB4.out.trans (hb5.mono HB4.out.size))
      clear ho5 hb5 HB4
      go_wp2_with fail
      refine (contains_t b _ p5 c5 _ w5 HO5.out (by omega)).mono ?_
      rintro e w6 ⟨rfl,hb6⟩
      have HB6 := hid (HB5.out.trans (hb6.mono HB5.out.size))
      clear hb6 HB5 HO5
      go_wp2_with fail
      go_ret
      exact ⟨by rw [HR.out]; rfl,HB6.out⟩
end Go.Proofs.YtfpeakkbbfnhcaaGreat.R
namespace Go.Proofs.YtfpeakkbbfnhcaaGreat.R
open Go.RowKit Go.Proofs.YtfpeakkbbfnhcaaGreat.D Go.Proofs.YtfpeakkbbfnhcaaGreat.O Go.Proofs.YtfpeakkbbfnhcaaGreat.A
theorem first_at {l m : List ByteArray} {i : Nat} {y : ByteArray} (h : m[i]? = some y) : firstIn l (m.drop i) = if S.hasB l y = true then y else firstIn l (m.drop (i + 1)) := by
 obtain ⟨hi,rfl⟩ := List.getElem?_eq_some_iff.1 h
 rw [List.drop_eq_getElem_cons hi]
 rfl
theorem Common_t (ok : Nat -> Prop) (tb mt : Nat) (vs : Value) (K : List Cls) (a b : ByteArray) (w : World) (h : TrW w ok tb mt vs K) (ha : a.size <= maxLen) (hb : b.size <= maxLen) :
  Calls Tryz.prog 17 #[.pointer (some ⟨tb,0,none⟩),.string a,.string b] w fun e w' => e = .returned (.string (commonT (K.map skOf) a b)) /\ Below w.heap.size w w' := by
 obtain ⟨R,hR⟩ : ∃ x,commonT (K.map skOf) a b = x := ⟨_,rfl⟩
 have HT := hid h
 have HS := hid h.2.2.2.2.2
 have hcl := HS.out.chain a
 have hcl2 := HS.out.chain b
 have HKA := hid (chain_kn (K.map skOf) a)
 have HKB := hid (chain_kn (K.map skOf) b)
 rw [hR]
 unfold commonT at hR
 clear h
 by_cases hab : a = b
 ·have HRR : Hid (firstIn (chainT (K.map skOf) b).1 ((chainT (K.map skOf) a).1.drop 0) = R) := hid (by rw [List.drop_zero,<- hR,if_pos hab])
  have he := Go.Proofs.YtfpeakkbbfnhcaaGreat.txt_eq hab
  have HB : Hid (Below w.heap.size w w) := hid (Below.refl _ _)
  clear hab hR
  go_enter Tryz.func17,Tryz.ntmps17
  go_wp2_with fail
  refine (Chain_t ok tb mt vs K b w (HT.out.below HB.out) hb).mono ?_
  rintro e w2 ⟨p2,c2,rfl,ho2,hb2⟩
  have HB2 := hid (HB.out.trans (hb2.mono HB.out.size))
  have HO2 := hid ho2
  clear ho2 hb2 HB
  go_wp2_with fail
  refine (S.new_S _ _ _ w2 HO2.out.rd (HS.out.kn HKB.out) (by omega)).mono ?_
  rintro e w3 ⟨sb,mb,rfl,hs3,hb3⟩
  have HB3 := hid (HB2.out.trans (hb3.mono HB2.out.size))
  have HS3 := hid hs3
  clear hs3 hb3 HB2 HO2
  go_wp2_with fail
  refine (Chain_t ok tb mt vs K a w3 (HT.out.below HB3.out) ha).mono ?_
  rintro e w4 ⟨p4,c4,rfl,ho4,hb4⟩
  have HB4 := hid (HB3.out.trans (hb4.mono HB3.out.size))
  have HS4 := hid (HS3.out.bel hb4)
  have HO4 := hid (own_rdX ho4)
  clear ho4 hb4 HB3 HS3
  obtain ⟨l,hl⟩ : ∃ l,(chainT (K.map skOf) a).1 = l := ⟨_,rfl⟩
  rw [hl] at HO4 HKA HRR hcl ⊢
  clear hl
  have hcap : l.length <= c4 := by obtain ⟨_,_,e,h,_⟩ := HO4.out; simp only [Value.slice.injEq] at e; rw [e.2.2]; exact h
  have hz4 := HB4.out.size
  go_wp2_with fail
  go_loopw [31] (fun v wr => ∃ i : Nat,v = .int .i64 (i : Int) /\ i <= l.length /\ Hid (firstIn (chainT (K.map skOf) b).1 (l.drop i) = R) /\ Hid (Below w4.heap.size w4 wr)) (fun v _ => l.length - (intOf v).toNat)
  case atStart => exact ⟨0,rfl,by omega,HRR,hid (Below.refl _ _)⟩
  case round =>
   clear HRR
   obtain ⟨i,rfl,hi,HF,HBr⟩ := hrel
   by_cases hlt : i < l.length
   ·obtain ⟨y,hy⟩ : ∃ y,l[i]? = some y := ⟨_,List.getElem?_eq_getElem hlt⟩
    obtain ⟨bb,off,rfl,-,-,hbk,hbl,hc⟩ := rdX_at HO4.out hy
    have hlt' : (i : Int) < (l.length : Int) := by omega
    have i0 : (0 : Int) <= (i : Int) := by omega
    have hc2 : wr.cell? ⟨bb,off + i,none⟩ = some (.string y) := (HBr.out.cell hbl).trans hc
    have hym := HS.out.kn HKA.out y (List.mem_of_getElem? hy)
    have HF2 := hid ((first_at (l := (chainT (K.map skOf) b).1) hy).symm.trans HF.out)
    have hhe : S.hasB (S.onceL (chainT (K.map skOf) b).1) y = S.hasB (chainT (K.map skOf) b).1 y := S.hasB_eq (S.onceL_mem _ y)
    have HHE := hid hhe
    clear hy hc hhe
    have hbr := HB4.out.trans (HBr.out.mono hz4)
    have HBR := hid hbr
    clear hbr
    have HSr := hid (HS4.out.kpt (S.Kpt.of_below (S := []) HBr.out) (by simp) (by simp))
    cases hin : S.hasB (chainT (K.map skOf) b).1 y with
    | true =>
     have HE : Hid (y = R) := hid (by have := HF2.out; rwa [if_pos hin] at this)
     go_wp2_with fail
     refine (S.has_S w2.heap.size sb mb _ y wr HSr.out hym).mono ?_
     rw [HHE.out,hin]
     rintro e w5 ⟨rfl,hb5⟩
     have HB5 := hid (HBR.out.trans (hb5.mono HBR.out.size))
     clear hb5
     go_wp2_with fail
     go_ret
     exact ⟨by rw [HE.out]; rfl,HB5.out⟩
    | false =>
     have HF3 : Hid (firstIn (chainT (K.map skOf) b).1 (l.drop (i + 1)) = R) := hid (by have := HF2.out; rwa [if_neg (by rw [hin]; simp)] at this)
     go_wp2_with fail
     refine (S.has_S w2.heap.size sb mb _ y wr HSr.out hym).mono ?_
     rw [HHE.out,hin]
     rintro e w5 ⟨rfl,hb5⟩
     have HB5 := hid (HBr.out.trans (hb5.mono HBr.out.size))
     clear hb5
     go_wp2_with fail
     go_roundw
     case rel => exact ⟨i + 1,by go_num,by omega,HF3,HB5⟩
     case measure => simp [intOf]; omega
   ·have hlt' : ¬ (i : Int) < (l.length : Int) := by omega
    obtain rfl : i = l.length := by omega
    have HE : Hid (objT = R) := hid (by have := HF.out; rwa [List.drop_length] at this)
    go_wp2_with fail
    go_ret
    exact ⟨by rw [<- HE.out]; rfl,HB4.out.trans (HBr.out.mono hz4)⟩
 ·have he := Go.Proofs.YtfpeakkbbfnhcaaGreat.txt_ne hab
  rw [if_neg hab] at hR
  clear hab
  cases hka : decide (kindT (K.map skOf) a = 4) with
  | true =>
   have HE : Hid (objT = R) := hid (by rwa [if_pos (of_decide_eq_true hka)] at hR)
   clear hR
   go_enter Tryz.func17,Tryz.ntmps17
   go_wp2_with fail
   refine (isif_t ok tb mt vs K a w HT.out ha).mono ?_
   rw [hka]
   rintro e w1 ⟨rfl,hb1⟩
   have HB := hid hb1
   clear hb1
   go_wp2_with fail
   go_ret
   exact ⟨by rw [<- HE.out]; rfl,HB.out⟩
  | false =>
   rw [if_neg (of_decide_eq_false hka)] at hR
   cases hkb : decide (kindT (K.map skOf) b = 4) with
   | true =>
    have HE : Hid (objT = R) := hid (by rwa [if_pos (of_decide_eq_true hkb)] at hR)
    clear hR
    go_enter Tryz.func17,Tryz.ntmps17
    go_wp2_with fail
    refine (isif_t ok tb mt vs K a w HT.out ha).mono ?_
    rw [hka]
    rintro e w1 ⟨rfl,hb1⟩
    have HB := hid hb1
    clear hb1
    go_wp2_with fail
    refine (isif_t ok tb mt vs K b w1 (HT.out.below HB.out) hb).mono ?_
    rw [hkb]
    rintro e w2 ⟨rfl,hb2⟩
    have HB2 := hid (HB.out.trans (hb2.mono HB.out.size))
    clear hb2
    go_wp2_with fail
    go_ret
    exact ⟨by rw [<- HE.out]; rfl,HB2.out⟩
   | false =>
    rw [if_neg (of_decide_eq_false hkb)] at hR
    have HRR : Hid (firstIn (chainT (K.map skOf) b).1 ((chainT (K.map skOf) a).1.drop 0) = R) := hid (by rw [List.drop_zero,<- hR])
    clear hR
    go_enter Tryz.func17,Tryz.ntmps17
    go_wp2_with fail
    refine (isif_t ok tb mt vs K a w HT.out ha).mono ?_
    rw [hka]
    rintro e w0 ⟨rfl,hb0⟩
    have HB0 := hid hb0
    clear hb0 hka
    go_wp2_with fail
    refine (isif_t ok tb mt vs K b w0 (HT.out.below HB0.out) hb).mono ?_
    rw [hkb]
    rintro e w1 ⟨rfl,hb1⟩
    have HB := hid (HB0.out.trans (hb1.mono HB0.out.size))
    clear hb1 HB0 hkb
    go_wp2_with fail
    refine (Chain_t ok tb mt vs K b w1 (HT.out.below HB.out) hb).mono ?_
    rintro e w2 ⟨p2,c2,rfl,ho2,hb2⟩
    have HB2 := hid (HB.out.trans (hb2.mono HB.out.size))
    have HO2 := hid ho2
    clear ho2 hb2 HB
    go_wp2_with fail
    refine (S.new_S _ _ _ w2 HO2.out.rd (HS.out.kn HKB.out) (by omega)).mono ?_
    rintro e w3 ⟨sb,mb,rfl,hs3,hb3⟩
    have HB3 := hid (HB2.out.trans (hb3.mono HB2.out.size))
    have HS3 := hid hs3
    clear hs3 hb3 HB2 HO2
    go_wp2_with fail
    refine (Chain_t ok tb mt vs K a w3 (HT.out.below HB3.out) ha).mono ?_
    rintro e w4 ⟨p4,c4,rfl,ho4,hb4⟩
    have HB4 := hid (HB3.out.trans (hb4.mono HB3.out.size))
    have HS4 := hid (HS3.out.bel hb4)
    have HO4 := hid (own_rdX ho4)
    clear ho4 hb4 HB3 HS3
    obtain ⟨l,hl⟩ : ∃ l,(chainT (K.map skOf) a).1 = l := ⟨_,rfl⟩
    rw [hl] at HO4 HKA HRR hcl ⊢
    clear hl
    have hcap : l.length <= c4 := by obtain ⟨_,_,e,h,_⟩ := HO4.out; simp only [Value.slice.injEq] at e; rw [e.2.2]; exact h
    have hz4 := HB4.out.size
    go_wp2_with fail
    go_loopw [31] (fun v wr => ∃ i : Nat,v = .int .i64 (i : Int) /\ i <= l.length /\ Hid (firstIn (chainT (K.map skOf) b).1 (l.drop i) = R) /\ Hid (Below w4.heap.size w4 wr)) (fun v _ => l.length - (intOf v).toNat)
    case atStart => exact ⟨0,rfl,by omega,HRR,hid (Below.refl _ _)⟩
    case round =>
     clear HRR
     obtain ⟨i,rfl,hi,HF,HBr⟩ := hrel
     by_cases hlt : i < l.length
     ·obtain ⟨y,hy⟩ : ∃ y,l[i]? = some y := ⟨_,List.getElem?_eq_getElem hlt⟩
      obtain ⟨bb,off,rfl,-,-,hbk,hbl,hc⟩ := rdX_at HO4.out hy
      have hlt' : (i : Int) < (l.length : Int) := by omega
      have i0 : (0 : Int) <= (i : Int) := by omega
      have hc2 : wr.cell? ⟨bb,off + i,none⟩ = some (.string y) := (HBr.out.cell hbl).trans hc
      have hym := HS.out.kn HKA.out y (List.mem_of_getElem? hy)
      have HF2 := hid ((first_at (l := (chainT (K.map skOf) b).1) hy).symm.trans HF.out)
      have hhe : S.hasB (S.onceL (chainT (K.map skOf) b).1) y = S.hasB (chainT (K.map skOf) b).1 y := S.hasB_eq (S.onceL_mem _ y)
      have HHE := hid hhe
      clear hy hc hhe
      have hbr := HB4.out.trans (HBr.out.mono hz4)
      have HBR := hid hbr
      clear hbr
      have HSr := hid (HS4.out.kpt (S.Kpt.of_below (S := []) HBr.out) (by simp) (by simp))
      cases hin : S.hasB (chainT (K.map skOf) b).1 y with
      | true =>
       have HE : Hid (y = R) := hid (by have := HF2.out; rwa [if_pos hin] at this)
       go_wp2_with fail
       refine (S.has_S w2.heap.size sb mb _ y wr HSr.out hym).mono ?_
       rw [HHE.out,hin]
       rintro e w5 ⟨rfl,hb5⟩
       have HB5 := hid (HBR.out.trans (hb5.mono HBR.out.size))
       clear hb5
       go_wp2_with fail
       go_ret
       exact ⟨by rw [HE.out]; rfl,HB5.out⟩
      | false =>
       have HF3 : Hid (firstIn (chainT (K.map skOf) b).1 (l.drop (i + 1)) = R) := hid (by have := HF2.out; rwa [if_neg (by rw [hin]; simp)] at this)
       go_wp2_with fail
       refine (S.has_S w2.heap.size sb mb _ y wr HSr.out hym).mono ?_
       rw [HHE.out,hin]
       rintro e w5 ⟨rfl,hb5⟩
       have HB5 := hid (HBr.out.trans (hb5.mono HBr.out.size))
       clear hb5
       go_wp2_with fail
       go_roundw
       case rel => exact ⟨i + 1,by go_num,by omega,HF3,HB5⟩
       case measure => simp [intOf]; omega
     ·have hlt' : ¬ (i : Int) < (l.length : Int) := by omega
      obtain rfl : i = l.length := by omega
      have HE : Hid (objT = R) := hid (by have := HF.out; rwa [List.drop_length] at this)
      go_wp2_with fail
      go_ret
      exact ⟨by rw [<- HE.out]; rfl,HB4.out.trans (HBr.out.mono hz4)⟩
end Go.Proofs.YtfpeakkbbfnhcaaGreat.R
namespace Go.Proofs.YtfpeakkbbfnhcaaGreat.R
open Go.RowKit Go.Proofs.YtfpeakkbbfnhcaaGreat.D Go.Proofs.YtfpeakkbbfnhcaaGreat.O Go.Proofs.YtfpeakkbbfnhcaaGreat.A
def nulB (k : Int) : Bool := decide (k = 3) || decide (k = 4)
theorem nullable_y (k : Int) (s : ByteArray) (w : World) :
  Calls Tryz.prog 197 #[.agg #[.int .i64 k,.string s]] w fun e w' => e = .returned (.bool (nulB k)) /\ Below w.heap.size w w' := by
 by_cases h3 : k = 3
 ·subst h3
  go_enter Tryz.func197,Tryz.ntmps197
  go_wp2_with fail
  go_ret
  exact ⟨rfl,below_alR _ _⟩
 ·have e3 : (k == 3) = false := by simpa using h3
  by_cases h4 : k = 4
  ·subst h4
   go_enter Tryz.func197,Tryz.ntmps197
   go_wp2_with fail
   go_ret
   exact ⟨rfl,below_alR _ _⟩
  ·have e4 : (k == 4) = false := by simpa using h4
   have e5 : nulB k = false := by unfold nulB; simp [h3,h4]
   rw [e5]
   go_enter Tryz.func197,Tryz.ntmps197
   go_wp2_with fail
   go_ret
   exact ⟨rfl,below_alR _ _⟩
theorem refs_y (k1 k2 : Int) (s1 s2 : ByteArray) (w : World) :
  Calls Tryz.prog 198 #[.agg #[.int .i64 k1,.string s1],.agg #[.int .i64 k2,.string s2]] w fun e w' => e = .returned (.bool (decide (k1 = 4 /\ k2 = 4))) /\ Below w.heap.size w w' := by
 by_cases h1 : k1 = 4
 ·subst h1
  by_cases h2 : k2 = 4
  ·subst h2
   go_enter Tryz.func198,Tryz.ntmps198
   go_wp2_with fail
   go_ret
   exact ⟨rfl,jbl2 _ _ _⟩
  ·have e2 : (k2 == 4) = false := by simpa using h2
   rw [show decide ((4 : Int) = 4 /\ k2 = 4) = false by simp [h2]]
   go_enter Tryz.func198,Tryz.ntmps198
   go_wp2_with fail
   go_ret
   exact ⟨rfl,jbl2 _ _ _⟩
 ·have e1 : (k1 == 4) = false := by simpa using h1
  rw [show decide (k1 = 4 /\ k2 = 4) = false by simp [h1]]
  go_enter Tryz.func198,Tryz.ntmps198
  go_wp2_with fail
  go_ret
  exact ⟨rfl,jbl2 _ _ _⟩
theorem Refers_y (a : Ty) (w : World) :
  Calls Tryz.prog 192 #[tyv a] w fun e w' => e = .returned (.bool (refB a)) /\ Below w.heap.size w w' := by
 obtain ⟨k,s⟩ := a
 show Calls _ _ #[.agg #[.int .i64 k,.string s]] w _
 by_cases h6 : k = 6
 ·subst h6
  go_enter Tryz.func192,Tryz.ntmps192
  go_wp2_with fail
  go_ret
  exact ⟨rfl,below_alR _ _⟩
 ·have e6 : (k == 6) = false := by simpa using h6
  have e5 : refB (k,s) = nulB k := by unfold refB nulB; simp [h6]
  rw [e5]
  go_enter Tryz.func192,Tryz.ntmps192
  go_wp2_with fail
  refine (nullable_y k s _).mono ?_
  rintro e w1 ⟨rfl,hb⟩
  have HB := hid ((below_alR _ _).trans (hb.mono (below_alR _ _).size))
  clear hb
  go_wp2_with fail
  go_ret
  exact ⟨rfl,HB.out⟩
end Go.Proofs.YtfpeakkbbfnhcaaGreat.R
