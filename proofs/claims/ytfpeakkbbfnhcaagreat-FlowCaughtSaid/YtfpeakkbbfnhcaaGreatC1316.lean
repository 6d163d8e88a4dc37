/- Texts that the proof is made of, joined. No condition. -/
import Derived.Test.YtfpeakkbbfnhcaaGreatC1315
import Derived.Deep.DeepCutAuto
import Derived.Deep.CutBlock
import Derived.Test.YtfpeakkbbfnhcaaGreatC139
import Derived.Test.YtfpeakkbbfnhcaaGreatC13H
set_option linter.unusedVariables false
set_option linter.unusedSimpArgs false
set_option maxRecDepth 100000
set_option maxHeartbeats 16000000
namespace Go.Proofs.YtfpeakkbbfnhcaaGreat.R
open Go.RowKit Go.Proofs.YtfpeakkbbfnhcaaGreat.D Go.Proofs.YtfpeakkbbfnhcaaGreat.O Go.Proofs.YtfpeakkbbfnhcaaGreat.A
theorem FSame_f (va vb : Value) (a b : Fr) (w : World) (ha : RdF w va a) (hb : RdF w vb b) (hz : SzF a) (hzb : SzF b) :
  Calls Tryz.prog 136 #[va,vb] w fun e w' => e = .returned (.bool (decide (a = b))) /\ Below w.heap.size w w' := by
 obtain ⟨pl,cl,ps,cs,rfl,h1,h2⟩ := ha
 obtain ⟨pm,cm,pt,ct,rfl,h3,h4⟩ := hb
 obtain ⟨ra,la,sa⟩ := a
 obtain ⟨rb,lb,sb⟩ := b
 dsimp only at h1 h2 h3 h4 ⊢
 have hl := hz.2.2.1
 have hs := hz.2.2.2
 dsimp only at hl hs
 have hl2 := hzb.2.2.1
 have hs2 := hzb.2.2.2
 dsimp only at hl2 hs2
 clear hz hzb
 by_cases hr : ra = rb
 ·subst hr
  have er : (ra == ra) = true := by simp
  rw [show decide (((ra,la,sa) : Fr) = (ra,lb,sb)) = (decide (la = lb) && decide (sa = sb)) by by_cases e1 : la = lb <;> by_cases e2 : sa = sb <;> simp [e1,e2]]
  obtain ⟨wn,hwn⟩ : ∃ x,x = (w.alloc (.cells #[.bool ra,.slice pl la.length cl,.slice ps sa.length cs] 61)).alloc (.cells #[.bool ra,.slice pm lb.length cm,.slice pt sb.length ct] 61) := ⟨_,rfl⟩
  have HB : Hid (Below w.heap.size w wn) := hid (by rw [hwn]; exact jbl2 _ _ _)
  have HA : Hid (wn.heap[w.heap.size]? = some (.cells #[.bool ra,.slice pl la.length cl,.slice ps sa.length cs] 61 (0,0))) := hid (by rw [hwn,(below_alR _ _).block _ (by simp)]; exact heap_alloc_new _ _)
  have HC : Hid (wn.heap[w.heap.size + 1]? = some (.cells #[.bool ra,.slice pm lb.length cm,.slice pt sb.length ct] 61 (0,0))) := hid (by rw [hwn]; exact jal2 _ _ _ _)
  have H1 := hid (h1.any (sP.grow _) HB.out)
  have H2 := hid (h2.any (sP.grow _) HB.out)
  have H3 := hid (h3.any (sP.grow _) HB.out)
  have H4 := hid (h4.any (sP.grow _) HB.out)
  clear h1 h2 h3 h4
  go_enter Tryz.func136,Tryz.ntmps136
  go_upto_region 1 with fail
  rw [<- hwn]
  clear hwn
  obtain ⟨g,hg⟩ : ∃ z,w.heap.size = z := ⟨_,rfl⟩
  rw [hg] at HA HC ⊢
  clear hg
  obtain ⟨al,a0,a1,a2⟩ := c3_at HA.out
  obtain ⟨xl,c0,c1,c2⟩ := c3_at HC.out
  go_wp2_with fail
  clear al a0 a1 a2 xl c0 c1 c2
  refine (Go.Proofs.YtfpeakkbbfnhcaaGreat.D.same_any _ _ la lb _ (rdT_f H1.out) (rdT_f H3.out) (by omega) (by omega)).mono ?_
  rw [show sameB la lb = decide (la = lb) from rfl]
  rintro e w1 ⟨rfl,hbn⟩
  replace HA := hid (blk_b HA.out hbn)
  replace HC := hid (blk_b HC.out hbn)
  replace H2 := hid (H2.out.any (sP.grow _) hbn)
  replace H4 := hid (H4.out.any (sP.grow _) hbn)
  replace HB := hid (HB.out.trans (hbn.mono HB.out.size))
  clear hbn H1 H3
  obtain ⟨al,a0,a1,a2⟩ := c3_at HA.out
  obtain ⟨xl,c0,c1,c2⟩ := c3_at HC.out
  cases hL : decide (la = lb) with
  | false =>
   have HLd := hid hL
   clear hL
   go_wp2_with fail
   go_ret
   exact ⟨by rw [HLd.out]; rfl,HB.out⟩
  | true =>
   have HLd := hid hL
   clear hL
   go_wp2_with fail
   clear al a0 a1 a2 xl c0 c1 c2
   refine (Go.Proofs.YtfpeakkbbfnhcaaGreat.D.same_any _ _ sa sb _ (rdT_f H2.out) (rdT_f H4.out) (by omega) (by omega)).mono ?_
   rw [show sameB sa sb = decide (sa = sb) from rfl]
   rintro e w2 ⟨rfl,hbn⟩
   replace HB := hid (HB.out.trans (hbn.mono HB.out.size))
   clear hbn
   go_wp2_with fail
   go_ret
   exact ⟨by rw [HLd.out,Bool.true_and]; rfl,HB.out⟩
 ·have er : (ra == rb) = false := by simpa using hr
  rw [decide_eq_false (fun e => hr (congrArg Prod.fst e))]
  clear h1 h2 h3 h4
  go_enter Tryz.func136,Tryz.ntmps136
  go_wp2_with fail
  go_ret
  exact ⟨by simp [*],jbl2 _ _ _⟩
theorem FJoin_g (ok : Nat -> Prop) (vt : Value) (K : List Cls) (va vb : Value) (a b : Fr) (w : World) (h : TrN w ok vt K) (ha : RdF w va a) (hb : RdF w vb b) (hz : SzF a) (hzb : SzF b) :
  Calls Tryz.prog 137 #[vt,va,vb] w fun e w' => ∃ vg,e = .returned (.tuple #[vg,.int .i64 (joinF (K.map skOf) a b).2]) /\ RdG w.heap.size w' vg (joinF (K.map skOf) a b).1 /\ Below w.heap.size w w' := by
 obtain ⟨pl,cl,ps,cs,rfl,h1,h2⟩ := ha
 obtain ⟨pm,cm,pt,ct,rfl,h3,h4⟩ := hb
 obtain ⟨ra,la,sa⟩ := a
 obtain ⟨rb,lb,sb⟩ := b
 have hl := hz.2.2.1
 have hs := hz.2.2.2
 dsimp only at h1 h2 h3 h4 hl hs ⊢
 have HZA := hid hz
 have HZB := hid hzb
 clear hz hzb
 obtain ⟨wn,hwn⟩ : ∃ x,x = ((w.alloc (.cells #[.bool ra,.slice pl la.length cl,.slice ps sa.length cs] 61)).alloc (.cells #[.bool rb,.slice pm lb.length cm,.slice pt sb.length ct] 61)).alloc (.cells #[.bool false,.slice none 0 0,.slice none 0 0] 61) := ⟨_,rfl⟩
 have hb3 := jbl2 w (.cells #[.bool ra,.slice pl la.length cl,.slice ps sa.length cs] 61) (.cells #[.bool rb,.slice pm lb.length cm,.slice pt sb.length ct] 61)
 have HB : Hid (Below w.heap.size w wn) := hid (by rw [hwn]; exact hb3.trans ((below_alR _ _).mono hb3.size))
 have HA : Hid (wn.heap[w.heap.size]? = some (.cells #[.bool ra,.slice pl la.length cl,.slice ps sa.length cs] 61 (0,0))) := hid (by rw [hwn,(jbl2 _ _ _).block _ (by simp)]; exact heap_alloc_new _ _)
 have HC : Hid (wn.heap[w.heap.size + 1]? = some (.cells #[.bool rb,.slice pm lb.length cm,.slice pt sb.length ct] 61 (0,0))) := hid (by rw [hwn,(below_alR _ _).block _ (by simp)]; exact jal2 _ _ _ _)
 have HR : Hid (wn.heap[w.heap.size + 2]? = some (.cells #[.bool false,.slice none 0 0,.slice none 0 0] 61 (0,0))) := hid (by rw [hwn]; have h := heap_alloc_new ((w.alloc (.cells #[.bool ra,.slice pl la.length cl,.slice ps sa.length cs] 61)).alloc (.cells #[.bool rb,.slice pm lb.length cm,.slice pt sb.length ct] 61)) (.cells #[.bool false,.slice none 0 0,.slice none 0 0] 61); simp only [World.size_alloc] at h; exact h)
 have H1 := hid ((rd_own h1).any (sP.grow _) HB.out)
 have H2 := hid ((rd_own h2).any (sP.grow _) HB.out)
 have H3 := hid ((rd_own h3).any (sP.grow _) HB.out)
 have H4 := hid ((rd_own h4).any (sP.grow _) HB.out)
 have HT := hid (h.below HB.out)
 clear h1 h2 h3 h4 h hb3
 obtain ⟨RJ,hRJ⟩ : ∃ r,joinF (K.map skOf) (ra,la,sa) (rb,lb,sb) = r := ⟨_,rfl⟩
 rw [hRJ]
 have HRJ := hid hRJ
 clear hRJ
 go_enter Tryz.func137,Tryz.ntmps137
 go_upto_region 1 with fail
 rw [<- hwn]
 clear hwn
 obtain ⟨g,hg⟩ : ∃ z,w.heap.size = z := ⟨_,rfl⟩
 rw [hg] at HA HC HR H1 H2 H3 H4 ⊢
 have HG : Hid (w.heap.size = g) := hid hg
 clear hg
 cases ra with
 | false =>
  obtain rfl : RJ = ((rb,lb,sb),0) := HRJ.out.symm.trans rfl
  obtain ⟨al,a0,a1,a2⟩ := c3_at HA.out
  obtain ⟨xl,c0,c1,c2⟩ := c3_at HC.out
  go_wp2_with fail
  clear al a0 a1 a2 xl c0 c1 c2
  refine (copyFrame_f _ (rb,lb,sb) _ ⟨pm,cm,pt,ct,rfl,rd_any H3.out,rd_any H4.out⟩ HZB.out).mono ?_
  have HWN := (Array.getElem?_eq_some_iff.1 HR.out).1
  rintro e wa ⟨vg,rfl,⟨qa,ca,qb,cb,rfl,hoa,hob,-⟩,hbn⟩
  dsimp only at hoa hob
  have HOA := hid (OwnX.rd (sP.grow _) hoa)
  have HOB := hid (OwnX.rd (sP.grow _) hob)
  replace HR := hid (blk_b HR.out hbn)
  replace HB := hid (HB.out.trans (hbn.mono HB.out.size))
  have HW := hid HWN
  clear hoa hob hbn HWN
  obtain ⟨rl,rc,rf⟩ := boxN HR.out
  have r0 := rc 0 _ rfl
  have r1 := rc 1 _ rfl
  have r2 := rc 2 _ rfl
  have ru0 := rf 0
  have ru1 := rf 1
  have ru2 := rf 2
  simp only [Nat.zero_add] at r0 r1 r2
  clear rc rf
  go_wp2_with fail
  refine bodyPost_ret (v := .tuple #[.agg #[.bool rb,.slice qa lb.length ca,.slice qb sb.length cb],.int .i64 0]) (by simp [*,results,Tryz.results137,go_sem]) rfl ?_
  have hk := set3_kpt wa (g + 2) 0 1 2 (.bool rb) (.slice qa lb.length ca) (.slice qb sb.length cb)
  refine ⟨_,rfl,⟨qa,ca,qb,cb,rfl,rd_ne2 HOA.out (by have := HW.out; have := HG.out; omega) (fun b hb => by have := HW.out; omega) hk,rd_ne2 HOB.out (by have := HW.out; have := HG.out; omega) (fun b hb => by have := HW.out; omega) hk⟩,HB.out.trans (hk.below (fun x hx => by simp at hx; have := HG.out; omega) HB.out.size)⟩
 | true =>
  cases rb with
  | false =>
   obtain rfl : RJ = ((true,la,sa),0) := HRJ.out.symm.trans rfl
   obtain ⟨al,a0,a1,a2⟩ := c3_at HA.out
   obtain ⟨xl,c0,c1,c2⟩ := c3_at HC.out
   go_wp2_with fail
   clear al a0 a1 a2 xl c0 c1 c2
   refine (copyFrame_f _ (true,la,sa) _ ⟨pl,cl,ps,cs,rfl,rd_any H1.out,rd_any H2.out⟩ HZA.out).mono ?_
   have HWN := (Array.getElem?_eq_some_iff.1 HR.out).1
   rintro e wa ⟨vg,rfl,⟨qa,ca,qb,cb,rfl,hoa,hob,-⟩,hbn⟩
   dsimp only at hoa hob
   have HOA := hid (OwnX.rd (sP.grow _) hoa)
   have HOB := hid (OwnX.rd (sP.grow _) hob)
   replace HR := hid (blk_b HR.out hbn)
   replace HB := hid (HB.out.trans (hbn.mono HB.out.size))
   have HW := hid HWN
   clear hoa hob hbn HWN
   obtain ⟨rl,rc,rf⟩ := boxN HR.out
   have r0 := rc 0 _ rfl
   have r1 := rc 1 _ rfl
   have r2 := rc 2 _ rfl
   have ru0 := rf 0
   have ru1 := rf 1
   have ru2 := rf 2
   simp only [Nat.zero_add] at r0 r1 r2
   clear rc rf
   go_wp2_with fail
   refine bodyPost_ret (v := .tuple #[.agg #[.bool true,.slice qa la.length ca,.slice qb sa.length cb],.int .i64 0]) (by simp [*,results,Tryz.results137,go_sem]) rfl ?_
   have hk := set3_kpt wa (g + 2) 0 1 2 (.bool true) (.slice qa la.length ca) (.slice qb sa.length cb)
   refine ⟨_,rfl,⟨qa,ca,qb,cb,rfl,rd_ne2 HOA.out (by have := HW.out; have := HG.out; omega) (fun b hb => by have := HW.out; omega) hk,rd_ne2 HOB.out (by have := HW.out; have := HG.out; omega) (fun b hb => by have := HW.out; omega) hk⟩,HB.out.trans (hk.below (fun x hx => by simp at hx; have := HG.out; omega) HB.out.size)⟩
  | true =>
   obtain ⟨al,a0,a1,a2⟩ := c3_at HA.out
   obtain ⟨xl,c0,c1,c2⟩ := c3_at HC.out
   go_wp2_with fail
   clear al a0 a1 a2 xl c0 c1 c2
   refine (All_n ok (fun b => b < g) (fun b => b < g) vt K _ _ sa sb wn HT.out H2.out H4.out HZA.out.2.1 HZB.out.2.1 hs).mono ?_
   rintro e wa ⟨vs,rfl,ho,hbn⟩
   have HWN : Hid (g + 2 < wn.heap.size) := hid (Array.getElem?_eq_some_iff.1 HR.out).1
   have HWA : Hid (wn.heap.size <= wa.heap.size) := hid hbn.size
   replace HA := hid (blk_b HA.out hbn)
   replace HC := hid (blk_b HC.out hbn)
   replace HR := hid (blk_b HR.out hbn)
   replace H1 := hid (H1.out.any (sP.grow _) hbn)
   replace H3 := hid (H3.out.any (sP.grow _) hbn)
   replace HT := hid (HT.out.below hbn)
   have HGW := (Array.getElem?_eq_some_iff.1 HR.out).1
   have HW : Hid (g + 2 < wn.heap.size) := hid HWN.out
   replace HB := hid (HB.out.trans (hbn.mono HB.out.size))
   clear HGW hbn H2 H4 HWN
   obtain ⟨al,a0,a1,a2⟩ := c3_at HA.out
   obtain ⟨xl,c0,c1,c2⟩ := c3_at HC.out
   by_cases hse : sa.length = sb.length
   ·rw [decide_eq_true hse]
    rw [if_pos hse] at ho
    have HO := hid (ho.rd (sP.grow _))
    obtain ⟨po,co,hvo,-⟩ := HO.out.len
    subst hvo
    clear ho
    go_wp2_with fail
    clear al a0 a1 a2 xl c0 c1 c2
    refine (All_n ok (fun b => b < g) (fun b => b < g) vt K _ _ la lb wa HT.out H1.out H3.out HZA.out.1 HZB.out.1 hl).mono ?_
    rintro e wb ⟨vl,rfl,hq,hbn⟩
    replace HR := hid (blk_b HR.out hbn)
    replace HO := hid (HO.out.any (sP.grow _) hbn)
    replace HB := hid (HB.out.trans (hbn.mono HB.out.size))
    have HW2 : Hid (g + 2 < wa.heap.size) := hid (Nat.lt_of_lt_of_le HW.out HWA.out)
    clear hbn H1 H3 HA HC HWA
    by_cases hle : la.length = lb.length
    ·rw [decide_eq_true hle]
     rw [if_pos hle] at hq
     have HQ := hid (hq.rd (sP.grow _))
     obtain ⟨pq,cq,hvq,-⟩ := HQ.out.len
     subst hvq
     clear hq
     obtain rfl : RJ = ((true,allT (K.map skOf) la lb,allT (K.map skOf) sa sb),0) := HRJ.out.symm.trans (by unfold joinF; rw [if_neg (by simp),if_neg (by simp),if_neg (by simp [hse]),if_neg (by simp [hle])])
     obtain ⟨rl,rc,rf⟩ := boxN HR.out
     have r0 := rc 0 _ rfl
     have r1 := rc 1 _ rfl
     have r2 := rc 2 _ rfl
     have u0 := rf 0
     have u1 := rf 1
     have u2 := rf 2
     simp only [Nat.zero_add] at r0 r1 r2
     clear rc rf
     go_wp2_with fail
     refine bodyPost_ret (v := .tuple #[.agg #[.bool true,.slice pq (allT (K.map skOf) la lb).length cq,.slice po (allT (K.map skOf) sa sb).length co],.int .i64 0]) (by simp [*,results,Tryz.results137,go_sem]) rfl ?_
     have hk := set3_kpt wb (g + 2) 0 1 2 (.bool true) (.slice pq (allT (K.map skOf) la lb).length cq) (.slice po (allT (K.map skOf) sa sb).length co)
     refine ⟨_,rfl,⟨pq,cq,po,co,rfl,rd_ne2 HQ.out (by have := HW2.out; have := HG.out; omega) (fun b hb => by have := HW2.out; omega) hk,rd_ne2 HO.out (by have := HW.out; have := HG.out; omega) (fun b hb => by have := HW.out; omega) hk⟩,HB.out.trans (hk.below (fun x hx => by simp at hx; have := HG.out; omega) HB.out.size)⟩
    ·rw [decide_eq_false hle]
     obtain rfl : RJ = (noFr,28) := HRJ.out.symm.trans (by unfold joinF; rw [if_neg (by simp),if_neg (by simp),if_neg (by simp [hse]),if_pos (by simpa using hle)])
     obtain ⟨pq,nq,cq,hvq⟩ := hq.slice
     subst hvq
     clear hq
     obtain ⟨rl,rc,rf⟩ := boxN HR.out
     have r0 := rc 0 _ rfl
     have r1 := rc 1 _ rfl
     have r2 := rc 2 _ rfl
     have u0 := rf 0
     have u1 := rf 1
     have u2 := rf 2
     simp only [Nat.zero_add] at r0 r1 r2
     clear rc rf
     go_wp2_with fail
     refine bodyPost_ret (v := .tuple #[.agg #[.bool false,.slice none 0 0,.slice none 0 0],.int .i64 28]) (by simp [*,results,Tryz.results137,go_sem]) rfl ?_
     have hk := set3_kpt wb (g + 2) 0 1 2 (.bool false) (.slice none 0 0) (.slice none 0 0)
     refine ⟨_,rfl,⟨none,0,none,0,rfl,RdX.nil _ _ _ _,RdX.nil _ _ _ _⟩,HB.out.trans (hk.below (fun x hx => by simp at hx; have := HG.out; omega) HB.out.size)⟩
   ·rw [decide_eq_false hse]
    obtain rfl : RJ = (noFr,30) := HRJ.out.symm.trans (by unfold joinF; rw [if_neg (by simp),if_neg (by simp),if_pos (by simpa using hse)])
    obtain ⟨pq,nq,cq,hvq⟩ := ho.slice
    subst hvq
    clear ho
    obtain ⟨rl,rc,rf⟩ := boxN HR.out
    have r0 := rc 0 _ rfl
    have r1 := rc 1 _ rfl
    have r2 := rc 2 _ rfl
    have u0 := rf 0
    have u1 := rf 1
    have u2 := rf 2
    simp only [Nat.zero_add] at r0 r1 r2
    clear rc rf
    go_wp2_with fail
    refine bodyPost_ret (v := .tuple #[.agg #[.bool false,.slice none 0 0,.slice none 0 0],.int .i64 30]) (by simp [*,results,Tryz.results137,go_sem]) rfl ?_
    have hk := set3_kpt wa (g + 2) 0 1 2 (.bool false) (.slice none 0 0) (.slice none 0 0)
    refine ⟨_,rfl,⟨none,0,none,0,rfl,RdX.nil _ _ _ _,RdX.nil _ _ _ _⟩,HB.out.trans (hk.below (fun x hx => by simp at hx; have := HG.out; omega) HB.out.size)⟩
end Go.Proofs.YtfpeakkbbfnhcaaGreat.R
namespace Go.Proofs.YtfpeakkbbfnhcaaGreat.R
open Go.RowKit Go.Proofs.YtfpeakkbbfnhcaaGreat.D Go.Proofs.YtfpeakkbbfnhcaaGreat.O Go.Proofs.YtfpeakkbbfnhcaaGreat.A
theorem fix_sz : ∀ o ∈ opsF,(∀ t ∈ (fixP o).1,t.2.size <= 1000) /\ (fixP o).1.length <= 3 /\ (fixP o).2.1.length <= 3 := by decide +kernel
theorem chg_sz (ret : Ty) (f : Fr) (o k : Int) (hr : ret.2.size <= maxLen) (h : o = 4 ∨ o = 7 ∨ o = 39 ∨ o = 40 ∨ o ∈ opsF) : (∀ t ∈ (chgP ret f o k).1,t.2.size <= maxLen) /\ (chgP ret f o k).1.length <= 1000 /\ (chgP ret f o k).2.1.length <= 1000 := by
 by_cases h4 : o = 4
 ·subst h4
  show (∀ t ∈ (loadP _).1,_) /\ _
  unfold chgP loadP
  rw [if_pos rfl]
  split <;> simp
 by_cases h7 : o = 7
 ·subst h7
  show (∀ t ∈ (dupP _).1,_) /\ (dupP _).1.length <= _ /\ (dupP _).2.1.length <= _
  unfold dupP
  refine ⟨fun t ht => ?_,by simp,by dsimp only; split <;> simp⟩
  rw [List.mem_singleton.1 ht]
  exact Nat.zero_le _
 by_cases h39 : o = 39 ∨ o = 40
 ·have e : chgP ret f o k = endsP ret o := by unfold chgP; rw [if_neg h4,if_neg h7,if_pos h39]
  rw [e]
  unfold endsP
  refine ⟨fun t ht => ?_,by dsimp only; split <;> simp,by simp⟩
  dsimp only at ht
  split at ht
  ·rw [List.mem_singleton.1 ht]; exact hr
  ·cases ht
 ·have e : chgP ret f o k = fixP o := by unfold chgP; rw [if_neg h4,if_neg h7,if_neg h39]
  rw [e]
  obtain ⟨h1,h2,h3⟩ := fix_sz o (by rcases h with h | h | h | h | h <;> first | exact h | (exfalso; omega))
  exact ⟨fun t ht => Nat.le_trans (h1 t ht) (by decide),by omega,by omega⟩
theorem wp_appF {α : Type} {sz bytes : Nat} {T TS : TypeId} {z : Value} (hI : Inf T TS sz bytes z) {c : α -> List Value} (hS : Shape (sP c) sz) {w : World} {ops : Array Oper} {rest : List Oper} {o : Oper} {a : Act} {Q : Exit -> Act -> World -> Prop} (hgd : o.guard = none) (s x : Operand)
  (ho : o.op = .call { callee := .builtin .append,args := #[s,x],argTypes := #[TS,TS] })
  (B : Nat) (v : Value) (xs : List α) (hs : a.eval s = v) (hown : OwnX sz T (sP c) w B v xs) (p : Option Addr) (n cap : Nat) {ok : Nat -> Prop} (ys : List α) (hx : a.eval x = .slice p n cap) (hr : RdX sz (sP c) ok w (.slice p n cap) ys)
  (hb : xs.length + ys.length <= 1000000) (hbase : B <= w.heap.size)
  (h : ∀ v' w',OwnX sz T (sP c) w' B v' (xs ++ ys) -> w.grownBy w' v.ownBlock -> (v'.ownBlock = v.ownBlock ∨ v'.ownBlock = some w.heap.size) -> wpList Tryz.prog ops Q rest (a.put o.dst v') w') :
  wpList Tryz.prog ops Q (o :: rest) a w := by
 refine wpList_plain hgd fun K hK => ?_
 obtain ⟨v',w',hrun,g1,g2,g4⟩ := run_appA hI hS w B v xs ys hown p n cap hr hb hbase o.type
 unfold Oper.wp execOp
 simp only [ho,resolve,invoke,builtin,Sem.run_bind,Sem.run_pure,Result.andThen_ok,List.map_toArray,List.map_cons,List.map_nil,hs,hx]
 simp only [hrun]
 exact hK _ _ (h v' w' g1 g2 g4)
def lenV : Value -> Nat
 | .slice _ n _ => n
 | _ => 0
theorem take_rep {l : List Ty} {x : Ty} {i n : Nat} (h : n <= l.length + i) : (l ++ List.replicate i x).take n = (l ++ List.replicate n x).take n := by
 refine List.ext_getElem? (fun j => ?_)
 by_cases hj : j < n
 ·rw [List.getElem?_take_of_lt hj,List.getElem?_take_of_lt hj]
  by_cases hl : j < l.length
  ·rw [List.getElem?_append_left hl,List.getElem?_append_left hl]
  ·rw [List.getElem?_append_right (by omega),List.getElem?_append_right (by omega),List.getElem?_replicate,List.getElem?_replicate,if_pos (by omega),if_pos (by omega)]
 ·rw [List.getElem?_eq_none (by rw [List.length_take]; omega),List.getElem?_eq_none (by rw [List.length_take]; omega)]
def topsL (l : List Ty) (i : Nat) : List Ty := l ++ List.replicate i topT
theorem topsL_next (l : List Ty) (i : Nat) : topsL l i ++ [topT] = topsL l (i + 1) := by unfold topsL; rw [List.append_assoc,List.replicate_succ']
theorem topsL_len (l : List Ty) (i : Nat) : (topsL l i).length = l.length + i := by unfold topsL; simp
theorem Entry_g (c nm : ByteArray) (ret : Ty) (st ab : Bool) (loc : Int) (pp pc ph : Option Addr) (np cp nc cc nh ch : Nat) (P : List Ty) (w : World) (hp : RdX 2 (sP tyC) anyB w (.slice pp np cp) P) (_hz : ∀ t ∈ P,t.2.size <= maxLen) (hl : P.length <= 1000) (hloc : loc <= 1000) (_hc : c.size <= maxLen) :
  Calls Tryz.prog 40 #[.string c,.agg #[.string nm,.slice pp np cp,.int .i64 ret.1,.string ret.2,.bool st,.bool ab,.int .i64 loc,.slice pc nc cc,.slice ph nh ch]] w fun e w' => ∃ vg,e = .returned vg /\ RdG w.heap.size w' vg (entryP c P st loc) /\ Below w.heap.size w w' := by

 obtain ⟨_,_,e0,-⟩ := hp.len
 simp only [Value.slice.injEq] at e0
 obtain ⟨rfl,rfl,rfl⟩ := e0
 obtain ⟨r1,r2⟩ := ret
 dsimp only
 obtain ⟨wn,hwn⟩ : ∃ x,x = (w.alloc (.cells #[.string nm,.slice pp P.length cp,.int .i64 r1,.string r2,.bool st,.bool ab,.int .i64 loc,.slice pc nc cc,.slice ph nh ch] 49)).alloc (.cells #[.bool false,.slice none 0 0,.slice none 0 0] 61) := ⟨_,rfl⟩
 have HB : Hid (Below w.heap.size w wn) := hid (by rw [hwn]; exact jbl2 _ _ _)
 have HM : Hid (wn.heap[w.heap.size]? = some (.cells #[.string nm,.slice pp P.length cp,.int .i64 r1,.string r2,.bool st,.bool ab,.int .i64 loc,.slice pc nc cc,.slice ph nh ch] 49 (0,0))) := hid (by rw [hwn]; simp only [al_heap,Array.getElem?_push,Array.size_push]; repeat (first | rw [if_pos (by first | trivial | omega)] | rw [if_neg (by omega)]))
 have HR : Hid (wn.heap[w.heap.size + 1]? = some (.cells #[.bool false,.slice none 0 0,.slice none 0 0] 61 (0,0))) := hid (by rw [hwn]; simp only [al_heap,Array.getElem?_push,Array.size_push]; repeat (first | rw [if_pos (by first | trivial | omega)] | rw [if_neg (by omega)]))
 have HGS : Hid (w.heap.size + 2 = wn.heap.size) := hid (by rw [hwn]; simp)
 have HP := hid (rd_kb (rd_own hp) HB.out)
 clear hp
 obtain ⟨l0,hl0⟩ : ∃ z,(if st = true then [] else [((4,c) : Ty)]) = z := ⟨_,rfl⟩
 have HL0 := hid hl0
 have HLL : Hid (l0.length <= 1) := hid (by rw [<- hl0]; split <;> simp)
 clear hl0
 go_enter Tryz.func40,Tryz.ntmps40
 go_upto_region 2 with fail
 rw [<- hwn]
 clear hwn
 obtain ⟨g,hg⟩ : ∃ z,w.heap.size = z := ⟨_,rfl⟩
 rw [hg] at HM HR HGS ⊢
 have HG : Hid (w.heap.size = g) := hid hg
 clear hg
 obtain ⟨zl,zc,zf⟩ := boxN HM.out
 have z0 := zc 0 _ rfl
 have z1 := zc 1 _ rfl
 have z2 := zc 2 _ rfl
 have z3 := zc 3 _ rfl
 have z4 := zc 4 _ rfl
 have z5 := zc 5 _ rfl
 have z6 := zc 6 _ rfl
 have z7 := zc 7 _ rfl
 have z8 := zc 8 _ rfl
 simp only [Nat.zero_add] at z0 z1 z2 z3 z4 z5 z6 z7 z8
 clear zc zf
 go_upto_if 8 with fail
 go_cut [5] from 6 to 14 (fun s5 wx => ∃ p n c',s5 = .slice p n c' /\ Hid (OT wx (g + 2) (.slice p n c') l0) /\ Hid (Below wn.heap.size wn wx))
 case first =>
  cases st with
  | true =>
   go_wp2_with fail
   go_meet
   case rel => exact ⟨none,0,0,rfl,hid (by rw [<- HL0.out]; exact OwnX.nil _ _ _ _ _),hid (Below.refl _ _)⟩
  | false =>
   go_wp2_with fail
   refine (ref_f c _).mono ?_
   rintro e wa ⟨rfl,hbn⟩
   have HSRC := hid (rdX_lit1 (sz := 2) (c := tyC) (fun _ => rfl) wa ((4,c) : Ty) #[.int .i64 4,.string c] 45 rfl)
   have hal := below_alR wa (.cells #[.int .i64 4,.string c] 45)
   go_wp2_with (at_builtin; refine wp_appM inf_typ shape_typ rfl _ _ rfl (g + 2) _ [] rfl (OwnX.nil _ _ _ _ _) wa.heap.size 0 1 1 [((4,c) : Ty)] rfl HSRC.out (by simp) (by have := HGS.out; have := hbn.size; have := hal.size; omega) ?_)
   intro v6 w6 ho6 hg6 hl6
   obtain ⟨p6,n6,c6,rfl⟩ := ho6.slice
   have hbx := Kpt.below (Kpt.of_grown (S := []) hg6 (fun b e => by cases e)) (B := (wa.alloc (.cells #[.int .i64 4,.string c] 45)).heap.size) (by simp) (Nat.le_refl _)
   have HBX : Hid (Below wn.heap.size wn w6) := hid ((hbn.trans (hal.mono hbn.size)).trans (hbx.mono (Nat.le_trans hbn.size hal.size)))
   have HO6 := hid ho6
   clear hbn hal hg6 hl6 hbx ho6 HSRC
   go_wp2_with fail
   go_meet
   case rel => exact ⟨p6,n6,c6,rfl,hid (by rw [<- HL0.out]; exact HO6.out),HBX⟩
 case rest =>
  obtain ⟨p5,n5,c5,rfl,HO,HBX⟩ := hcut
  have HMB : Hid (wc.heap[g]? = _) := hid (blk_b HM.out HBX.out)
  replace HR := hid (blk_b HR.out HBX.out)
  replace HP := hid (rd_kb HP.out HBX.out)
  replace HB := hid (HB.out.trans (HBX.out.mono HB.out.size))
  have HWC : Hid (g + 2 <= wc.heap.size) := hid (by have := HGS.out; have := HBX.out.size; omega)
  clear HM HBX HGS
  obtain ⟨yl,yc,yf⟩ := boxN HMB.out
  have y0 := yc 0 _ rfl
  have y1 := yc 1 _ rfl
  have y2 := yc 2 _ rfl
  have y3 := yc 3 _ rfl
  have y4 := yc 4 _ rfl
  have y5 := yc 5 _ rfl
  have y6 := yc 6 _ rfl
  have y7 := yc 7 _ rfl
  have y8 := yc 8 _ rfl
  simp only [Nat.zero_add] at y0 y1 y2 y3 y4 y5 y6 y7 y8
  clear yc yf
  have hll := HLL.out
  go_wp2_with (at_builtin; refine wp_appF inf_typ shape_typ rfl _ _ rfl (g + 2) _ l0 rfl HO.out pp _ cp P rfl HP.out (by omega) HWC.out ?_)
  intro v6 w6 ho6 hg6 hl6
  obtain ⟨p6,n6,c6,rfl⟩ := ho6.slice
  have hbn := grown_belF HO.out hg6 HWC.out
  obtain ⟨l1,hl1⟩ : ∃ z,l0 ++ P = z := ⟨_,rfl⟩
  have HL1 := hid hl1
  rw [hl1] at ho6
  have HLE : Hid (l1.length <= 1001) := hid (by rw [<- hl1,List.length_append]; omega)
  obtain ⟨_,_,e6,-⟩ := (ho6.rd (sP.grow _)).len
  simp only [Value.slice.injEq] at e6
  obtain ⟨rfl,rfl,rfl⟩ := e6
  have hgl : g + 1 < g + 2 := by omega
  replace HMB : Hid (w6.heap[g]? = _) := hid ((hbn.block g (by omega)).trans HMB.out)
  replace HR : Hid (w6.heap[g + 1]? = _) := hid ((hbn.block (g + 1) hgl).trans HR.out)
  have HSZ : Hid (g + 2 <= w6.heap.size) := hid (Nat.le_trans HWC.out hbn.size)
  have HOL : Hid (OT w6 (g + 2) (.slice p6 (l1.length + 0) c6) (topsL l1 0)) := hid (by unfold topsL; simpa using ho6)
  replace HB := hid (HB.out.trans (hbn.mono (by have := HG.out; omega)))
  have HBR : Hid (Below (g + 2) w6 w6) := hid (Below.refl _ _)
  clear hl1 ho6 hg6 hl6 hbn HO HP HWC hll hgl
  clear yl y0 y1 y2 y3 y4 y5 y6 y7 y8
  go_wp2_with fail
  go_loopw [5] (fun v wr => ∃ (i : Nat) (p : Option Addr) (cx : Nat),v = .slice p (l1.length + i) cx /\ (i : Int) <= 1000 /\ Hid (OT wr (g + 2) (.slice p (l1.length + i) cx) (topsL l1 i)) /\ Hid (Below (g + 2) w6 wr)) (fun x _ => loc.toNat - lenV x)
  case atStart => exact ⟨0,p6,c6,rfl,by omega,HOL,HBR⟩
  case round =>
   clear HOL HBR
   obtain ⟨i,p,cx,rfl,hi,HOL,HBR⟩ := hrel
   have HMR : Hid (wr.heap[g]? = _) := hid ((HBR.out.block g (by omega)).trans HMB.out)
   obtain ⟨yl,yc,yf⟩ := boxN HMR.out
   have y0 := yc 0 _ rfl
   have y1 := yc 1 _ rfl
   have y2 := yc 2 _ rfl
   have y3 := yc 3 _ rfl
   have y4 := yc 4 _ rfl
   have y5 := yc 5 _ rfl
   have y6 := yc 6 _ rfl
   have y7 := yc 7 _ rfl
   have y8 := yc 8 _ rfl
   simp only [Nat.zero_add] at y0 y1 y2 y3 y4 y5 y6 y7 y8
   clear yc yf
   by_cases hlt : (l1.length : Int) + (i : Int) < loc
   ·have hlt2 : ((l1.length + i : Nat) : Int) < loc := by omega
    have hle := HLE.out
    go_wp2_with fail
    clear yl y0 y1 y2 y3 y4 y5 y6 y7 y8
    refine (kind_f 7 _).mono ?_
    rintro e wa ⟨rfl,hbn⟩
    replace HOL := hid (HOL.out.kptS (.of_below hbn : Kpt [] _ _) (fun _ _ => by simp))
    have HSZ2 : Hid (g + 2 <= wa.heap.size) := hid (Nat.le_trans HSZ.out (Nat.le_trans HBR.out.size hbn.size))
    replace HBR := hid (HBR.out.trans (hbn.mono (Nat.le_trans HSZ.out HBR.out.size)))
    clear hbn
    have HSRC := hid (rdX_lit1 (sz := 2) (c := tyC) (fun _ => rfl) wa topT #[.int .i64 7,.string ⟨#[]⟩] 45 rfl)
    have hbn := below_alR wa (.cells #[.int .i64 7,.string ⟨#[]⟩] 45)
    replace HOL := hid (HOL.out.kptS (.of_below hbn : Kpt [] _ _) (fun _ _ => by simp))
    replace HBR := hid (HBR.out.trans (hbn.mono HSZ2.out))
    replace HSZ2 := hid (Nat.le_trans HSZ2.out hbn.size)
    clear hbn
    go_wp2_with (at_builtin; refine wp_appM inf_typ shape_typ rfl _ _ rfl (g + 2) _ (topsL l1 i) rfl HOL.out wa.heap.size 0 1 1 [topT] rfl HSRC.out (by rw [topsL_len]; simp; omega) HSZ2.out ?_)
    intro v7 w7 ho7 hg7 hl7
    obtain ⟨p7,n7,c7,rfl⟩ := ho7.slice
    have hbn := grown_belF HOL.out hg7 HSZ2.out
    rw [topsL_next] at ho7
    obtain ⟨_,_,e7,-⟩ := (ho7.rd (sP.grow _)).len
    simp only [Value.slice.injEq,topsL_len] at e7
    obtain ⟨rfl,rfl,rfl⟩ := e7
    replace HOL := hid ho7
    replace HBR := hid (HBR.out.trans hbn)
    clear hbn ho7 hg7 hl7 HSRC HMR
    go_wp2_with fail
    go_roundw
    case rel => exact ⟨i + 1,p7,c7,rfl,by omega,HOL,HBR⟩
    case measure => simp [lenV]; omega
   ·have hlt2 : ¬ ((l1.length + i : Nat) : Int) < loc := by omega
    have hle := HLE.out
    obtain ⟨_,_,e8,hc8⟩ := (HOL.out.rd (sP.grow _)).len
    simp only [Value.slice.injEq] at e8
    obtain ⟨rfl,-,rfl⟩ := e8
    rw [topsL_len] at hc8
    have hm1 : max 0 loc <= ((l1.length + i : Nat) : Int) := by omega
    have hm2 : 0 <= max 0 loc := by omega
    have hm3 : max 0 loc <= (cx : Int) := by omega
    have hm4 : (max 0 loc).toNat = loc.toNat := by omega
    replace HR := hid ((HBR.out.block (g + 1) (by omega)).trans HR.out)
    have HLV : Hid ((topsL l1 i).take loc.toNat = (l1 ++ List.replicate loc.toNat topT).take loc.toNat) := hid (take_rep (by omega))
    have HLN : Hid (((l1 ++ List.replicate loc.toNat topT).take loc.toNat).length = loc.toNat) := hid (by rw [List.length_take,List.length_append,List.length_replicate]; omega)
    have HFR : Hid (OT wr (g + 2) (.slice p loc.toNat cx) ((topsL l1 i).take loc.toNat)) := hid (OwnX.frontT HOL.out (by rw [topsL_len]; omega))
    replace HB := hid (HB.out.trans (HBR.out.mono (by have := HG.out; omega)))
    obtain ⟨rl,rc,rf⟩ := boxN HR.out
    have r0 := rc 0 _ rfl
    have r1 := rc 1 _ rfl
    have r2 := rc 2 _ rfl
    have ru0 := rf 0
    have ru1 := rf 1
    have ru2 := rf 2
    simp only [Nat.zero_add] at r0 r1 r2
    clear rc rf
    go_wp2_with fail
    refine bodyPost_ret (v := .agg #[.bool true,.slice p loc.toNat cx,.slice none 0 0]) (by simp [*,results,Tryz.results40,go_sem]) rfl ?_
    have hk := set3_kpt wr (g + 1) 0 1 2 (.bool true) (.slice p loc.toNat cx) (.slice none 0 0)
    refine ⟨_,rfl,⟨p,cx,none,0,?_,?_,RdX.nil _ _ _ _⟩,HB.out.trans (hk.below (fun x hx => by simp at hx; have := HG.out; omega) HB.out.size)⟩
    ·unfold entryP; dsimp only; rw [HL0.out,HL1.out,HLN.out]; rfl
    ·unfold entryP; dsimp only; rw [HL0.out,HL1.out,HLN.out,<- HLV.out]; exact own_up (HFR.out.kptS hk (fun b e => by have := (HFR.out.lt b e).1; simp; omega)) (fun b e => by have := (HFR.out.lt b e).1; have := HG.out; omega)
end Go.Proofs.YtfpeakkbbfnhcaaGreat.R
namespace Go.Proofs.YtfpeakkbbfnhcaaGreat.R
open Go.RowKit Go.Proofs.YtfpeakkbbfnhcaaGreat.D Go.Proofs.YtfpeakkbbfnhcaaGreat.O Go.Proofs.YtfpeakkbbfnhcaaGreat.A
theorem i4_at {W : World} {g : Nat} {o n k : Int} {s c m d : ByteArray} (h : W.heap[g]? = some (.cells #[.int .i64 o,.int .i32 n,.int .i64 k,.string s,.string c,.string m,.string d] 59 (0,0))) : W.cell? ⟨g,4,none⟩ = some (.string c) := by simp [World.cell?,h]
def newT (T : List Sk) (n : ByteArray) : Int := match findS T n with
 | none => 32
 | some c => if c.2.2.1 = 1 ∨ c.2.2.1 = 3 then 0 else 28
def newE (K : List Cls) (n : ByteArray) : Int := match findC K n with
 | none => 32
 | some c => if c.kind = 1 ∨ c.kind = 3 then 0 else 28
theorem newE_sk (K : List Cls) (n : ByteArray) : newE K n = newT (K.map skOf) n := by
 unfold newE newT
 rw [findS_sk]
 cases findC K n <;> rfl
theorem wrongNew_f (ok : Nat -> Prop) (tb mt : Nat) (vs : Value) (K : List Cls) (n : ByteArray) (w : World) (h : TrW w ok tb mt vs K) (hn : n.size <= maxLen) (hf : ∀ c ∈ K,FewC c) :
  Calls Tryz.prog 187 #[.pointer (some ⟨tb,0,none⟩),.string n] w fun e w' => e = .returned (.int .i64 (newE K n)) /\ Below w.heap.size w w' := by
 have HT := hid h
 have HF := hid hf
 clear h hf
 obtain ⟨E,hE⟩ : ∃ z,newE K n = z := ⟨_,rfl⟩
 have HE := hid hE
 rw [hE]
 clear hE
 go_enter Tryz.func187,Tryz.ntmps187
 go_wp2_with fail
 refine (Class_t ok tb mt vs K n w HT.out hn HF.out).mono ?_
 obtain ⟨fc,hfc⟩ : ∃ z,findC K n = z := ⟨_,rfl⟩
 rw [hfc]
 rintro e w1 ⟨pi,ni,ci,pf,nf,cf,pm,nm,cm,rfl,-,hbn⟩
 have HB := hid hbn
 have HFC := hid hfc
 clear hbn hfc
 cases fc with
 | none =>
  obtain rfl : E = 32 := by have h := HE.out; unfold newE at h; rw [HFC.out] at h; exact h.symm
  go_wp2_with fail
  go_ret
  exact ⟨rfl,HB.out.trans ((below_alR _ _).mono HB.out.size)⟩
 | some c =>
  obtain ⟨cn,csu,cif,ck,cfl,cme⟩ := c
  have he : (if ck = 1 ∨ ck = 3 then (0 : Int) else 28) = E := by have h := HE.out; unfold newE at h; rw [HFC.out] at h; exact h
  dsimp only [Option.getD_some,Option.isSome_some]
  by_cases h1 : ck = 1
  ·subst h1
   obtain rfl : E = 0 := by rw [<- he]; rfl
   clear he
   go_wp2_with fail
   go_ret
   exact ⟨rfl,HB.out.trans ((below_alR _ _).mono HB.out.size)⟩
  by_cases h3 : ck = 3
  ·subst h3
   obtain rfl : E = 0 := by rw [<- he]; rfl
   clear he
   go_wp2_with fail
   go_ret
   exact ⟨rfl,HB.out.trans ((below_alR _ _).mono HB.out.size)⟩
  obtain rfl : E = 28 := by rw [<- he,if_neg (by omega)]
  have b1 : (ck != 1) = true := by simpa using h1
  have b3 : (ck != 3) = true := by simpa using h3
  clear he h1 h3
  go_wp2_with fail
  go_ret
  exact ⟨rfl,HB.out.trans ((below_alR _ _).mono HB.out.size)⟩
theorem ofNew_f (ok : Nat -> Prop) (tb mt : Nat) (vs : Value) (K : List Cls) (n k : Int) (s c m d : ByteArray) (w : World) (h : TrW w ok tb mt vs K) (hc : c.size <= maxLen) (hf : ∀ c ∈ K,FewC c) :
  Calls Tryz.prog 165 #[.pointer (some ⟨tb,0,none⟩),.agg #[.int .i64 25,.int .i32 n,.int .i64 k,.string s,.string c,.string m,.string d]] w (ChgP ([],[(4,c)],newE K c) w) := by
 obtain ⟨wn,hwn⟩ : ∃ x,x = (w.alloc (.cells #[.int .i64 25,.int .i32 n,.int .i64 k,.string s,.string c,.string m,.string d] 59)).alloc (.cells #[.slice none 0 0,.slice none 0 0,.int .i64 0] 195) := ⟨_,rfl⟩
 have HB : Hid (Below w.heap.size w wn) := hid (by rw [hwn]; exact jbl2 _ _ _)
 have HI : Hid (wn.heap[w.heap.size]? = some (.cells #[.int .i64 25,.int .i32 n,.int .i64 k,.string s,.string c,.string m,.string d] 59 (0,0))) := hid (by rw [hwn]; simp only [al_heap,Array.getElem?_push,Array.size_push]; repeat (first | rw [if_pos (by first | trivial | omega)] | rw [if_neg (by omega)]))
 have HR : Hid (wn.heap[w.heap.size + 1]? = some (.cells #[.slice none 0 0,.slice none 0 0,.int .i64 0] 195 (0,0))) := hid (by rw [hwn]; simp only [al_heap,Array.getElem?_push,Array.size_push]; repeat (first | rw [if_pos (by first | trivial | omega)] | rw [if_neg (by omega)]))
 have HGS : Hid (w.heap.size + 2 = wn.heap.size) := hid (by rw [hwn]; simp)
 have HT := hid (h.below HB.out)
 have HF := hid hf
 clear h hf
 obtain ⟨E,hE⟩ : ∃ z,newE K c = z := ⟨_,rfl⟩
 have HE := hid hE
 rw [hE]
 clear hE
 go_enter Tryz.func165,Tryz.ntmps165
 go_upto_region 1 with fail
 rw [<- hwn]
 clear hwn
 obtain ⟨g,hg⟩ : ∃ z,w.heap.size = z := ⟨_,rfl⟩
 rw [hg] at HI HR HGS ⊢
 have HG : Hid (w.heap.size = g) := hid hg
 clear hg
 replace HGS : Hid (g + 2 <= wn.heap.size) := hid (by have := HGS.out; omega)
 go_wp2_with fail
 refine (ref_f _ _).mono ?_
 rintro e w1 ⟨rfl,hbn⟩
 replace HI := hid (blk_b HI.out hbn)
 replace HR := hid (blk_b HR.out hbn)
 replace HT := hid (HT.out.below hbn)
 replace HB := hid (HB.out.trans (hbn.mono HB.out.size))
 replace HGS := hid (Nat.le_trans HGS.out hbn.size)
 clear hbn
 go_upto_region 2 with fail
 obtain ⟨w2,hw2⟩ : ∃ z,z = w1.alloc (.cells #[.int .i64 4,.string ⟨#[79,98,106,101,99,116]⟩] 45) := ⟨_,rfl⟩
 have hbn := below_alR w1 (.cells #[.int .i64 4,.string ⟨#[79,98,106,101,99,116]⟩] 45)
 replace HI := hid (blk_b HI.out hbn)
 replace HR := hid (blk_b HR.out hbn)
 replace HT := hid (HT.out.below hbn)
 replace HB := hid (HB.out.trans (hbn.mono HB.out.size))
 replace HGS := hid (Nat.le_trans HGS.out hbn.size)
 rw [<- hw2] at HI HR HT HB HGS ⊢
 clear hbn hw2
 obtain ⟨ql,qc,qf⟩ := boxN HI.out
 have q0 := qc 0 _ rfl
 have q1 := qc 1 _ rfl
 have q2 := qc 2 _ rfl
 have q3 := qc 3 _ rfl
 have q4 := qc 4 _ rfl
 have q5 := qc 5 _ rfl
 have q6 := qc 6 _ rfl
 simp only [Nat.zero_add] at q0 q1 q2 q3 q4 q5 q6
 clear qc qf
 go_upto_region 3 with fail
 clear ql q0 q1 q2 q3 q4 q5 q6
 replace HI : Hid (w2.drew.heap[g]? = _) := hid HI.out
 replace HR : Hid (w2.drew.heap[g + 1]? = _) := hid HR.out
 replace HT : Hid (TrW w2.drew _ _ _ _ _) := hid HT.out
 replace HB := hid HB.out.drew
 replace HGS : Hid (_ <= w2.drew.heap.size) := hid HGS.out
 refine wp_region_held_drew (S := fun W => W.cell? ⟨g,4,none⟩ = some (.string c)) (by kernel_rfl) (by first | exact i4_at HI.out | exact i4_at (blk_k HI.out (set3_kpt _ _ _ _ _ _ _ _) (by omega))) (fun hh => ?_)
 refine tkA 0 _ hh ?_
 try go_frame
 refine tkB 1 _ hh ?_
 try go_frame
 refine tkA 4 _ hh ?_
 try go_frame
 refine tkA 5 _ hh ?_
 try go_frame
 refine tkB 6 _ hh ?_
 try go_frame
 refine rdH [2] ?_
 refine AllReadyH.cons (o := _) (by simp only [List.getElem?_toArray,List.getElem?_cons_succ,List.getElem?_cons_zero]; rfl) (fun KX hKX => ?_) AllReadyH.nil
 clear hh
 go_simp
 refine (ref_f c _).mono ?_
 rintro e wa ⟨rfl,hbn⟩
 replace HI := hid (blk_b HI.out hbn)
 replace HR := hid (blk_b HR.out hbn)
 replace HT := hid (HT.out.below hbn)
 replace HB := hid (HB.out.trans (hbn.mono HB.out.size))
 replace HGS := hid (Nat.le_trans HGS.out hbn.size)
 clear hbn
 refine hKX.out _ _ (by first | exact i4_at HI.out | exact i4_at (blk_k HI.out (set3_kpt _ _ _ _ _ _ _ _) (by omega))) (fun hh => ?_)
 clear hKX KX
 try go_frame
 refine rdH [3,7] ?_
 refine AllReadyH.cons (o := _) (by simp only [List.getElem?_toArray,List.getElem?_cons_succ,List.getElem?_cons_zero]; rfl) (fun KX hKX => ?_) ?_
 ·clear hh
  go_simp
  have hsrc := (OwnX.lits (sz := 2) (T := 45) (c := tyC) (fun _ => rfl) wa [((4,c) : Ty)] #[.int .i64 4,.string c] rfl 1 rfl (by omega)).rd (sP.grow _)
  have hbn := below_alR wa (.cells #[.int .i64 4,.string c] 45)
  have HLG : Hid (RdX 2 (sP tyC) (fun b => g + 1 < b) (wa.alloc (.cells #[.int .i64 4,.string c] 45)) (.slice (some ⟨wa.heap.size,0,none⟩) 1 1) [((4,c) : Ty)]) := hid (rd_imp hsrc (fun b hb => by have := HGS.out; omega))
  clear hsrc
  obtain ⟨wl,hwl⟩ : ∃ z,z = wa.alloc (.cells #[.int .i64 4,.string c] 45) := ⟨_,rfl⟩
  obtain ⟨gs,hgs⟩ : ∃ z,wa.heap.size = z := ⟨_,rfl⟩
  replace HI := hid (blk_b HI.out hbn)
  replace HR := hid (blk_b HR.out hbn)
  replace HT := hid (HT.out.below hbn)
  replace HB := hid (HB.out.trans (hbn.mono HB.out.size))
  replace HGS := hid (Nat.le_trans HGS.out hbn.size)
  rw [<- hwl] at HI HR HT HB HGS HLG ⊢
  rw [hgs] at HLG ⊢
  clear hwl hgs hbn
  refine hKX.out _ _ (by first | exact i4_at HI.out | exact i4_at (blk_k HI.out (set3_kpt _ _ _ _ _ _ _ _) (by omega))) (fun hh => ?_)
  clear hKX KX
  try go_frame
  refine rdH [7] ?_
  refine AllReadyH.cons (o := _) (by simp only [List.getElem?_toArray,List.getElem?_cons_succ,List.getElem?_cons_zero]; rfl) (fun KX hKX => ?_) AllReadyH.nil
  clear hh
  go_simp
  refine (wrongNew_f ok tb mt vs K c _ HT.out hc HF.out).mono ?_
  rw [HE.out]
  rintro e wb ⟨rfl,hbn⟩
  replace HI := hid (blk_b HI.out hbn)
  replace HR := hid (blk_b HR.out hbn)
  replace HT := hid (HT.out.below hbn)
  replace HB := hid (HB.out.trans (hbn.mono HB.out.size))
  replace HGS := hid (Nat.le_trans HGS.out hbn.size)
  replace HLG := hid (rd_kb HLG.out hbn)
  clear hbn
  refine hKX.out _ _ (by first | exact i4_at HI.out | exact i4_at (blk_k HI.out (set3_kpt _ _ _ _ _ _ _ _) (by omega))) (fun hh => ?_)
  clear hKX KX
  try go_frame
  refine tkA 8 _ hh ?_
  try go_frame
  refine rdH [9] ?_
  refine AllReadyH.cons (o := _) (by simp only [List.getElem?_toArray,List.getElem?_cons_succ,List.getElem?_cons_zero]; rfl) (fun KX hKX => ?_) AllReadyH.nil
  clear hh
  obtain ⟨rl,rc,rf⟩ := boxN HR.out
  have r0 := rc 0 _ rfl
  have r1 := rc 1 _ rfl
  have r2 := rc 2 _ rfl
  have ru0 := rf 0
  have ru1 := rf 1
  have ru2 := rf 2
  simp only [Nat.zero_add] at r0 r1 r2
  clear rc rf
  go_simp
  refine hKX.out _ _ (by first | exact i4_at HI.out | exact i4_at (blk_k HI.out (set3_kpt _ _ _ _ _ _ _ _) (by omega))) (fun hh => ?_)
  clear hKX KX
  try go_frame
  refine wpAnyH_done (by kernel_rfl) ?_ _
  clear hh
  go_wp2_with fail
  refine bodyPost_ret (v := .agg #[.slice none 0 0,.slice (some ⟨gs,0,none⟩) 1 1,.int .i64 E]) (by simp [*,results,Tryz.results165,go_sem]) rfl ?_
  have hk := set3_kpt wb (g + 1) 0 1 2 (.slice none 0 0) (.slice (some ⟨gs,0,none⟩) 1 1) (.int .i64 E)
  exact ⟨none,0,some ⟨gs,0,none⟩,1,rfl,RdX.nil _ _ _ _,rd_ni HLG.out (fun b hb => ⟨by omega,by have := HG.out; omega⟩) hk,HB.out.trans (hk.below (fun x hx => by simp at hx; have := HG.out; omega) HB.out.size)⟩
 refine AllReadyH.cons (o := _) (by simp only [List.getElem?_toArray,List.getElem?_cons_succ,List.getElem?_cons_zero]; rfl) (fun KX hKX => ?_) AllReadyH.nil
 clear hh
 go_simp
 refine (wrongNew_f ok tb mt vs K c _ HT.out hc HF.out).mono ?_
 rw [HE.out]
 rintro e wb ⟨rfl,hbn⟩
 replace HI := hid (blk_b HI.out hbn)
 replace HR := hid (blk_b HR.out hbn)
 replace HT := hid (HT.out.below hbn)
 replace HB := hid (HB.out.trans (hbn.mono HB.out.size))
 replace HGS := hid (Nat.le_trans HGS.out hbn.size)
 clear hbn
 refine hKX.out _ _ (by first | exact i4_at HI.out | exact i4_at (blk_k HI.out (set3_kpt _ _ _ _ _ _ _ _) (by omega))) (fun hh => ?_)
 clear hKX KX
 try go_frame
 refine rdH [3] ?_
 refine AllReadyH.cons (o := _) (by simp only [List.getElem?_toArray,List.getElem?_cons_succ,List.getElem?_cons_zero]; rfl) (fun KX hKX => ?_) AllReadyH.nil
 clear hh
 go_simp
 have hsrc := (OwnX.lits (sz := 2) (T := 45) (c := tyC) (fun _ => rfl) wb [((4,c) : Ty)] #[.int .i64 4,.string c] rfl 1 rfl (by omega)).rd (sP.grow _)
 have hbn := below_alR wb (.cells #[.int .i64 4,.string c] 45)
 have HLG : Hid (RdX 2 (sP tyC) (fun b => g + 1 < b) (wb.alloc (.cells #[.int .i64 4,.string c] 45)) (.slice (some ⟨wb.heap.size,0,none⟩) 1 1) [((4,c) : Ty)]) := hid (rd_imp hsrc (fun b hb => by have := HGS.out; omega))
 clear hsrc
 obtain ⟨wl,hwl⟩ : ∃ z,z = wb.alloc (.cells #[.int .i64 4,.string c] 45) := ⟨_,rfl⟩
 obtain ⟨gs,hgs⟩ : ∃ z,wb.heap.size = z := ⟨_,rfl⟩
 replace HI := hid (blk_b HI.out hbn)
 replace HR := hid (blk_b HR.out hbn)
 replace HT := hid (HT.out.below hbn)
 replace HB := hid (HB.out.trans (hbn.mono HB.out.size))
 replace HGS := hid (Nat.le_trans HGS.out hbn.size)
 rw [<- hwl] at HI HR HT HB HGS HLG ⊢
 rw [hgs] at HLG ⊢
 clear hwl hgs hbn
 refine hKX.out _ _ (by first | exact i4_at HI.out | exact i4_at (blk_k HI.out (set3_kpt _ _ _ _ _ _ _ _) (by omega))) (fun hh => ?_)
 clear hKX KX
 try go_frame
 refine tkA 8 _ hh ?_
 try go_frame
 refine rdH [9] ?_
 refine AllReadyH.cons (o := _) (by simp only [List.getElem?_toArray,List.getElem?_cons_succ,List.getElem?_cons_zero]; rfl) (fun KX hKX => ?_) AllReadyH.nil
 clear hh
 obtain ⟨rl,rc,rf⟩ := boxN HR.out
 have r0 := rc 0 _ rfl
 have r1 := rc 1 _ rfl
 have r2 := rc 2 _ rfl
 have ru0 := rf 0
 have ru1 := rf 1
 have ru2 := rf 2
 simp only [Nat.zero_add] at r0 r1 r2
 clear rc rf
 go_simp
 refine hKX.out _ _ (by first | exact i4_at HI.out | exact i4_at (blk_k HI.out (set3_kpt _ _ _ _ _ _ _ _) (by omega))) (fun hh => ?_)
 clear hKX KX
 try go_frame
 refine wpAnyH_done (by kernel_rfl) ?_ _
 clear hh
 go_wp2_with fail
 refine bodyPost_ret (v := .agg #[.slice none 0 0,.slice (some ⟨gs,0,none⟩) 1 1,.int .i64 E]) (by simp [*,results,Tryz.results165,go_sem]) rfl ?_
 have hk := set3_kpt wl (g + 1) 0 1 2 (.slice none 0 0) (.slice (some ⟨gs,0,none⟩) 1 1) (.int .i64 E)
 exact ⟨none,0,some ⟨gs,0,none⟩,1,rfl,RdX.nil _ _ _ _,rd_ni HLG.out (fun b hb => ⟨by omega,by have := HG.out; omega⟩) hk,HB.out.trans (hk.below (fun x hx => by simp at hx; have := HG.out; omega) HB.out.size)⟩
end Go.Proofs.YtfpeakkbbfnhcaaGreat.R
namespace Go.Proofs.YtfpeakkbbfnhcaaGreat.R
open Go.RowKit Go.Proofs.YtfpeakkbbfnhcaaGreat.D Go.Proofs.YtfpeakkbbfnhcaaGreat.O Go.Proofs.YtfpeakkbbfnhcaaGreat.A
def chgI (T : List Sk) (ret : Ty) (f : Fr) (o k : Int) (c : ByteArray) : Chg := if o = 25 then ([],[(4,c)],newT T c) else chgP ret f o k
def okIns (o : Int) : Bool := decide (o = 25) || ((decide (¬ usesI o = 4) && decide (¬ usesI o = 5) && decide (¬ usesI o = 6)) && (decide (o = 4) || decide (o = 7) || decide (o = 39) || decide (o = 40) || opsF.contains o))
theorem within_c (o n k : Int) (s c m d : ByteArray) (w : World) (h6 : usesI o = 6) (hc : c.size <= maxLen) :
  Calls Tryz.prog 163 #[insV (o,n,k,s,c,m,d)] w fun e w' => e = .returned (.bool (withinB (o,n,k,s,c,m,d))) /\ Below w.heap.size w w' := by
 rw [insV_mk]
 have hb0 : Below w.heap.size w (w.alloc (.cells #[.int .i64 o,.int .i32 n,.int .i64 k,.string s,.string c,.string m,.string d] 59)) := (Below.refl _ _).alloc (Nat.le_refl _) _
 go_enter Tryz.func163,Tryz.ntmps163
 go_wp2_with (first
  | (go_at_call 164; refine (uses_any _ _).mono ?_; rintro e w' ⟨rfl,rfl⟩)
  | (go_at_call 185; refine (name_any _ _ (by assumption)).mono ?_; rintro e w' ⟨rfl,rfl⟩))
 all_goals go_ret
 all_goals refine ⟨ret_bool ?_,hb0⟩
 all_goals (rw [Bool.eq_iff_iff]; simp_all [withinB]; try omega)
theorem right_c (o n k : Int) (s c m d : ByteArray) (w : World) (h6 : usesI o = 6) (hc : c.size <= maxLen) :
  Calls Tryz.prog 139 #[insV (o,n,k,s,c,m,d)] w fun e w' => e = .returned (.bool (rightI (o,n,k,s,c,m,d))) /\ Below w.heap.size w w' :=
 right_core o n k s c m d w (fun w' _ => within_c o n k s c m d w' h6 hc)
theorem changeOf_n (ok : Nat -> Prop) (tb mt : Nat) (vs : Value) (K : List Cls) (nm : ByteArray) (ret : Ty) (st ab : Bool) (loc : Int) (pp pc ph : Option Addr) (np cp nc cc nh ch : Nat) (f : Fr) (pl ps : Option Addr) (cl cs : Nat) (n k : Int) (s c m d : ByteArray) (w : World) (h : TrW w ok tb mt vs K) (hc : c.size <= maxLen) (hf : ∀ c ∈ K,FewC c) :
  Calls Tryz.prog 141 #[.pointer (some ⟨tb,0,none⟩),.agg #[.string nm,.slice pp np cp,.int .i64 ret.1,.string ret.2,.bool st,.bool ab,.int .i64 loc,.slice pc nc cc,.slice ph nh ch],.agg #[.bool f.1,.slice pl f.2.1.length cl,.slice ps f.2.2.length cs],.agg #[.int .i64 25,.int .i32 n,.int .i64 k,.string s,.string c,.string m,.string d]] w (ChgP ([],[(4,c)],newE K c) w) := by
 obtain ⟨fr,L,S⟩ := f
 obtain ⟨r1,r2⟩ := ret
 dsimp only
 obtain ⟨wn,hwn⟩ : ∃ x,x = (((w.alloc (.cells #[.string nm,.slice pp np cp,.int .i64 r1,.string r2,.bool st,.bool ab,.int .i64 loc,.slice pc nc cc,.slice ph nh ch] 49)).alloc (.cells #[.bool fr,.slice pl L.length cl,.slice ps S.length cs] 61)).alloc (.cells #[.int .i64 25,.int .i32 n,.int .i64 k,.string s,.string c,.string m,.string d] 59)).alloc (.cells #[.slice none 0 0,.slice none 0 0,.int .i64 0] 195) := ⟨_,rfl⟩
 have HB : Hid (Below w.heap.size w wn) := hid (by rw [hwn]; exact al4_b _ _ _ _ _)
 have HM : Hid (wn.heap[w.heap.size]? = some (.cells #[.string nm,.slice pp np cp,.int .i64 r1,.string r2,.bool st,.bool ab,.int .i64 loc,.slice pc nc cc,.slice ph nh ch] 49 (0,0))) := hid (by rw [hwn]; simp only [al_heap,Array.getElem?_push,Array.size_push]; repeat (first | rw [if_pos (by first | trivial | omega)] | rw [if_neg (by omega)]))
 have HF : Hid (wn.heap[w.heap.size + 1]? = some (.cells #[.bool fr,.slice pl L.length cl,.slice ps S.length cs] 61 (0,0))) := hid (by rw [hwn]; simp only [al_heap,Array.getElem?_push,Array.size_push]; repeat (first | rw [if_pos (by first | trivial | omega)] | rw [if_neg (by omega)]))
 have HI : Hid (wn.heap[w.heap.size + 2]? = some (.cells #[.int .i64 25,.int .i32 n,.int .i64 k,.string s,.string c,.string m,.string d] 59 (0,0))) := hid (by rw [hwn]; simp only [al_heap,Array.getElem?_push,Array.size_push]; repeat (first | rw [if_pos (by first | trivial | omega)] | rw [if_neg (by omega)]))
 have HR : Hid (wn.heap[w.heap.size + 3]? = some (.cells #[.slice none 0 0,.slice none 0 0,.int .i64 0] 195 (0,0))) := hid (by rw [hwn]; simp only [al_heap,Array.getElem?_push,Array.size_push]; repeat (first | rw [if_pos (by first | trivial | omega)] | rw [if_neg (by omega)]))
 have HGS : Hid (w.heap.size + 4 = wn.heap.size) := hid (by rw [hwn]; simp)
 have HT := hid (h.below HB.out)
 have HFW := hid hf
 clear h hf
 obtain ⟨E,hE⟩ : ∃ z,newE K c = z := ⟨_,rfl⟩
 have HE := hid hE
 rw [hE]
 clear hE
 have hU : usesI 25 = 6 := by decide
 go_enter Tryz.func141,Tryz.ntmps141
 go_upto_region 1 with fail
 rw [<- hwn]
 clear hwn
 obtain ⟨g,hg⟩ : ∃ z,w.heap.size = z := ⟨_,rfl⟩
 rw [hg] at HM HF HI HR HGS ⊢
 have HG : Hid (w.heap.size = g) := hid hg
 clear hg
 obtain ⟨ql,qc,qf⟩ := boxN HI.out
 have q0 := qc 0 _ rfl
 have q1 := qc 1 _ rfl
 have q2 := qc 2 _ rfl
 have q3 := qc 3 _ rfl
 have q4 := qc 4 _ rfl
 have q5 := qc 5 _ rfl
 have q6 := qc 6 _ rfl
 simp only [Nat.zero_add] at q0 q1 q2 q3 q4 q5 q6
 clear qc qf
 go_wp2_with (go_at_call 164; refine (uses_any _ _).mono ?_; rintro e w' ⟨rfl,rfl⟩)
 clear ql q0 q1 q2 q3 q4 q5 q6
 refine (ofNew_f ok tb mt vs K n k s c m d _ HT.out hc HFW.out).mono ?_
 rw [HE.out]
 rintro e w1 ⟨pt,ct,pz,cz,rfl,h1,h2,hbn⟩
 dsimp only [List.length_nil,List.length_cons] at h1 h2 ⊢
 simp only [Nat.zero_add] at h2 ⊢
 have HT1 := hid h1
 have HT2 := hid h2
 replace HR := hid (blk_b HR.out hbn)
 replace HB := hid (HB.out.trans (hbn.mono HB.out.size))
 clear h1 h2 hbn
 obtain ⟨rl,rc,rf⟩ := boxN HR.out
 have r0 := rc 0 _ rfl
 have r1 := rc 1 _ rfl
 have r2 := rc 2 _ rfl
 have ru0 := rf 0
 have ru1 := rf 1
 have ru2 := rf 2
 simp only [Nat.zero_add] at r0 r1 r2
 clear rc rf
 go_wp2_with fail
 refine bodyPost_ret (v := .agg #[.slice pt 0 ct,.slice pz 1 cz,.int .i64 E]) (by simp [*,results,Tryz.results141,go_sem]) rfl ?_
 have hk := set3_kpt w1 (g + 3) 0 1 2 (.slice pt 0 ct) (.slice pz 1 cz) (.int .i64 E)
 exact ⟨pt,ct,pz,cz,rfl,rd_ni HT1.out (fun b hb => ⟨by have := HGS.out; omega,by have := HG.out; have := HGS.out; omega⟩) hk,rd_ni HT2.out (fun b hb => ⟨by have := HGS.out; omega,by have := HG.out; have := HGS.out; omega⟩) hk,HB.out.trans (hk.below (fun x hx => by simp at hx; have := HG.out; omega) HB.out.size)⟩
theorem trn_ptr {w : World} {ok : Nat -> Prop} {tb : Nat} {K : List Cls} (h : TrN w ok (.pointer (some ⟨tb,0,none⟩)) K) : ∃ mb vs,TrW w ok tb mb vs K := by
 rcases h with ⟨tb',mb,vs,e,ht⟩ | ⟨e,-⟩
 ·simp only [Value.pointer.injEq,Option.some.injEq,Addr.mk.injEq,and_true] at e
  subst e
  exact ⟨mb,vs,ht⟩
 ·simp at e
theorem Step_j (ok : Nat -> Prop) (tb : Nat) (K : List Cls) (nm : ByteArray) (ret : Ty) (st ab : Bool) (loc : Int) (pp pc ph : Option Addr) (np cp nc cc nh ch : Nat) (vf : Value) (f : Fr) (o n k : Int) (s c m d : ByteArray) (w : World) (h : TrN w ok (.pointer (some ⟨tb,0,none⟩)) K) (hfw : ∀ c ∈ K,FewC c) (hf : RdF w vf f) (hz : SzF f) (hr : ret.2.size <= maxLen) (hc : c.size <= maxLen) (ho : okIns o = true) (hri : rightI (o,n,k,s,c,m,d) = true) (hfi : findB o k f.2.1.length = true) :
  Calls Tryz.prog 92 #[.pointer (some ⟨tb,0,none⟩),.agg #[.string nm,.slice pp np cp,.int .i64 ret.1,.string ret.2,.bool st,.bool ab,.int .i64 loc,.slice pc nc cc,.slice ph nh ch],vf,.agg #[.int .i64 o,.int .i32 n,.int .i64 k,.string s,.string c,.string m,.string d]] w fun e w' => ∃ vg,e = .returned (.tuple #[vg,.int .i64 (stepC (K.map skOf) f o k (chgI (K.map skOf) ret f o k c)).2]) /\ RdG w.heap.size w' vg (stepC (K.map skOf) f o k (chgI (K.map skOf) ret f o k c)).1 /\ Below w.heap.size w w' := by
 by_cases h25 : o = 25
 ·subst h25
  have e : chgI (K.map skOf) ret f 25 k c = ([],[(4,c)],newE K c) := by rw [newE_sk]; rfl
  rw [e]
  refine Step_g ok tb K nm ret st ab loc pp pc ph np cp nc cc nh ch vf f 25 n k s c m d _ w h hf hz (fun W => ?_) hfi (fun h5 => by omega) (fun pl ps cl cs W ht h1 h2 => ?_) ⟨fun t ht => (by cases ht),Nat.zero_le _,by show (1 : Nat) <= 1000; omega⟩
  ·have := right_c 25 n k s c m d W (by decide) hc
   rw [hri,insV_mk] at this
   exact this
  ·obtain ⟨mb,vs,ht⟩ := trn_ptr ht
   exact changeOf_n ok tb mb vs K nm ret st ab loc pp pc ph np cp nc cc nh ch f pl ps cl cs n k s c m d W ht hc hfw
 ·have e : chgI (K.map skOf) ret f o k c = chgP ret f o k := by unfold chgI; rw [if_neg h25]
  rw [e]
  unfold okIns at ho
  simp only [Bool.or_eq_true,Bool.and_eq_true,decide_eq_true_eq,List.contains_iff_mem] at ho
  rcases ho with ho | ⟨⟨⟨u4,u5⟩,u6⟩,hF⟩
  ·exact absurd ho h25
  have hF2 : o = 4 ∨ o = 7 ∨ o = 39 ∨ o = 40 ∨ o ∈ opsF := by
   rcases hF with (((h | h) | h) | h) | h
   ·exact .inl h
   ·exact .inr (.inl h)
   ·exact .inr (.inr (.inl h))
   ·exact .inr (.inr (.inr (.inl h)))
   ·exact .inr (.inr (.inr (.inr h)))
  have hk45 : o = 4 ∨ o = 5 -> 0 <= k /\ k < (f.2.1.length : Int) := by
   intro h45
   have hu : usesI o = 3 := by rcases h45 with rfl | rfl <;> decide
   have hw : withinB (o,n,k,s,c,m,d) = true := by
    unfold rightI at hri
    simp only [Bool.and_eq_true] at hri
    exact hri.2
   unfold withinB at hw
   dsimp only at hw
   rw [hu] at hw
   simp at hw
   unfold findB at hfi
   rw [if_pos h45] at hfi
   exact ⟨hw.1,of_decide_eq_true hfi⟩
  refine Step_g ok tb K nm ret st ab loc pp pc ph np cp nc cc nh ch vf f o n k s c m d (chgP ret f o k) w h hf hz (fun W => ?_) hfi (fun h5 => ?_) (fun pl ps cl cs W _ h1 h2 => ?_) (chg_sz ret f o k hr hF2)
  ·have := right_u o n k s c m d W u4 u5 u6
   rw [hri,insV_mk] at this
   exact this
  ·have := hk45 (.inr h5)
   subst h5
   exact ⟨this.1,rfl⟩
  ·exact changeOf_f _ nm ret st ab loc pp pc ph np cp nc cc nh ch f pl ps cl cs o n k s c m d W h1 h2 hz.2.2.1 hz.2.2.2 u4 u5 u6 (fun h4 => hk45 (.inl h4)) hF2
end Go.Proofs.YtfpeakkbbfnhcaaGreat.R
