/- Texts that the proof is made of, joined. No condition. -/
import Derived.Test.YtpkjlgdbaajpoaaGreatC1214
import Derived.Deep.DeepCutAuto
import Derived.Deep.CutBlock
import Derived.Test.YtpkjlgdbaajpoaaGreatC129
import Derived.Test.YtpkjlgdbaajpoaaGreatC121
import Derived.Test.YtpkjlgdbaajpoaaGreatC12H
set_option linter.unusedVariables false
set_option linter.unusedSimpArgs false
set_option maxRecDepth 100000
set_option maxHeartbeats 16000000
namespace Go.Proofs.YtpkjlgdbaajpoaaGreat.R
open Go.RowKit Go.Proofs.YtpkjlgdbaajpoaaGreat.D Go.Proofs.YtpkjlgdbaajpoaaGreat.O Go.Proofs.YtpkjlgdbaajpoaaGreat.A
theorem FSame_f (va vb : Value) (a b : Fr) (w : World) (ha : RdF w va a) (hb : RdF w vb b) (hz : SzF a) (hzb : SzF b) :
  Calls Tryz.prog 15 #[va,vb] w fun e w' => e = .returned (.bool (decide (a = b))) /\ Below w.heap.size w w' := by
 obtain ⟨pl,cl,ps,cs,rfl,h1,h2⟩ := ha
 obtain ⟨pm,cm,pt,ct,rfl,h3,h4⟩ := hb
 obtain ⟨ra,la,sa⟩ := a
 obtain ⟨rb,lb,sb⟩ := b
 dsimp only at h1 h2 h3 h4 ⊢
 have hl := hz.2.2.1
 have hs := hz.2.2.2
 dsimp only at hl hs
 have hl2 := hzb.2.2.1
 have hs2 := hzb.2.2.2
 dsimp only at hl2 hs2
 clear hz hzb
 by_cases hr : ra = rb
 ·subst hr
  have er : (ra == ra) = true := by simp
  rw [show decide (((ra,la,sa) : Fr) = (ra,lb,sb)) = (decide (la = lb) && decide (sa = sb)) by by_cases e1 : la = lb <;> by_cases e2 : sa = sb <;> simp [e1,e2]]
  obtain ⟨wn,hwn⟩ : ∃ x,x = (w.alloc (.cells #[.bool ra,.slice pl la.length cl,.slice ps sa.length cs] 44)).alloc (.cells #[.bool ra,.slice pm lb.length cm,.slice pt sb.length ct] 44) := ⟨_,rfl⟩
  have HB : Hid (Below w.heap.size w wn) := hid (by rw [hwn]; exact jbl2 _ _ _)
  have HA : Hid (wn.heap[w.heap.size]? = some (.cells #[.bool ra,.slice pl la.length cl,.slice ps sa.length cs] 44 (0,0))) := hid (by rw [hwn,(below_alR _ _).block _ (by simp)]; exact heap_alloc_new _ _)
  have HC : Hid (wn.heap[w.heap.size + 1]? = some (.cells #[.bool ra,.slice pm lb.length cm,.slice pt sb.length ct] 44 (0,0))) := hid (by rw [hwn]; exact jal2 _ _ _ _)
  have H1 := hid (h1.any (sP.grow _) HB.out)
  have H2 := hid (h2.any (sP.grow _) HB.out)
  have H3 := hid (h3.any (sP.grow _) HB.out)
  have H4 := hid (h4.any (sP.grow _) HB.out)
  clear h1 h2 h3 h4
  go_enter Tryz.func15,Tryz.ntmps15
  go_upto_region 1 with fail
  rw [<- hwn]
  clear hwn
  obtain ⟨g,hg⟩ : ∃ z,w.heap.size = z := ⟨_,rfl⟩
  rw [hg] at HA HC ⊢
  clear hg
  obtain ⟨al,a0,a1,a2⟩ := c3_at HA.out
  obtain ⟨xl,c0,c1,c2⟩ := c3_at HC.out
  go_wp2_with fail
  clear al a0 a1 a2 xl c0 c1 c2
  refine (Go.Proofs.YtpkjlgdbaajpoaaGreat.D.same_any _ _ la lb _ (rdT_f H1.out) (rdT_f H3.out) (by omega) (by omega)).mono ?_
  rw [show sameB la lb = decide (la = lb) from rfl]
  rintro e w1 ⟨rfl,hbn⟩
  replace HA := hid (blk_b HA.out hbn)
  replace HC := hid (blk_b HC.out hbn)
  replace H2 := hid (H2.out.any (sP.grow _) hbn)
  replace H4 := hid (H4.out.any (sP.grow _) hbn)
  replace HB := hid (HB.out.trans (hbn.mono HB.out.size))
  clear hbn H1 H3
  obtain ⟨al,a0,a1,a2⟩ := c3_at HA.out
  obtain ⟨xl,c0,c1,c2⟩ := c3_at HC.out
  cases hL : decide (la = lb) with
  | false =>
   have HLd := hid hL
   clear hL
   go_wp2_with fail
   go_ret
   exact ⟨by rw [HLd.out]; rfl,HB.out⟩
  | true =>
   have HLd := hid hL
   clear hL
   go_wp2_with fail
   clear al a0 a1 a2 xl c0 c1 c2
   refine (Go.Proofs.YtpkjlgdbaajpoaaGreat.D.same_any _ _ sa sb _ (rdT_f H2.out) (rdT_f H4.out) (by omega) (by omega)).mono ?_
   rw [show sameB sa sb = decide (sa = sb) from rfl]
   rintro e w2 ⟨rfl,hbn⟩
   replace HB := hid (HB.out.trans (hbn.mono HB.out.size))
   clear hbn
   go_wp2_with fail
   go_ret
   exact ⟨by rw [HLd.out,Bool.true_and]; rfl,HB.out⟩
 ·have er : (ra == rb) = false := by simpa using hr
  rw [decide_eq_false (fun e => hr (congrArg Prod.fst e))]
  clear h1 h2 h3 h4
  go_enter Tryz.func15,Tryz.ntmps15
  go_wp2_with fail
  go_ret
  exact ⟨by simp [*],jbl2 _ _ _⟩
theorem FJoin_f (ok : Nat -> Prop) (vt : Value) (K : List Cls) (va vb : Value) (a b : Fr) (w : World) (h : TrN w ok vt K) (ha : RdF w va a) (hb : RdF w vb b) (hz : SzF a) (hzb : SzF b) :
  Calls Tryz.prog 12 #[vt,va,vb] w fun e w' => ∃ vg,e = .returned (.tuple #[vg,.int .i64 (joinF (K.map skOf) a b).2]) /\ RdF w' vg (joinF (K.map skOf) a b).1 /\ Below w.heap.size w w' := by
 obtain ⟨pl,cl,ps,cs,rfl,h1,h2⟩ := ha
 obtain ⟨pm,cm,pt,ct,rfl,h3,h4⟩ := hb
 obtain ⟨ra,la,sa⟩ := a
 obtain ⟨rb,lb,sb⟩ := b
 have hl := hz.2.2.1
 have hs := hz.2.2.2
 dsimp only at h1 h2 h3 h4 hl hs ⊢
 have HZA := hid hz
 have HZB := hid hzb
 clear hz hzb
 obtain ⟨wn,hwn⟩ : ∃ x,x = ((w.alloc (.cells #[.bool ra,.slice pl la.length cl,.slice ps sa.length cs] 44)).alloc (.cells #[.bool rb,.slice pm lb.length cm,.slice pt sb.length ct] 44)).alloc (.cells #[.bool false,.slice none 0 0,.slice none 0 0] 44) := ⟨_,rfl⟩
 have hb3 := jbl2 w (.cells #[.bool ra,.slice pl la.length cl,.slice ps sa.length cs] 44) (.cells #[.bool rb,.slice pm lb.length cm,.slice pt sb.length ct] 44)
 have HB : Hid (Below w.heap.size w wn) := hid (by rw [hwn]; exact hb3.trans ((below_alR _ _).mono hb3.size))
 have HA : Hid (wn.heap[w.heap.size]? = some (.cells #[.bool ra,.slice pl la.length cl,.slice ps sa.length cs] 44 (0,0))) := hid (by rw [hwn,(jbl2 _ _ _).block _ (by simp)]; exact heap_alloc_new _ _)
 have HC : Hid (wn.heap[w.heap.size + 1]? = some (.cells #[.bool rb,.slice pm lb.length cm,.slice pt sb.length ct] 44 (0,0))) := hid (by rw [hwn,(below_alR _ _).block _ (by simp)]; exact jal2 _ _ _ _)
 have HR : Hid (wn.heap[w.heap.size + 2]? = some (.cells #[.bool false,.slice none 0 0,.slice none 0 0] 44 (0,0))) := hid (by rw [hwn]; have h := heap_alloc_new ((w.alloc (.cells #[.bool ra,.slice pl la.length cl,.slice ps sa.length cs] 44)).alloc (.cells #[.bool rb,.slice pm lb.length cm,.slice pt sb.length ct] 44)) (.cells #[.bool false,.slice none 0 0,.slice none 0 0] 44); simp only [World.size_alloc] at h; exact h)
 have H1 := hid ((rd_own h1).any (sP.grow _) HB.out)
 have H2 := hid ((rd_own h2).any (sP.grow _) HB.out)
 have H3 := hid ((rd_own h3).any (sP.grow _) HB.out)
 have H4 := hid ((rd_own h4).any (sP.grow _) HB.out)
 have HT := hid (h.below HB.out)
 clear h1 h2 h3 h4 h hb3
 obtain ⟨RJ,hRJ⟩ : ∃ r,joinF (K.map skOf) (ra,la,sa) (rb,lb,sb) = r := ⟨_,rfl⟩
 rw [hRJ]
 have HRJ := hid hRJ
 clear hRJ
 go_enter Tryz.func12,Tryz.ntmps12
 go_upto_region 1 with fail
 rw [<- hwn]
 clear hwn
 obtain ⟨g,hg⟩ : ∃ z,w.heap.size = z := ⟨_,rfl⟩
 rw [hg] at HA HC HR H1 H2 H3 H4 ⊢
 have HG : Hid (w.heap.size = g) := hid hg
 clear hg
 cases ra with
 | false =>
  obtain rfl : RJ = ((rb,lb,sb),0) := HRJ.out.symm.trans rfl
  obtain ⟨al,a0,a1,a2⟩ := c3_at HA.out
  obtain ⟨xl,c0,c1,c2⟩ := c3_at HC.out
  go_wp2_with fail
  clear al a0 a1 a2 xl c0 c1 c2
  refine (copyFrame_f _ (rb,lb,sb) _ ⟨pm,cm,pt,ct,rfl,rd_any H3.out,rd_any H4.out⟩ HZB.out).mono ?_
  have HWN := (Array.getElem?_eq_some_iff.1 HR.out).1
  rintro e wa ⟨vg,rfl,⟨qa,ca,qb,cb,rfl,hoa,hob,-⟩,hbn⟩
  dsimp only at hoa hob
  have HOA := hid (OwnX.rd (sP.grow _) hoa)
  have HOB := hid (OwnX.rd (sP.grow _) hob)
  replace HR := hid (blk_b HR.out hbn)
  replace HB := hid (HB.out.trans (hbn.mono HB.out.size))
  have HW := hid HWN
  clear hoa hob hbn HWN
  obtain ⟨rl,rc,rf⟩ := boxN HR.out
  have r0 := rc 0 _ rfl
  have r1 := rc 1 _ rfl
  have r2 := rc 2 _ rfl
  have ru0 := rf 0
  have ru1 := rf 1
  have ru2 := rf 2
  simp only [Nat.zero_add] at r0 r1 r2
  clear rc rf
  go_wp2_with fail
  refine bodyPost_ret (v := .tuple #[.agg #[.bool rb,.slice qa lb.length ca,.slice qb sb.length cb],.int .i64 0]) (by simp [*,results,Tryz.results12,go_sem]) rfl ?_
  have hk := set3_kpt wa (g + 2) 0 1 2 (.bool rb) (.slice qa lb.length ca) (.slice qb sb.length cb)
  refine ⟨_,rfl,⟨qa,ca,qb,cb,rfl,rd_ne HOA.out (fun b hb => by have := HW.out; omega) hk,rd_ne HOB.out (fun b hb => by have := HW.out; omega) hk⟩,HB.out.trans (hk.below (fun x hx => by simp at hx; have := HG.out; omega) HB.out.size)⟩
 | true =>
  cases rb with
  | false =>
   obtain rfl : RJ = ((true,la,sa),0) := HRJ.out.symm.trans rfl
   obtain ⟨al,a0,a1,a2⟩ := c3_at HA.out
   obtain ⟨xl,c0,c1,c2⟩ := c3_at HC.out
   go_wp2_with fail
   clear al a0 a1 a2 xl c0 c1 c2
   refine (copyFrame_f _ (true,la,sa) _ ⟨pl,cl,ps,cs,rfl,rd_any H1.out,rd_any H2.out⟩ HZA.out).mono ?_
   have HWN := (Array.getElem?_eq_some_iff.1 HR.out).1
   rintro e wa ⟨vg,rfl,⟨qa,ca,qb,cb,rfl,hoa,hob,-⟩,hbn⟩
   dsimp only at hoa hob
   have HOA := hid (OwnX.rd (sP.grow _) hoa)
   have HOB := hid (OwnX.rd (sP.grow _) hob)
   replace HR := hid (blk_b HR.out hbn)
   replace HB := hid (HB.out.trans (hbn.mono HB.out.size))
   have HW := hid HWN
   clear hoa hob hbn HWN
   obtain ⟨rl,rc,rf⟩ := boxN HR.out
   have r0 := rc 0 _ rfl
   have r1 := rc 1 _ rfl
   have r2 := rc 2 _ rfl
   have ru0 := rf 0
   have ru1 := rf 1
   have ru2 := rf 2
   simp only [Nat.zero_add] at r0 r1 r2
   clear rc rf
   go_wp2_with fail
   refine bodyPost_ret (v := .tuple #[.agg #[.bool true,.slice qa la.length ca,.slice qb sa.length cb],.int .i64 0]) (by simp [*,results,Tryz.results12,go_sem]) rfl ?_
   have hk := set3_kpt wa (g + 2) 0 1 2 (.bool true) (.slice qa la.length ca) (.slice qb sa.length cb)
   refine ⟨_,rfl,⟨qa,ca,qb,cb,rfl,rd_ne HOA.out (fun b hb => by have := HW.out; omega) hk,rd_ne HOB.out (fun b hb => by have := HW.out; omega) hk⟩,HB.out.trans (hk.below (fun x hx => by simp at hx; have := HG.out; omega) HB.out.size)⟩
  | true =>
   obtain ⟨al,a0,a1,a2⟩ := c3_at HA.out
   obtain ⟨xl,c0,c1,c2⟩ := c3_at HC.out
   go_wp2_with fail
   clear al a0 a1 a2 xl c0 c1 c2
   refine (All_n ok (fun b => b < g) (fun b => b < g) vt K _ _ sa sb wn HT.out H2.out H4.out HZA.out.2.1 HZB.out.2.1 hs).mono ?_
   rintro e wa ⟨vs,rfl,ho,hbn⟩
   have HWN : Hid (g + 2 < wn.heap.size) := hid (Array.getElem?_eq_some_iff.1 HR.out).1
   have HWA : Hid (wn.heap.size <= wa.heap.size) := hid hbn.size
   replace HA := hid (blk_b HA.out hbn)
   replace HC := hid (blk_b HC.out hbn)
   replace HR := hid (blk_b HR.out hbn)
   replace H1 := hid (H1.out.any (sP.grow _) hbn)
   replace H3 := hid (H3.out.any (sP.grow _) hbn)
   replace HT := hid (HT.out.below hbn)
   have HGW := (Array.getElem?_eq_some_iff.1 HR.out).1
   have HW : Hid (g + 2 < wn.heap.size) := hid HWN.out
   replace HB := hid (HB.out.trans (hbn.mono HB.out.size))
   clear HGW hbn H2 H4 HWN
   obtain ⟨al,a0,a1,a2⟩ := c3_at HA.out
   obtain ⟨xl,c0,c1,c2⟩ := c3_at HC.out
   by_cases hse : sa.length = sb.length
   ·rw [decide_eq_true hse]
    rw [if_pos hse] at ho
    have HO := hid (ho.rd (sP.grow _))
    obtain ⟨po,co,hvo,-⟩ := HO.out.len
    subst hvo
    clear ho
    go_wp2_with fail
    clear al a0 a1 a2 xl c0 c1 c2
    refine (All_n ok (fun b => b < g) (fun b => b < g) vt K _ _ la lb wa HT.out H1.out H3.out HZA.out.1 HZB.out.1 hl).mono ?_
    rintro e wb ⟨vl,rfl,hq,hbn⟩
    replace HR := hid (blk_b HR.out hbn)
    replace HO := hid (HO.out.any (sP.grow _) hbn)
    replace HB := hid (HB.out.trans (hbn.mono HB.out.size))
    have HW2 : Hid (g + 2 < wa.heap.size) := hid (Nat.lt_of_lt_of_le HW.out HWA.out)
    clear hbn H1 H3 HA HC HWA
    by_cases hle : la.length = lb.length
    ·rw [decide_eq_true hle]
     rw [if_pos hle] at hq
     have HQ := hid (hq.rd (sP.grow _))
     obtain ⟨pq,cq,hvq,-⟩ := HQ.out.len
     subst hvq
     clear hq
     obtain rfl : RJ = ((true,allT (K.map skOf) la lb,allT (K.map skOf) sa sb),0) := HRJ.out.symm.trans (by unfold joinF; rw [if_neg (by simp),if_neg (by simp),if_neg (by simp [hse]),if_neg (by simp [hle])])
     obtain ⟨rl,rc,rf⟩ := boxN HR.out
     have r0 := rc 0 _ rfl
     have r1 := rc 1 _ rfl
     have r2 := rc 2 _ rfl
     have u0 := rf 0
     have u1 := rf 1
     have u2 := rf 2
     simp only [Nat.zero_add] at r0 r1 r2
     clear rc rf
     go_wp2_with fail
     refine bodyPost_ret (v := .tuple #[.agg #[.bool true,.slice pq (allT (K.map skOf) la lb).length cq,.slice po (allT (K.map skOf) sa sb).length co],.int .i64 0]) (by simp [*,results,Tryz.results12,go_sem]) rfl ?_
     have hk := set3_kpt wb (g + 2) 0 1 2 (.bool true) (.slice pq (allT (K.map skOf) la lb).length cq) (.slice po (allT (K.map skOf) sa sb).length co)
     refine ⟨_,rfl,⟨pq,cq,po,co,rfl,rd_ne HQ.out (fun b hb => by have := HW2.out; omega) hk,rd_ne HO.out (fun b hb => by have := HW.out; omega) hk⟩,HB.out.trans (hk.below (fun x hx => by simp at hx; have := HG.out; omega) HB.out.size)⟩
    ·rw [decide_eq_false hle]
     obtain rfl : RJ = (noFr,28) := HRJ.out.symm.trans (by unfold joinF; rw [if_neg (by simp),if_neg (by simp),if_neg (by simp [hse]),if_pos (by simpa using hle)])
     obtain ⟨pq,nq,cq,hvq⟩ := hq.slice
     subst hvq
     clear hq
     obtain ⟨rl,rc,rf⟩ := boxN HR.out
     have r0 := rc 0 _ rfl
     have r1 := rc 1 _ rfl
     have r2 := rc 2 _ rfl
     have u0 := rf 0
     have u1 := rf 1
     have u2 := rf 2
     simp only [Nat.zero_add] at r0 r1 r2
     clear rc rf
     go_wp2_with fail
     refine bodyPost_ret (v := .tuple #[.agg #[.bool false,.slice none 0 0,.slice none 0 0],.int .i64 28]) (by simp [*,results,Tryz.results12,go_sem]) rfl ?_
     have hk := set3_kpt wb (g + 2) 0 1 2 (.bool false) (.slice none 0 0) (.slice none 0 0)
     refine ⟨_,rfl,⟨none,0,none,0,rfl,RdX.nil _ _ _ _,RdX.nil _ _ _ _⟩,HB.out.trans (hk.below (fun x hx => by simp at hx; have := HG.out; omega) HB.out.size)⟩
   ·rw [decide_eq_false hse]
    obtain rfl : RJ = (noFr,30) := HRJ.out.symm.trans (by unfold joinF; rw [if_neg (by simp),if_neg (by simp),if_pos (by simpa using hse)])
    obtain ⟨pq,nq,cq,hvq⟩ := ho.slice
    subst hvq
    clear ho
    obtain ⟨rl,rc,rf⟩ := boxN HR.out
    have r0 := rc 0 _ rfl
    have r1 := rc 1 _ rfl
    have r2 := rc 2 _ rfl
    have u0 := rf 0
    have u1 := rf 1
    have u2 := rf 2
    simp only [Nat.zero_add] at r0 r1 r2
    clear rc rf
    go_wp2_with fail
    refine bodyPost_ret (v := .tuple #[.agg #[.bool false,.slice none 0 0,.slice none 0 0],.int .i64 30]) (by simp [*,results,Tryz.results12,go_sem]) rfl ?_
    have hk := set3_kpt wa (g + 2) 0 1 2 (.bool false) (.slice none 0 0) (.slice none 0 0)
    refine ⟨_,rfl,⟨none,0,none,0,rfl,RdX.nil _ _ _ _,RdX.nil _ _ _ _⟩,HB.out.trans (hk.below (fun x hx => by simp at hx; have := HG.out; omega) HB.out.size)⟩
end Go.Proofs.YtpkjlgdbaajpoaaGreat.R
namespace Go.Proofs.YtpkjlgdbaajpoaaGreat.R
open Go.RowKit Go.Proofs.YtpkjlgdbaajpoaaGreat.D Go.Proofs.YtpkjlgdbaajpoaaGreat.O Go.Proofs.YtpkjlgdbaajpoaaGreat.A
def dOk (o : Int) : Bool := decide (¬ usesI o = 4) && decide (¬ usesI o = 5) && decide (¬ usesI o = 6)
theorem ops_ok : ∀ o ∈ ([1,2,3,6,7,8,13,14,15,18,19,21,39,40,42,43,4,5] : List Int),dOk o = true /\ (o = 4 ∨ o = 7 ∨ o = 39 ∨ o = 40 ∨ o ∈ opsF) := by decide
theorem ops_right : ∀ o ∈ ([1,2,3,6,7,8,13,14,15,18,19,21,39,40,42,43] : List Int),rightI (o,0,0,⟨#[]⟩,⟨#[]⟩,⟨#[]⟩,⟨#[]⟩) = true := by decide +kernel
theorem ok_mem {o k : Int} {L : List Ty} (h : okOp o k L) : o ∈ ([1,2,3,6,7,8,13,14,15,18,19,21,39,40,42,43,4,5] : List Int) := by
 rcases h with ⟨h,-⟩ | ⟨rfl | rfl,-,-⟩
 ·simp only [List.mem_cons,List.not_mem_nil,or_false] at h ⊢
  omega
 ·decide
 ·decide
theorem right_ok {o k : Int} {L : List Ty} (h : okOp o k L) (hL : L.length <= 2000) : rightI (o,0,k,⟨#[]⟩,⟨#[]⟩,⟨#[]⟩,⟨#[]⟩) = true := by
 rcases h with ⟨h,rfl⟩ | ⟨h,h0,h1⟩
 ·exact ops_right o h
 ·have hk : decide (0 <= k /\ k <= 2000) = true := by simp; omega
  rcases h with rfl | rfl
  ·show (true && decide ((4,0,k,_) = usedI (4,0,k,_)) && decide (0 <= k /\ k <= 2000)) = true
   rw [hk]
   simp [usedI,usesI]
  ·show (true && decide ((5,0,k,_) = usedI (5,0,k,_)) && decide (0 <= k /\ k <= 2000)) = true
   rw [hk]
   simp [usedI,usesI]
theorem find_ok {o k : Int} {L : List Ty} (h : okOp o k L) : findB o k L.length = true := by
 unfold findB
 split
 ·rename_i h4
  rcases h with ⟨h,-⟩ | ⟨-,h0,h1⟩
  ·rcases h4 with rfl | rfl
   ·exact absurd h (by decide)
   ·exact absurd h (by decide)
  ·simpa using h1
 ·rfl
theorem fix_sz : ∀ o ∈ opsF,(∀ t ∈ (fixP o).1,t.2.size <= 1000) /\ (fixP o).1.length <= 3 /\ (fixP o).2.1.length <= 3 := by decide +kernel
theorem chg_sz (ret : Ty) (f : Fr) (o k : Int) (hr : ret.2.size <= maxLen) (h : o = 4 ∨ o = 7 ∨ o = 39 ∨ o = 40 ∨ o ∈ opsF) : (∀ t ∈ (chgP ret f o k).1,t.2.size <= maxLen) /\ (chgP ret f o k).1.length <= 1000 /\ (chgP ret f o k).2.1.length <= 1000 := by
 by_cases h4 : o = 4
 ·subst h4
  show (∀ t ∈ (loadP _).1,_) /\ _
  unfold chgP loadP
  rw [if_pos rfl]
  split <;> simp
 by_cases h7 : o = 7
 ·subst h7
  show (∀ t ∈ (dupP _).1,_) /\ (dupP _).1.length <= _ /\ (dupP _).2.1.length <= _
  unfold dupP
  refine ⟨fun t ht => ?_,by simp,by dsimp only; split <;> simp⟩
  rw [List.mem_singleton.1 ht]
  exact Nat.zero_le _
 by_cases h39 : o = 39 ∨ o = 40
 ·have e : chgP ret f o k = endsP ret o := by unfold chgP; rw [if_neg h4,if_neg h7,if_pos h39]
  rw [e]
  unfold endsP
  refine ⟨fun t ht => ?_,by dsimp only; split <;> simp,by simp⟩
  dsimp only at ht
  split at ht
  ·rw [List.mem_singleton.1 ht]; exact hr
  ·cases ht
 ·have e : chgP ret f o k = fixP o := by unfold chgP; rw [if_neg h4,if_neg h7,if_neg h39]
  rw [e]
  obtain ⟨h1,h2,h3⟩ := fix_sz o (by rcases h with h | h | h | h | h <;> first | exact h | (exfalso; omega))
  exact ⟨fun t ht => Nat.le_trans (h1 t ht) (by decide),by omega,by omega⟩
theorem Step_f (ok : Nat -> Prop) (tb : Nat) (K : List Cls) (nm : ByteArray) (ret : Ty) (st ab : Bool) (loc : Int) (pp pc ph : Option Addr) (np cp nc cc nh ch : Nat) (vf : Value) (f : Fr) (o k : Int) (w : World) (h : TrN w ok (.pointer (some ⟨tb,0,none⟩)) K) (hf : RdF w vf f) (hz : SzF f) (hr : ret.2.size <= maxLen) (ho : okOp o k f.2.1) (hS : f.2.1.length <= 2000 /\ f.2.2.length <= 100) :
  Calls Tryz.prog 20 #[.pointer (some ⟨tb,0,none⟩),.agg #[.string nm,.slice pp np cp,.int .i64 ret.1,.string ret.2,.bool st,.bool ab,.int .i64 loc,.slice pc nc cc,.slice ph nh ch],vf,.agg #[.int .i64 o,.int .i32 0,.int .i64 k,.string ⟨#[]⟩,.string ⟨#[]⟩,.string ⟨#[]⟩,.string ⟨#[]⟩]] w fun e w' => ∃ vg,e = .returned (.tuple #[vg,.int .i64 (stepP (K.map skOf) ret f o k).2]) /\ RdF w' vg (stepP (K.map skOf) ret f o k).1 /\ Below w.heap.size w w' := by
 obtain ⟨hd,hF⟩ := ops_ok o (ok_mem ho)
 unfold dOk at hd
 simp only [Bool.and_eq_true,decide_eq_true_eq] at hd
 obtain ⟨⟨u4,u5⟩,u6⟩ := hd
 rw [<- stepC_P _ ret f o k ho hS.2]
 refine Step_c ok tb K nm ret st ab loc pp pc ph np cp nc cc nh ch vf f o 0 k _ _ _ _ (chgP ret f o k) w h hf hz (fun W => ?_) (find_ok ho) (fun h5 => ?_) (fun vt' pl ps cl cs W h1 h2 => ?_) (chg_sz ret f o k hr hF)
 ·have := right_u o 0 k ⟨#[]⟩ ⟨#[]⟩ ⟨#[]⟩ ⟨#[]⟩ W u4 u5 u6
  rw [right_ok ho hS.1,insV_mk] at this
  exact this
 ·subst h5
  rcases ho with ⟨h,-⟩ | ⟨-,h0,-⟩
  ·exact absurd h (by decide)
  ·exact ⟨h0,rfl⟩
 ·exact changeOf_f vt' nm ret st ab loc pp pc ph np cp nc cc nh ch f pl ps cl cs o 0 k _ _ _ _ W h1 h2 hz.2.2.1 hz.2.2.2 u4 u5 u6 (fun h4 => by
   subst h4
   rcases ho with ⟨h,-⟩ | ⟨-,h0,h1⟩
   ·exact absurd h (by decide)
   ·exact ⟨h0,h1⟩) hF
theorem wp_appF {α : Type} {sz bytes : Nat} {T TS : TypeId} {z : Value} (hI : Inf T TS sz bytes z) {c : α -> List Value} (hS : Shape (sP c) sz) {w : World} {ops : Array Oper} {rest : List Oper} {o : Oper} {a : Act} {Q : Exit -> Act -> World -> Prop} (hgd : o.guard = none) (s x : Operand)
  (ho : o.op = .call { callee := .builtin .append,args := #[s,x],argTypes := #[TS,TS] })
  (B : Nat) (v : Value) (xs : List α) (hs : a.eval s = v) (hown : OwnX sz T (sP c) w B v xs) (p : Option Addr) (n cap : Nat) {ok : Nat -> Prop} (ys : List α) (hx : a.eval x = .slice p n cap) (hr : RdX sz (sP c) ok w (.slice p n cap) ys)
  (hb : xs.length + ys.length <= 1000000) (hbase : B <= w.heap.size)
  (h : ∀ v' w',OwnX sz T (sP c) w' B v' (xs ++ ys) -> w.grownBy w' v.ownBlock -> (v'.ownBlock = v.ownBlock ∨ v'.ownBlock = some w.heap.size) -> wpList Tryz.prog ops Q rest (a.put o.dst v') w') :
  wpList Tryz.prog ops Q (o :: rest) a w := by
 refine wpList_plain hgd fun K hK => ?_
 obtain ⟨v',w',hrun,g1,g2,g4⟩ := run_appA hI hS w B v xs ys hown p n cap hr hb hbase o.type
 unfold Oper.wp execOp
 simp only [ho,resolve,invoke,builtin,Sem.run_bind,Sem.run_pure,Result.andThen_ok,List.map_toArray,List.map_cons,List.map_nil,hs,hx]
 simp only [hrun]
 exact hK _ _ (h v' w' g1 g2 g4)
def lenV : Value -> Nat
 | .slice _ n _ => n
 | _ => 0
theorem take_rep {l : List Ty} {x : Ty} {i n : Nat} (h : n <= l.length + i) : (l ++ List.replicate i x).take n = (l ++ List.replicate n x).take n := by
 refine List.ext_getElem? (fun j => ?_)
 by_cases hj : j < n
 ·rw [List.getElem?_take_of_lt hj,List.getElem?_take_of_lt hj]
  by_cases hl : j < l.length
  ·rw [List.getElem?_append_left hl,List.getElem?_append_left hl]
  ·rw [List.getElem?_append_right (by omega),List.getElem?_append_right (by omega),List.getElem?_replicate,List.getElem?_replicate,if_pos (by omega),if_pos (by omega)]
 ·rw [List.getElem?_eq_none (by rw [List.length_take]; omega),List.getElem?_eq_none (by rw [List.length_take]; omega)]
def topsL (l : List Ty) (i : Nat) : List Ty := l ++ List.replicate i topT
theorem topsL_next (l : List Ty) (i : Nat) : topsL l i ++ [topT] = topsL l (i + 1) := by unfold topsL; rw [List.append_assoc,List.replicate_succ']
theorem topsL_len (l : List Ty) (i : Nat) : (topsL l i).length = l.length + i := by unfold topsL; simp
theorem Entry_f (c nm : ByteArray) (ret : Ty) (st ab : Bool) (loc : Int) (pp pc ph : Option Addr) (np cp nc cc nh ch : Nat) (P : List Ty) (w : World) (hp : RdX 2 (sP tyC) anyB w (.slice pp np cp) P) (_hz : ∀ t ∈ P,t.2.size <= maxLen) (hl : P.length <= 1000) (hloc : loc <= 1000) (_hc : c.size <= maxLen) :
  Calls Tryz.prog 18 #[.string c,.agg #[.string nm,.slice pp np cp,.int .i64 ret.1,.string ret.2,.bool st,.bool ab,.int .i64 loc,.slice pc nc cc,.slice ph nh ch]] w fun e w' => ∃ vg,e = .returned vg /\ RdF w' vg (entryP c P st loc) /\ Below w.heap.size w w' := by

 obtain ⟨_,_,e0,-⟩ := hp.len
 simp only [Value.slice.injEq] at e0
 obtain ⟨rfl,rfl,rfl⟩ := e0
 obtain ⟨r1,r2⟩ := ret
 dsimp only
 obtain ⟨wn,hwn⟩ : ∃ x,x = (w.alloc (.cells #[.string nm,.slice pp P.length cp,.int .i64 r1,.string r2,.bool st,.bool ab,.int .i64 loc,.slice pc nc cc,.slice ph nh ch] 30)).alloc (.cells #[.bool false,.slice none 0 0,.slice none 0 0] 44) := ⟨_,rfl⟩
 have HB : Hid (Below w.heap.size w wn) := hid (by rw [hwn]; exact jbl2 _ _ _)
 have HM : Hid (wn.heap[w.heap.size]? = some (.cells #[.string nm,.slice pp P.length cp,.int .i64 r1,.string r2,.bool st,.bool ab,.int .i64 loc,.slice pc nc cc,.slice ph nh ch] 30 (0,0))) := hid (by rw [hwn]; simp only [al_heap,Array.getElem?_push,Array.size_push]; repeat (first | rw [if_pos (by first | trivial | omega)] | rw [if_neg (by omega)]))
 have HR : Hid (wn.heap[w.heap.size + 1]? = some (.cells #[.bool false,.slice none 0 0,.slice none 0 0] 44 (0,0))) := hid (by rw [hwn]; simp only [al_heap,Array.getElem?_push,Array.size_push]; repeat (first | rw [if_pos (by first | trivial | omega)] | rw [if_neg (by omega)]))
 have HGS : Hid (w.heap.size + 2 = wn.heap.size) := hid (by rw [hwn]; simp)
 have HP := hid (rd_kb (rd_own hp) HB.out)
 clear hp
 obtain ⟨l0,hl0⟩ : ∃ z,(if st = true then [] else [((4,c) : Ty)]) = z := ⟨_,rfl⟩
 have HL0 := hid hl0
 have HLL : Hid (l0.length <= 1) := hid (by rw [<- hl0]; split <;> simp)
 clear hl0
 go_enter Tryz.func18,Tryz.ntmps18
 go_upto_region 2 with fail
 rw [<- hwn]
 clear hwn
 obtain ⟨g,hg⟩ : ∃ z,w.heap.size = z := ⟨_,rfl⟩
 rw [hg] at HM HR HGS ⊢
 have HG : Hid (w.heap.size = g) := hid hg
 clear hg
 obtain ⟨zl,zc,zf⟩ := boxN HM.out
 have z0 := zc 0 _ rfl
 have z1 := zc 1 _ rfl
 have z2 := zc 2 _ rfl
 have z3 := zc 3 _ rfl
 have z4 := zc 4 _ rfl
 have z5 := zc 5 _ rfl
 have z6 := zc 6 _ rfl
 have z7 := zc 7 _ rfl
 have z8 := zc 8 _ rfl
 simp only [Nat.zero_add] at z0 z1 z2 z3 z4 z5 z6 z7 z8
 clear zc zf
 go_upto_if 8 with fail
 go_cut [5] from 6 to 14 (fun s5 wx => ∃ p n c',s5 = .slice p n c' /\ Hid (OT wx (g + 2) (.slice p n c') l0) /\ Hid (Below wn.heap.size wn wx))
 case first =>
  cases st with
  | true =>
   go_wp2_with fail
   go_meet
   case rel => exact ⟨none,0,0,rfl,hid (by rw [<- HL0.out]; exact OwnX.nil _ _ _ _ _),hid (Below.refl _ _)⟩
  | false =>
   go_wp2_with fail
   refine (ref_f c _).mono ?_
   rintro e wa ⟨rfl,hbn⟩
   have HSRC := hid (rdX_lit1 (sz := 2) (c := tyC) (fun _ => rfl) wa ((4,c) : Ty) #[.int .i64 4,.string c] 26 rfl)
   have hal := below_alR wa (.cells #[.int .i64 4,.string c] 26)
   go_wp2_with (at_builtin; refine wp_appM inf_typ shape_typ rfl _ _ rfl (g + 2) _ [] rfl (OwnX.nil _ _ _ _ _) wa.heap.size 0 1 1 [((4,c) : Ty)] rfl HSRC.out (by simp) (by have := HGS.out; have := hbn.size; have := hal.size; omega) ?_)
   intro v6 w6 ho6 hg6 hl6
   obtain ⟨p6,n6,c6,rfl⟩ := ho6.slice
   have hbx := Kpt.below (Kpt.of_grown (S := []) hg6 (fun b e => by cases e)) (B := (wa.alloc (.cells #[.int .i64 4,.string c] 26)).heap.size) (by simp) (Nat.le_refl _)
   have HBX : Hid (Below wn.heap.size wn w6) := hid ((hbn.trans (hal.mono hbn.size)).trans (hbx.mono (Nat.le_trans hbn.size hal.size)))
   have HO6 := hid ho6
   clear hbn hal hg6 hl6 hbx ho6 HSRC
   go_wp2_with fail
   go_meet
   case rel => exact ⟨p6,n6,c6,rfl,hid (by rw [<- HL0.out]; exact HO6.out),HBX⟩
 case rest =>
  obtain ⟨p5,n5,c5,rfl,HO,HBX⟩ := hcut
  have HMB : Hid (wc.heap[g]? = _) := hid (blk_b HM.out HBX.out)
  replace HR := hid (blk_b HR.out HBX.out)
  replace HP := hid (rd_kb HP.out HBX.out)
  replace HB := hid (HB.out.trans (HBX.out.mono HB.out.size))
  have HWC : Hid (g + 2 <= wc.heap.size) := hid (by have := HGS.out; have := HBX.out.size; omega)
  clear HM HBX HGS
  obtain ⟨yl,yc,yf⟩ := boxN HMB.out
  have y0 := yc 0 _ rfl
  have y1 := yc 1 _ rfl
  have y2 := yc 2 _ rfl
  have y3 := yc 3 _ rfl
  have y4 := yc 4 _ rfl
  have y5 := yc 5 _ rfl
  have y6 := yc 6 _ rfl
  have y7 := yc 7 _ rfl
  have y8 := yc 8 _ rfl
  simp only [Nat.zero_add] at y0 y1 y2 y3 y4 y5 y6 y7 y8
  clear yc yf
  have hll := HLL.out
  go_wp2_with (at_builtin; refine wp_appF inf_typ shape_typ rfl _ _ rfl (g + 2) _ l0 rfl HO.out pp _ cp P rfl HP.out (by omega) HWC.out ?_)
  intro v6 w6 ho6 hg6 hl6
  obtain ⟨p6,n6,c6,rfl⟩ := ho6.slice
  have hbn := grown_belF HO.out hg6 HWC.out
  obtain ⟨l1,hl1⟩ : ∃ z,l0 ++ P = z := ⟨_,rfl⟩
  have HL1 := hid hl1
  rw [hl1] at ho6
  have HLE : Hid (l1.length <= 1001) := hid (by rw [<- hl1,List.length_append]; omega)
  obtain ⟨_,_,e6,-⟩ := (ho6.rd (sP.grow _)).len
  simp only [Value.slice.injEq] at e6
  obtain ⟨rfl,rfl,rfl⟩ := e6
  have hgl : g + 1 < g + 2 := by omega
  replace HMB : Hid (w6.heap[g]? = _) := hid ((hbn.block g (by omega)).trans HMB.out)
  replace HR : Hid (w6.heap[g + 1]? = _) := hid ((hbn.block (g + 1) hgl).trans HR.out)
  have HSZ : Hid (g + 2 <= w6.heap.size) := hid (Nat.le_trans HWC.out hbn.size)
  have HOL : Hid (OT w6 (g + 2) (.slice p6 (l1.length + 0) c6) (topsL l1 0)) := hid (by unfold topsL; simpa using ho6)
  replace HB := hid (HB.out.trans (hbn.mono (by have := HG.out; omega)))
  have HBR : Hid (Below (g + 2) w6 w6) := hid (Below.refl _ _)
  clear hl1 ho6 hg6 hl6 hbn HO HP HWC hll hgl
  clear yl y0 y1 y2 y3 y4 y5 y6 y7 y8
  go_wp2_with fail
  go_loopw [5] (fun v wr => ∃ (i : Nat) (p : Option Addr) (cx : Nat),v = .slice p (l1.length + i) cx /\ (i : Int) <= 1000 /\ Hid (OT wr (g + 2) (.slice p (l1.length + i) cx) (topsL l1 i)) /\ Hid (Below (g + 2) w6 wr)) (fun x _ => loc.toNat - lenV x)
  case atStart => exact ⟨0,p6,c6,rfl,by omega,HOL,HBR⟩
  case round =>
   clear HOL HBR
   obtain ⟨i,p,cx,rfl,hi,HOL,HBR⟩ := hrel
   have HMR : Hid (wr.heap[g]? = _) := hid ((HBR.out.block g (by omega)).trans HMB.out)
   obtain ⟨yl,yc,yf⟩ := boxN HMR.out
   have y0 := yc 0 _ rfl
   have y1 := yc 1 _ rfl
   have y2 := yc 2 _ rfl
   have y3 := yc 3 _ rfl
   have y4 := yc 4 _ rfl
   have y5 := yc 5 _ rfl
   have y6 := yc 6 _ rfl
   have y7 := yc 7 _ rfl
   have y8 := yc 8 _ rfl
   simp only [Nat.zero_add] at y0 y1 y2 y3 y4 y5 y6 y7 y8
   clear yc yf
   by_cases hlt : (l1.length : Int) + (i : Int) < loc
   ·have hlt2 : ((l1.length + i : Nat) : Int) < loc := by omega
    have hle := HLE.out
    go_wp2_with fail
    clear yl y0 y1 y2 y3 y4 y5 y6 y7 y8
    refine (kind_f 7 _).mono ?_
    rintro e wa ⟨rfl,hbn⟩
    replace HOL := hid (HOL.out.kptS (.of_below hbn : Kpt [] _ _) (fun _ _ => by simp))
    have HSZ2 : Hid (g + 2 <= wa.heap.size) := hid (Nat.le_trans HSZ.out (Nat.le_trans HBR.out.size hbn.size))
    replace HBR := hid (HBR.out.trans (hbn.mono (Nat.le_trans HSZ.out HBR.out.size)))
    clear hbn
    have HSRC := hid (rdX_lit1 (sz := 2) (c := tyC) (fun _ => rfl) wa topT #[.int .i64 7,.string ⟨#[]⟩] 26 rfl)
    have hbn := below_alR wa (.cells #[.int .i64 7,.string ⟨#[]⟩] 26)
    replace HOL := hid (HOL.out.kptS (.of_below hbn : Kpt [] _ _) (fun _ _ => by simp))
    replace HBR := hid (HBR.out.trans (hbn.mono HSZ2.out))
    replace HSZ2 := hid (Nat.le_trans HSZ2.out hbn.size)
    clear hbn
    go_wp2_with (at_builtin; refine wp_appM inf_typ shape_typ rfl _ _ rfl (g + 2) _ (topsL l1 i) rfl HOL.out wa.heap.size 0 1 1 [topT] rfl HSRC.out (by rw [topsL_len]; simp; omega) HSZ2.out ?_)
    intro v7 w7 ho7 hg7 hl7
    obtain ⟨p7,n7,c7,rfl⟩ := ho7.slice
    have hbn := grown_belF HOL.out hg7 HSZ2.out
    rw [topsL_next] at ho7
    obtain ⟨_,_,e7,-⟩ := (ho7.rd (sP.grow _)).len
    simp only [Value.slice.injEq,topsL_len] at e7
    obtain ⟨rfl,rfl,rfl⟩ := e7
    replace HOL := hid ho7
    replace HBR := hid (HBR.out.trans hbn)
    clear hbn ho7 hg7 hl7 HSRC HMR
    go_wp2_with fail
    go_roundw
    case rel => exact ⟨i + 1,p7,c7,rfl,by omega,HOL,HBR⟩
    case measure => simp [lenV]; omega
   ·have hlt2 : ¬ ((l1.length + i : Nat) : Int) < loc := by omega
    have hle := HLE.out
    obtain ⟨_,_,e8,hc8⟩ := (HOL.out.rd (sP.grow _)).len
    simp only [Value.slice.injEq] at e8
    obtain ⟨rfl,-,rfl⟩ := e8
    rw [topsL_len] at hc8
    have hm1 : max 0 loc <= ((l1.length + i : Nat) : Int) := by omega
    have hm2 : 0 <= max 0 loc := by omega
    have hm3 : max 0 loc <= (cx : Int) := by omega
    have hm4 : (max 0 loc).toNat = loc.toNat := by omega
    replace HR := hid ((HBR.out.block (g + 1) (by omega)).trans HR.out)
    have HLV : Hid ((topsL l1 i).take loc.toNat = (l1 ++ List.replicate loc.toNat topT).take loc.toNat) := hid (take_rep (by omega))
    have HLN : Hid (((l1 ++ List.replicate loc.toNat topT).take loc.toNat).length = loc.toNat) := hid (by rw [List.length_take,List.length_append,List.length_replicate]; omega)
    have HFR : Hid (OT wr (g + 2) (.slice p loc.toNat cx) ((topsL l1 i).take loc.toNat)) := hid (OwnX.frontT HOL.out (by rw [topsL_len]; omega))
    replace HB := hid (HB.out.trans (HBR.out.mono (by have := HG.out; omega)))
    obtain ⟨rl,rc,rf⟩ := boxN HR.out
    have r0 := rc 0 _ rfl
    have r1 := rc 1 _ rfl
    have r2 := rc 2 _ rfl
    have ru0 := rf 0
    have ru1 := rf 1
    have ru2 := rf 2
    simp only [Nat.zero_add] at r0 r1 r2
    clear rc rf
    go_wp2_with fail
    refine bodyPost_ret (v := .agg #[.bool true,.slice p loc.toNat cx,.slice none 0 0]) (by simp [*,results,Tryz.results18,go_sem]) rfl ?_
    have hk := set3_kpt wr (g + 1) 0 1 2 (.bool true) (.slice p loc.toNat cx) (.slice none 0 0)
    refine ⟨_,rfl,⟨p,cx,none,0,?_,?_,RdX.nil _ _ _ _⟩,HB.out.trans (hk.below (fun x hx => by simp at hx; have := HG.out; omega) HB.out.size)⟩
    ·unfold entryP; dsimp only; rw [HL0.out,HL1.out,HLN.out]; rfl
    ·unfold entryP; dsimp only; rw [HL0.out,HL1.out,HLN.out,<- HLV.out]; exact rd_any ((HFR.out.kptS hk (fun b e => by have := (HFR.out.lt b e).1; simp; omega)).rd (sP.grow _))
end Go.Proofs.YtpkjlgdbaajpoaaGreat.R
namespace Go.Proofs.YtpkjlgdbaajpoaaGreat.R
open Go.RowKit Go.Proofs.YtpkjlgdbaajpoaaGreat.D Go.Proofs.YtpkjlgdbaajpoaaGreat.O Go.Proofs.YtpkjlgdbaajpoaaGreat.A
def FewM (m : Mth) : Prop := m.params.length <= 1000000 /\ m.code.length <= 1000000 /\ m.hs.length <= 1000000
theorem when_all {α : Type} {P : α -> Prop} {b : Bool} {l : List α} (h : ∀ m ∈ l,P m) : ∀ m ∈ whenS b l,P m := fun m hm => by
 unfold whenS at hm
 split at hm
 ·exact h m hm
 ·cases hm
theorem app_all {α : Type} {P : α -> Prop} {a b : List α} (h : ∀ m ∈ a,P m) (k : ∀ m ∈ b,P m) : ∀ m ∈ a ++ b,P m := fun m hm => (List.mem_append.1 hm).elim (h m) (k m)
theorem one_all {α : Type} {P : α -> Prop} {a : α} {l : List α} (h : P a) (k : ∀ m ∈ l,P m) : ∀ m ∈ a :: l,P m := fun m hm => (List.mem_cons.1 hm).elim (fun e => e ▸ h) (k m)
theorem nil_all {α : Type} {P : α -> Prop} : ∀ m ∈ ([] : List α),P m := fun m hm => by cases hm
theorem when_len {α : Type} (b : Bool) (l : List α) : (whenS b l).length <= l.length := by unfold whenS; split <;> simp
theorem mth_few {n : ByteArray} {ps : List Ty} {r : Ty} {st : Bool} {lo : Int} {code : List Ins} (h : ps.length <= 100) (k : code.length <= 100) : FewM (mthS n ps r st lo code) := ⟨Nat.le_trans h (by decide),Nat.le_trans k (by decide),Nat.zero_le _⟩
theorem run_few (c : ByteArray) (n : Nat) : FewM (runS c n) := mth_few (by simp) (by split <;> (try split) <;> simp)
theorem abs_few : FewM absS := ⟨Nat.zero_le _,Nat.zero_le _,Nat.zero_le _⟩
theorem clinit_few (s : ByteArray) : FewM (clinitS s) := mth_few (by simp) (by simp)
theorem rev_all {b : Bool} {P : Cls -> Prop} {a : List Cls} (h : ∀ c ∈ a,P c) : ∀ c ∈ (fun a : Arch => if b then a.reverse else a) a,P c := fun c hc => by
 dsimp only at hc
 split at hc
 ·exact h c (List.mem_reverse.1 hc)
 ·exact h c hc
theorem few_cls {c : Cls} (h1 : c.ifaces.length <= 100) (h2 : c.fields.length <= 100) (h3 : c.methods.length <= 100) (h4 : ∀ m ∈ c.methods,FewM m) : FewC c := ⟨Nat.le_trans h1 (by decide),Nat.le_trans h2 (by decide),Nat.le_trans h3 (by decide),h4⟩
theorem util_few (k : Nat) : FewC (utilS k) := by
 refine few_cls (by simp [utilS]) (by simp [utilS]) ?_ ?_
 ·unfold utilS
  dsimp only
  rw [List.length_append]
  (repeat' split) <;> simp
 ·refine app_all ?_ (by split; exact one_all (clinit_few _) nil_all; exact nil_all)
  refine one_all (mth_few (by simp) (by simp)) (one_all (mth_few (by simp) (by simp)) (one_all (mth_few (by simp) (by simp)) (one_all (mth_few (by simp) (by simp)) (one_all (mth_few (by simp) (by simp)) (one_all (mth_few (by simp) (by simp)) (one_all (mth_few (by simp) (by simp)) (one_all (mth_few (by simp) (by split <;> simp)) (one_all (mth_few (by simp) (by simp)) nil_all))))))))
theorem len2 {α : Type} {a b : List α} {n m : Nat} (h : a.length <= n) (k : b.length <= m) : (a ++ b).length <= n + m := by rw [List.length_append]; omega
theorem seat_few (k0 k1 k2 k3 : Nat) : ∀ c ∈ archS k0 k1 k2 k3 [] [],FewC c := by
 unfold archS
 refine rev_all ?_
 refine app_all (app_all ?_ ?_) ?_
 ·refine one_all (few_cls (by simp [mainS]) (by simp [mainS]) (Nat.le_trans (len2 (n := 2) (by simp) (when_len _ _)) (by simp)) (app_all (one_all ⟨by simp,by simp [bodyS,bAdd,roundsS],by simp [bodyS,bAdd,roundsS]⟩ (one_all ⟨by simp,by simp [bodyS,bAdd,roundsS],by simp [bodyS,bAdd,roundsS]⟩ nil_all)) (when_all (one_all (clinit_few _) nil_all)))) ?_
  refine one_all (few_cls (by simp) (by simp) (by simp) (one_all abs_few nil_all)) ?_
  exact one_all (few_cls (by simp) (by simp) (Nat.le_trans (when_len _ _) (by simp)) (when_all (one_all abs_few nil_all))) nil_all
 ·unfold familyS
  refine one_all (few_cls (by simp) (by simp) (Nat.le_trans (len2 (n := 2) (m := 1) (len2 (n := 1) (m := 1) (by simp) (Nat.le_trans (when_len _ _) (by simp))) (Nat.le_trans (when_len _ _) (by simp))) (by simp)) (app_all (app_all (one_all (mth_few (by simp) (by simp)) nil_all) (when_all (one_all abs_few nil_all))) (when_all (one_all (clinit_few _) nil_all)))) ?_
  refine one_all (few_cls (by simp) (by simp) (Nat.le_trans (len2 (n := 1) (m := 1) (by simp) (Nat.le_trans (when_len _ _) (by simp))) (by simp)) (app_all (one_all (run_few _ _) nil_all) (when_all (one_all (clinit_few _) nil_all)))) ?_
  refine one_all (few_cls (by simp) (by simp) (Nat.le_trans (len2 (n := 1) (m := 1) (Nat.le_trans (when_len _ _) (by simp)) (Nat.le_trans (when_len _ _) (by simp))) (by simp)) (app_all (when_all (one_all (run_few _ _) nil_all)) (when_all (one_all (mth_few (by simp) (by simp)) nil_all)))) ?_
  refine one_all (few_cls (Nat.le_trans (when_len _ _) (by simp)) (by simp) (by simp) nil_all) ?_
  refine one_all (few_cls (by simp) (by simp) (Nat.le_trans (len2 (n := 2) (m := 1) (by simp) (Nat.le_trans (when_len _ _) (by simp))) (by simp)) (app_all (one_all (run_few _ _) (one_all (mth_few (by simp) (by simp)) nil_all)) (when_all (one_all (mth_few (by simp) (by simp)) nil_all)))) ?_
  exact one_all (few_cls (by simp) (by simp) (Nat.le_trans (len2 (n := 1) (m := 1) (by simp) (Nat.le_trans (when_len _ _) (by simp))) (by simp)) (app_all (one_all (run_few _ _) nil_all) (when_all (one_all (clinit_few _) nil_all)))) nil_all
 ·refine one_all (few_cls (by simp) (by simp) (by simp) nil_all) (one_all (few_cls (by simp) (by simp) (by simp) nil_all) (one_all (few_cls (by simp) (by simp) (by simp) (one_all (mth_few (by simp) (by simp)) nil_all)) (one_all (util_few k3) nil_all)))
theorem sz_small {b : ByteArray} (h : b.size <= 1000) : b.size <= maxLen := Nat.le_trans h (by unfold maxLen; omega)
end Go.Proofs.YtpkjlgdbaajpoaaGreat.R
