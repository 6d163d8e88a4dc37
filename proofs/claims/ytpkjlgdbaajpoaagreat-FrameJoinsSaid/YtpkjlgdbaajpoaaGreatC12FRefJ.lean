/- Texts that the proof is made of, joined. No condition. -/
import Derived.Test.YtpkjlgdbaajpoaaGreatC1221
import Derived.Deep.DeepCutAuto
import Derived.Deep.CutBlock
import Derived.Test.YtpkjlgdbaajpoaaGreatC12H
set_option linter.unusedVariables false
set_option linter.unusedSimpArgs false
set_option maxRecDepth 100000
set_option maxHeartbeats 16000000
namespace Go.Proofs.YtpkjlgdbaajpoaaGreat.R
open Go.RowKit Go.Proofs.YtpkjlgdbaajpoaaGreat.D Go.Proofs.YtpkjlgdbaajpoaaGreat.O Go.Proofs.YtpkjlgdbaajpoaaGreat.A
theorem Join_12 {ok2 : Nat -> Prop} (rb0 : Nat) (p : Option Addr) (cap : Nat) (AR : List Cls) (va vb : Value) (a b : Fr) (w : World) (h : RfW ok2 w rb0 p cap AR) (ha : RdF w va a) (hb : RdF w vb b) (hz : SzF a) :
  Calls Tryz.prog 13 #[.pointer (some ⟨rb0,0,none⟩),va,vb] w fun e w' => ∃ vg,e = .returned (.tuple #[vg,.int .i64 (joinF (AR.map skOf) a b).2]) /\ RdF w' vg (joinF (AR.map skOf) a b).1 /\ Below w.heap.size w w' := by
 obtain ⟨pl,cl,ps,cs,rfl,h1,h2⟩ := ha
 obtain ⟨pm,cm,pt,ct,rfl,h3,h4⟩ := hb
 obtain ⟨ra,la,sa⟩ := a
 obtain ⟨rb,lb,sb⟩ := b
 have hl := hz.2.2.1
 have hs := hz.2.2.2
 dsimp only at h1 h2 h3 h4 hl hs ⊢
 clear hz
 obtain ⟨wn,hwn⟩ : ∃ x,x = ((w.alloc (.cells #[.bool ra,.slice pl la.length cl,.slice ps sa.length cs] 44)).alloc (.cells #[.bool rb,.slice pm lb.length cm,.slice pt sb.length ct] 44)).alloc (.cells #[.bool false,.slice none 0 0,.slice none 0 0] 44) := ⟨_,rfl⟩
 have hb3 := jbl2 w (.cells #[.bool ra,.slice pl la.length cl,.slice ps sa.length cs] 44) (.cells #[.bool rb,.slice pm lb.length cm,.slice pt sb.length ct] 44)
 have HB : Hid (Below w.heap.size w wn) := hid (by rw [hwn]; exact hb3.trans ((below_alR _ _).mono hb3.size))
 have HA : Hid (wn.heap[w.heap.size]? = some (.cells #[.bool ra,.slice pl la.length cl,.slice ps sa.length cs] 44 (0,0))) := hid (by rw [hwn,(jbl2 _ _ _).block _ (by simp)]; exact heap_alloc_new _ _)
 have HC : Hid (wn.heap[w.heap.size + 1]? = some (.cells #[.bool rb,.slice pm lb.length cm,.slice pt sb.length ct] 44 (0,0))) := hid (by rw [hwn,(below_alR _ _).block _ (by simp)]; exact jal2 _ _ _ _)
 have HR : Hid (wn.heap[w.heap.size + 2]? = some (.cells #[.bool false,.slice none 0 0,.slice none 0 0] 44 (0,0))) := hid (by rw [hwn]; have h := heap_alloc_new ((w.alloc (.cells #[.bool ra,.slice pl la.length cl,.slice ps sa.length cs] 44)).alloc (.cells #[.bool rb,.slice pm lb.length cm,.slice pt sb.length ct] 44)) (.cells #[.bool false,.slice none 0 0,.slice none 0 0] 44); simp only [World.size_alloc] at h; exact h)
 have H1 := hid ((rd_own h1).any (sP.grow _) HB.out)
 have H2 := hid ((rd_own h2).any (sP.grow _) HB.out)
 have H3 := hid ((rd_own h3).any (sP.grow _) HB.out)
 have H4 := hid ((rd_own h4).any (sP.grow _) HB.out)
 have HT := hid (h.below HB.out)
 clear h1 h2 h3 h4 h hb3
 obtain ⟨RJ,hRJ⟩ : ∃ r,joinF (AR.map skOf) (ra,la,sa) (rb,lb,sb) = r := ⟨_,rfl⟩
 rw [hRJ]
 have HRJ := hid hRJ
 clear hRJ
 go_enter Tryz.func13,Tryz.ntmps13
 go_upto_region 1 with fail
 rw [<- hwn]
 clear hwn
 obtain ⟨g,hg⟩ : ∃ z,w.heap.size = z := ⟨_,rfl⟩
 rw [hg] at HA HC HR H1 H2 H3 H4 ⊢
 have HG : Hid (w.heap.size = g) := hid hg
 clear hg
 cases ra with
 | false =>
  obtain rfl : RJ = ((rb,lb,sb),0) := HRJ.out.symm.trans rfl
  obtain ⟨al,a0,a1,a2⟩ := c3_at HA.out
  obtain ⟨xl,c0,c1,c2⟩ := c3_at HC.out
  obtain ⟨rl,rc,rf⟩ := boxN HR.out
  have r0 := rc 0 _ rfl
  have r1 := rc 1 _ rfl
  have r2 := rc 2 _ rfl
  have u0 := rf 0
  have u1 := rf 1
  have u2 := rf 2
  simp only [Nat.zero_add] at r0 r1 r2
  clear rc rf
  go_wp2_with fail
  refine bodyPost_ret (v := .tuple #[.agg #[.bool rb,.slice pm lb.length cm,.slice pt sb.length ct],.int .i64 0]) (by simp [*,results,Tryz.results13,go_sem]) rfl ?_
  have hk := set3_kpt wn (g + 2) 0 1 2 (.bool rb) (.slice pm lb.length cm) (.slice pt sb.length ct)
  refine ⟨_,rfl,⟨pm,cm,pt,ct,rfl,rd_ne H3.out (fun b hb => by omega) hk,rd_ne H4.out (fun b hb => by omega) hk⟩,HB.out.trans (hk.below (fun x hx => by simp at hx; have := HG.out; omega) HB.out.size)⟩
 | true =>
  cases rb with
  | false =>
   obtain rfl : RJ = ((true,la,sa),0) := HRJ.out.symm.trans rfl
   obtain ⟨al,a0,a1,a2⟩ := c3_at HA.out
   obtain ⟨xl,c0,c1,c2⟩ := c3_at HC.out
   obtain ⟨rl,rc,rf⟩ := boxN HR.out
   have r0 := rc 0 _ rfl
   have r1 := rc 1 _ rfl
   have r2 := rc 2 _ rfl
   have u0 := rf 0
   have u1 := rf 1
   have u2 := rf 2
   simp only [Nat.zero_add] at r0 r1 r2
   clear rc rf
   go_wp2_with fail
   refine bodyPost_ret (v := .tuple #[.agg #[.bool true,.slice pl la.length cl,.slice ps sa.length cs],.int .i64 0]) (by simp [*,results,Tryz.results13,go_sem]) rfl ?_
   have hk := set3_kpt wn (g + 2) 0 1 2 (.bool true) (.slice pl la.length cl) (.slice ps sa.length cs)
   refine ⟨_,rfl,⟨pl,cl,ps,cs,rfl,rd_ne H1.out (fun b hb => by omega) hk,rd_ne H2.out (fun b hb => by omega) hk⟩,HB.out.trans (hk.below (fun x hx => by simp at hx; have := HG.out; omega) HB.out.size)⟩
  | true =>
   obtain ⟨al,a0,a1,a2⟩ := c3_at HA.out
   obtain ⟨xl,c0,c1,c2⟩ := c3_at HC.out
   go_wp2_with fail
   clear al a0 a1 a2 xl c0 c1 c2
   refine (All_r (fun b => b < g) (fun b => b < g) rb0 p cap AR _ _ sa sb wn HT.out H2.out H4.out hs).mono ?_
   rintro e wa ⟨vs,rfl,ho,hbn⟩
   have HWN : Hid (g + 2 < wn.heap.size) := hid (Array.getElem?_eq_some_iff.1 HR.out).1
   have HWA : Hid (wn.heap.size <= wa.heap.size) := hid hbn.size
   replace HA := hid (blk_b HA.out hbn)
   replace HC := hid (blk_b HC.out hbn)
   replace HR := hid (blk_b HR.out hbn)
   replace H1 := hid (H1.out.any (sP.grow _) hbn)
   replace H3 := hid (H3.out.any (sP.grow _) hbn)
   replace HT := hid (HT.out.below hbn)
   have HGW := (Array.getElem?_eq_some_iff.1 HR.out).1
   have HW : Hid (g + 2 < wn.heap.size) := hid HWN.out
   replace HB := hid (HB.out.trans (hbn.mono HB.out.size))
   clear HGW hbn H2 H4 HWN
   obtain ⟨al,a0,a1,a2⟩ := c3_at HA.out
   obtain ⟨xl,c0,c1,c2⟩ := c3_at HC.out
   by_cases hse : sa.length = sb.length
   ·rw [decide_eq_true hse]
    rw [if_pos hse] at ho
    have HO := hid (ho.rd (sP.grow _))
    obtain ⟨po,co,hvo,-⟩ := HO.out.len
    subst hvo
    clear ho
    go_wp2_with fail
    clear al a0 a1 a2 xl c0 c1 c2
    refine (All_r (fun b => b < g) (fun b => b < g) rb0 p cap AR _ _ la lb wa HT.out H1.out H3.out hl).mono ?_
    rintro e wb ⟨vl,rfl,hq,hbn⟩
    replace HR := hid (blk_b HR.out hbn)
    replace HO := hid (HO.out.any (sP.grow _) hbn)
    replace HB := hid (HB.out.trans (hbn.mono HB.out.size))
    have HW2 : Hid (g + 2 < wa.heap.size) := hid (Nat.lt_of_lt_of_le HW.out HWA.out)
    clear hbn H1 H3 HA HC HWA
    by_cases hle : la.length = lb.length
    ·rw [decide_eq_true hle]
     rw [if_pos hle] at hq
     have HQ := hid (hq.rd (sP.grow _))
     obtain ⟨pq,cq,hvq,-⟩ := HQ.out.len
     subst hvq
     clear hq
     obtain rfl : RJ = ((true,allT (AR.map skOf) la lb,allT (AR.map skOf) sa sb),0) := HRJ.out.symm.trans (by unfold joinF; rw [if_neg (by simp),if_neg (by simp),if_neg (by simp [hse]),if_neg (by simp [hle])])
     obtain ⟨rl,rc,rf⟩ := boxN HR.out
     have r0 := rc 0 _ rfl
     have r1 := rc 1 _ rfl
     have r2 := rc 2 _ rfl
     have u0 := rf 0
     have u1 := rf 1
     have u2 := rf 2
     simp only [Nat.zero_add] at r0 r1 r2
     clear rc rf
     go_wp2_with fail
     refine bodyPost_ret (v := .tuple #[.agg #[.bool true,.slice pq (allT (AR.map skOf) la lb).length cq,.slice po (allT (AR.map skOf) sa sb).length co],.int .i64 0]) (by simp [*,results,Tryz.results13,go_sem]) rfl ?_
     have hk := set3_kpt wb (g + 2) 0 1 2 (.bool true) (.slice pq (allT (AR.map skOf) la lb).length cq) (.slice po (allT (AR.map skOf) sa sb).length co)
     refine ⟨_,rfl,⟨pq,cq,po,co,rfl,rd_ne HQ.out (fun b hb => by have := HW2.out; omega) hk,rd_ne HO.out (fun b hb => by have := HW.out; omega) hk⟩,HB.out.trans (hk.below (fun x hx => by simp at hx; have := HG.out; omega) HB.out.size)⟩
    ·rw [decide_eq_false hle]
     obtain rfl : RJ = (noFr,28) := HRJ.out.symm.trans (by unfold joinF; rw [if_neg (by simp),if_neg (by simp),if_neg (by simp [hse]),if_pos (by simpa using hle)])
     obtain ⟨pq,nq,cq,hvq⟩ := hq.slice
     subst hvq
     clear hq
     obtain ⟨rl,rc,rf⟩ := boxN HR.out
     have r0 := rc 0 _ rfl
     have r1 := rc 1 _ rfl
     have r2 := rc 2 _ rfl
     have u0 := rf 0
     have u1 := rf 1
     have u2 := rf 2
     simp only [Nat.zero_add] at r0 r1 r2
     clear rc rf
     go_wp2_with fail
     refine bodyPost_ret (v := .tuple #[.agg #[.bool false,.slice none 0 0,.slice none 0 0],.int .i64 28]) (by simp [*,results,Tryz.results13,go_sem]) rfl ?_
     have hk := set3_kpt wb (g + 2) 0 1 2 (.bool false) (.slice none 0 0) (.slice none 0 0)
     refine ⟨_,rfl,⟨none,0,none,0,rfl,RdX.nil _ _ _ _,RdX.nil _ _ _ _⟩,HB.out.trans (hk.below (fun x hx => by simp at hx; have := HG.out; omega) HB.out.size)⟩
   ·rw [decide_eq_false hse]
    obtain rfl : RJ = (noFr,30) := HRJ.out.symm.trans (by unfold joinF; rw [if_neg (by simp),if_neg (by simp),if_pos (by simpa using hse)])
    obtain ⟨pq,nq,cq,hvq⟩ := ho.slice
    subst hvq
    clear ho
    obtain ⟨rl,rc,rf⟩ := boxN HR.out
    have r0 := rc 0 _ rfl
    have r1 := rc 1 _ rfl
    have r2 := rc 2 _ rfl
    have u0 := rf 0
    have u1 := rf 1
    have u2 := rf 2
    simp only [Nat.zero_add] at r0 r1 r2
    clear rc rf
    go_wp2_with fail
    refine bodyPost_ret (v := .tuple #[.agg #[.bool false,.slice none 0 0,.slice none 0 0],.int .i64 30]) (by simp [*,results,Tryz.results13,go_sem]) rfl ?_
    have hk := set3_kpt wa (g + 2) 0 1 2 (.bool false) (.slice none 0 0) (.slice none 0 0)
    refine ⟨_,rfl,⟨none,0,none,0,rfl,RdX.nil _ _ _ _,RdX.nil _ _ _ _⟩,HB.out.trans (hk.below (fun x hx => by simp at hx; have := HG.out; omega) HB.out.size)⟩
end Go.Proofs.YtpkjlgdbaajpoaaGreat.R
