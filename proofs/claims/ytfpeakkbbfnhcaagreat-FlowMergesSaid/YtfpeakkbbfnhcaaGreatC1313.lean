/- Texts that the proof is made of, joined. No condition. -/
import Derived.Test.YtfpeakkbbfnhcaaGreatC1312
import Derived.Test.YtfpeakkbbfnhcaaGreatC130
import Derived.Deep.DeepCutAuto
import Derived.Deep.CutBlock
import Derived.Test.YtfpeakkbbfnhcaaGreatC13H
set_option linter.unusedVariables false
set_option linter.unusedSimpArgs false
set_option maxRecDepth 100000
set_option maxHeartbeats 16000000
namespace Go.Proofs.YtfpeakkbbfnhcaaGreat.R
open Go.RowKit Go.Proofs.YtfpeakkbbfnhcaaGreat.D Go.Proofs.YtfpeakkbbfnhcaaGreat.O Go.Proofs.YtfpeakkbbfnhcaaGreat.A
def loadP (a : Ty) : Chg := if a.1 = 7 then ([],[],29) else ([],[a],0)
def dupP (S : List Ty) : Chg := ([topT],(if S.length = 0 then [] else [lastT S,lastT S]),0)
def endsP (ret : Ty) (o : Int) : Chg := ((if o = 39 then [ret] else []),[],if decide (o = 39) = decide (ret.1 = 5) then 28 else 0)
def chgP (ret : Ty) (f : Fr) (o k : Int) : Chg := if o = 4 then loadP (f.2.1.getD k.toNat topT) else if o = 7 then dupP f.2.2 else if o = 39 ∨ o = 40 then endsP ret o else fixP o
theorem al_heap (w : World) (o : Obj) : (w.alloc o).heap = w.heap.push o := rfl
theorem al3_b (w : World) (X Y Z : Obj) : Below w.heap.size w (((w.alloc X).alloc Y).alloc Z) := (jbl2 w X Y).trans ((below_alR _ _).mono (jbl2 w X Y).size)
theorem al4_b (w : World) (X Y Z V : Obj) : Below w.heap.size w ((((w.alloc X).alloc Y).alloc Z).alloc V) := (jbl2 w X Y).trans ((jbl2 _ _ _).mono (jbl2 w X Y).size)
theorem load_f (a : Ty) (w : World) : Calls Tryz.prog 168 #[tyv a] w (ChgP (loadP a) w) := by
 obtain ⟨a1,a2⟩ := a
 rw [tyv_pair]
 dsimp only
 obtain ⟨wn,hwn⟩ : ∃ x,x = (w.alloc (.cells #[.int .i64 a1,.string a2] 45)).alloc (.cells #[.slice none 0 0,.slice none 0 0,.int .i64 0] 195) := ⟨_,rfl⟩
 have HB : Hid (Below w.heap.size w wn) := hid (by rw [hwn]; exact jbl2 _ _ _)
 have HA : Hid (wn.heap[w.heap.size]? = some (.cells #[.int .i64 a1,.string a2] 45 (0,0))) := hid (by rw [hwn]; simp only [al_heap,Array.getElem?_push,Array.size_push]; repeat (first | rw [if_pos (by first | trivial | omega)] | rw [if_neg (by omega)]))
 have HR : Hid (wn.heap[w.heap.size + 1]? = some (.cells #[.slice none 0 0,.slice none 0 0,.int .i64 0] 195 (0,0))) := hid (by rw [hwn]; simp only [al_heap,Array.getElem?_push,Array.size_push]; repeat (first | rw [if_pos (by first | trivial | omega)] | rw [if_neg (by omega)]))
 have HGS : Hid (w.heap.size + 2 = wn.heap.size) := hid (by rw [hwn]; simp)
 by_cases h7 : a1 = 7
 ·have HV : Hid (loadP (a1,a2) = ([],[],29)) := hid (by unfold loadP; rw [if_pos h7])
  rw [HV.out]
  subst h7
  go_enter Tryz.func168,Tryz.ntmps168
  go_upto_region 1 with fail
  rw [<- hwn]
  clear hwn
  obtain ⟨g,hg⟩ : ∃ z,w.heap.size = z := ⟨_,rfl⟩
  rw [hg] at HA HR ⊢
  have HG : Hid (w.heap.size = g) := hid hg
  clear hg
  obtain ⟨al,a0,-⟩ := c2_at HA.out
  obtain ⟨rl,rc,rf⟩ := boxN HR.out
  have r0 := rc 0 _ rfl
  have r1 := rc 1 _ rfl
  have r2 := rc 2 _ rfl
  have ru0 := rf 0
  have ru1 := rf 1
  have ru2 := rf 2
  simp only [Nat.zero_add] at r0 r1 r2
  clear rc rf
  go_wp2_with fail
  refine bodyPost_ret (v := .agg #[.slice none 0 0,.slice none 0 0,.int .i64 29]) (by simp [*,results,Tryz.results168,go_sem]) rfl ?_
  have hk := set3_kpt wn (g + 1) 0 1 2 (.slice none 0 0) (.slice none 0 0) (.int .i64 29)
  exact ⟨none,0,none,0,rfl,RdX.nil _ _ _ _,RdX.nil _ _ _ _,HB.out.trans (hk.below (fun x hx => by simp at hx; have := HG.out; omega) HB.out.size)⟩
 ·have HV : Hid (loadP (a1,a2) = ([],[(a1,a2)],0)) := hid (by unfold loadP; rw [if_neg h7])
  rw [HV.out]
  have h7b : (a1 == 7) = false := by simpa using h7
  go_enter Tryz.func168,Tryz.ntmps168
  go_upto_region 1 with fail
  rw [<- hwn]
  clear hwn
  obtain ⟨g,hg⟩ : ∃ z,w.heap.size = z := ⟨_,rfl⟩
  rw [hg] at HA HR HGS ⊢
  have HG : Hid (w.heap.size = g) := hid hg
  clear hg
  obtain ⟨al,a0,a9⟩ := c2_at HA.out
  go_upto_region 3 with fail
  have HL := hid (rdX_lit1 (sz := 2) (c := tyC) (fun _ => rfl) wn ((a1,a2) : Ty) #[.int .i64 a1,.string a2] 45 rfl)
  have hbn := below_alR wn (.cells #[.int .i64 a1,.string a2] 45)
  replace HR := hid (blk_b HR.out hbn)
  replace HB := hid (HB.out.trans (hbn.mono HB.out.size))
  have HLG : Hid (RdX 2 (sP tyC) (fun b => g + 1 < b) (wn.alloc (.cells #[.int .i64 a1,.string a2] 45)) (.slice (some ⟨wn.heap.size,0,none⟩) 1 1) [((a1,a2) : Ty)]) := hid ((OwnX.lits (sz := 2) (T := 45) (c := tyC) (fun _ => rfl) wn [((a1,a2) : Ty)] #[.int .i64 a1,.string a2] rfl 1 rfl (by omega)).rd (sP.grow _) |>.step (sP.grow _) (fun b hb _ => by have := HGS.out; omega) (fun _ _ _ => rfl) (Nat.le_refl _))
  clear HL hbn
  obtain ⟨rl,rc,rf⟩ := boxN HR.out
  have r0 := rc 0 _ rfl
  have r1 := rc 1 _ rfl
  have r2 := rc 2 _ rfl
  have ru0 := rf 0
  have ru1 := rf 1
  have ru2 := rf 2
  simp only [Nat.zero_add] at r0 r1 r2
  clear rc rf
  go_wp2_with fail
  refine bodyPost_ret (v := .agg #[.slice none 0 0,.slice (some ⟨wn.heap.size,0,none⟩) 1 1,.int .i64 0]) (by simp [*,results,Tryz.results168,go_sem]) rfl ?_
  have hk := set3_kpt (wn.alloc (.cells #[.int .i64 a1,.string a2] 45)) (g + 1) 0 1 2 (.slice none 0 0) (.slice (some ⟨wn.heap.size,0,none⟩) 1 1) (.int .i64 0)
  exact ⟨none,0,some ⟨wn.heap.size,0,none⟩,1,rfl,RdX.nil _ _ _ _,rd_ni HLG.out (fun b hb => ⟨by omega,by have := HG.out; omega⟩) hk,HB.out.trans (hk.below (fun x hx => by simp at hx; have := HG.out; omega) HB.out.size)⟩
theorem ends_f (ret : Ty) (o : Int) (ho : o = 39 ∨ o = 40) (w : World) : Calls Tryz.prog 170 #[tyv ret,.int .i64 o] w (ChgP (endsP ret o) w) := by
 obtain ⟨r1,r2⟩ := ret
 rw [tyv_pair]
 dsimp only
 obtain ⟨wn,hwn⟩ : ∃ x,x = ((w.alloc (.cells #[.int .i64 r1,.string r2] 45)).alloc (.cells #[.slice none 0 0,.slice none 0 0,.int .i64 0] 195)).alloc (.cells #[.slice none 0 0,.slice none 0 0,.int .i64 0] 195) := ⟨_,rfl⟩
 have HB : Hid (Below w.heap.size w wn) := hid (by rw [hwn]; exact al3_b _ _ _ _)
 have HA : Hid (wn.heap[w.heap.size]? = some (.cells #[.int .i64 r1,.string r2] 45 (0,0))) := hid (by rw [hwn]; simp only [al_heap,Array.getElem?_push,Array.size_push]; repeat (first | rw [if_pos (by first | trivial | omega)] | rw [if_neg (by omega)]))
 have HR : Hid (wn.heap[w.heap.size + 1]? = some (.cells #[.slice none 0 0,.slice none 0 0,.int .i64 0] 195 (0,0))) := hid (by rw [hwn]; simp only [al_heap,Array.getElem?_push,Array.size_push]; repeat (first | rw [if_pos (by first | trivial | omega)] | rw [if_neg (by omega)]))
 have HC : Hid (wn.heap[w.heap.size + 2]? = some (.cells #[.slice none 0 0,.slice none 0 0,.int .i64 0] 195 (0,0))) := hid (by rw [hwn]; simp only [al_heap,Array.getElem?_push,Array.size_push]; repeat (first | rw [if_pos (by first | trivial | omega)] | rw [if_neg (by omega)]))
 have HGS : Hid (w.heap.size + 3 = wn.heap.size) := hid (by rw [hwn]; simp)
 rcases ho with rfl | rfl <;> by_cases h5 : r1 = 5
 ·subst h5
  have HV : Hid (endsP (5,r2) 39 = ([(5,r2)],[],28)) := hid rfl
  rw [HV.out]
  have h5b : ((5 : Int) == 5) = true := rfl
  go_enter Tryz.func170,Tryz.ntmps170
  go_upto_region 2 with fail
  rw [<- hwn]
  clear hwn
  obtain ⟨g,hg⟩ : ∃ z,w.heap.size = z := ⟨_,rfl⟩
  rw [hg] at HA HR HC HGS ⊢
  have HG : Hid (w.heap.size = g) := hid hg
  clear hg
  obtain ⟨al,a0,a9⟩ := c2_at HA.out
  obtain ⟨cl,cc,cf⟩ := boxN HC.out
  have c0 := cc 0 _ rfl
  have c1 := cc 1 _ rfl
  have c2 := cc 2 _ rfl
  have cu0 := cf 0
  have cu1 := cf 1
  have cu2 := cf 2
  simp only [Nat.zero_add] at c0 c1 c2
  clear cc cf
  go_upto_region 4 with fail
  obtain ⟨w0,hw0⟩ : ∃ x,x = wn.setCell ⟨g + 1 + 1,0,none⟩ (.slice (some ⟨wn.heap.size,0,none⟩) 1 1) := ⟨_,rfl⟩
  have hs0 : wn.heap.size = w0.heap.size := by rw [hw0]; simp
  have hk1 : Kpt [g + 2] wn w0 := by rw [hw0]; exact Kpt.set _ _ _ _ _ (by simp)
  have hc1 : w0.heap[g + 2]? = some (.cells #[.slice (some ⟨wn.heap.size,0,none⟩) 1 1,.slice none 0 0,.int .i64 0] 195 (0,0)) := by rw [hw0]; show (wn.setCell ⟨g + 2,0,none⟩ _).heap[g + 2]? = _; rw [heap_setCell_same _ _ 0 _ _ _ HC.out]; rfl
  rw [<- hw0]
  rw [hs0] at hc1 ⊢
  have hbn := below_alR w0 (.cells #[.int .i64 5,.string r2] 45)
  have HLG : Hid (RdX 2 (sP tyC) (fun b => g + 2 < b) (w0.alloc (.cells #[.int .i64 5,.string r2] 45)) (.slice (some ⟨w0.heap.size,0,none⟩) 1 1) [((5,r2) : Ty)]) := hid ((OwnX.lits (sz := 2) (T := 45) (c := tyC) (fun _ => rfl) w0 [((5,r2) : Ty)] #[.int .i64 5,.string r2] rfl 1 rfl (by omega)).rd (sP.grow _) |>.step (sP.grow _) (fun b hb _ => by have := HGS.out; omega) (fun _ _ _ => rfl) (Nat.le_refl _))
  have HC1 := hid (blk_b hc1 hbn)
  replace HA := hid (blk_b ((hk1.2 g (Array.getElem?_eq_some_iff.1 HA.out).1 (by simp)).trans HA.out) hbn)
  replace HR := hid (blk_b ((hk1.2 (g + 1) (Array.getElem?_eq_some_iff.1 HR.out).1 (by simp)).trans HR.out) hbn)
  replace HB := HB.out.trans (hk1.below (fun x hx => by simp at hx; have := HG.out; omega) HB.out.size)
  replace HB := hid (HB.trans (hbn.mono HB.size))
  obtain ⟨w1,hw1⟩ : ∃ x,x = w0.alloc (.cells #[.int .i64 5,.string r2] 45) := ⟨_,rfl⟩
  obtain ⟨gs,hgs⟩ : ∃ z,w0.heap.size = z := ⟨_,rfl⟩
  rw [<- hw1] at HC1 HLG HA HR HB ⊢
  rw [hgs] at HC1 HLG ⊢
  clear hgs hw1 hk1 hbn HC HGS hc1 hs0 hw0
  clear cl c0 c1 c2 cu0 cu1 cu2
  clear al a0 a9
  obtain ⟨al,a0,a9⟩ := c2_at HA.out
  obtain ⟨cl,cc,cf⟩ := boxN HC1.out
  have c0 := cc 0 _ rfl
  have c1 := cc 1 _ rfl
  have c2 := cc 2 _ rfl
  have cu0 := cf 0
  have cu1 := cf 1
  have cu2 := cf 2
  simp only [Nat.zero_add] at c0 c1 c2
  clear cc cf
  go_upto_region 6 with fail
  obtain ⟨w2,hw2⟩ : ∃ x,x = w1.setCell ⟨g + 1 + 1,2,none⟩ (.int .i64 28) := ⟨_,rfl⟩
  have hk1 : Kpt [g + 2] w1 w2 := by rw [hw2]; exact Kpt.set _ _ _ _ _ (by simp)
  have HC2 : Hid (w2.heap[g + 2]? = some (.cells #[.slice (some ⟨gs,0,none⟩) 1 1,.slice none 0 0,.int .i64 28] 195 (0,0))) := hid (by rw [hw2]; show (w1.setCell ⟨g + 2,2,none⟩ _).heap[g + 2]? = _; rw [heap_setCell_same _ _ 2 _ _ _ HC1.out]; rfl)
  replace HR := hid ((hk1.2 (g + 1) (Array.getElem?_eq_some_iff.1 HR.out).1 (by simp)).trans HR.out)
  replace HLG := hid (rd_ni (ok' := fun b => g + 2 < b) HLG.out (fun b hb => ⟨by omega,hb⟩) hk1)
  replace HB := hid (HB.out.trans (hk1.below (fun x hx => by simp at hx; have := HG.out; omega) HB.out.size))
  rw [<- hw2]
  clear hw2 hk1 HC1
  clear cl c0 c1 c2 cu0 cu1 cu2
  obtain ⟨cl,cc,cf⟩ := boxN HC2.out
  have c0 := cc 0 _ rfl
  have c1 := cc 1 _ rfl
  have c2 := cc 2 _ rfl
  have cu0 := cf 0
  have cu1 := cf 1
  have cu2 := cf 2
  simp only [Nat.zero_add] at c0 c1 c2
  clear cc cf
  obtain ⟨rl,rc,rf⟩ := boxN HR.out
  have r0 := rc 0 _ rfl
  have r1 := rc 1 _ rfl
  have r2 := rc 2 _ rfl
  have ru0 := rf 0
  have ru1 := rf 1
  have ru2 := rf 2
  simp only [Nat.zero_add] at r0 r1 r2
  clear rc rf
  go_wp2_with fail
  refine bodyPost_ret (v := .agg #[.slice (some ⟨gs,0,none⟩) 1 1,.slice none 0 0,.int .i64 28]) (by simp [*,results,Tryz.results170,go_sem]) rfl ?_
  have hk := set3_kpt w2 (g + 1) 0 1 2 (.slice (some ⟨gs,0,none⟩) 1 1) (.slice none 0 0) (.int .i64 28)
  exact ⟨some ⟨gs,0,none⟩,1,none,0,rfl,rd_ni HLG.out (fun b hb => ⟨by omega,by have := HG.out; omega⟩) hk,RdX.nil _ _ _ _,HB.out.trans (hk.below (fun x hx => by simp at hx; have := HG.out; omega) HB.out.size)⟩
 ·have HV : Hid (endsP (r1,r2) 39 = ([(r1,r2)],[],0)) := hid (by unfold endsP; simp [h5])
  rw [HV.out]
  have h5b : (r1 == 5) = false := by simpa using h5
  go_enter Tryz.func170,Tryz.ntmps170
  go_upto_region 2 with fail
  rw [<- hwn]
  clear hwn
  obtain ⟨g,hg⟩ : ∃ z,w.heap.size = z := ⟨_,rfl⟩
  rw [hg] at HA HR HC HGS ⊢
  have HG : Hid (w.heap.size = g) := hid hg
  clear hg
  obtain ⟨al,a0,a9⟩ := c2_at HA.out
  obtain ⟨cl,cc,cf⟩ := boxN HC.out
  have c0 := cc 0 _ rfl
  have c1 := cc 1 _ rfl
  have c2 := cc 2 _ rfl
  have cu0 := cf 0
  have cu1 := cf 1
  have cu2 := cf 2
  simp only [Nat.zero_add] at c0 c1 c2
  clear cc cf
  go_upto_region 4 with fail
  obtain ⟨w0,hw0⟩ : ∃ x,x = wn.setCell ⟨g + 1 + 1,0,none⟩ (.slice (some ⟨wn.heap.size,0,none⟩) 1 1) := ⟨_,rfl⟩
  have hs0 : wn.heap.size = w0.heap.size := by rw [hw0]; simp
  have hk1 : Kpt [g + 2] wn w0 := by rw [hw0]; exact Kpt.set _ _ _ _ _ (by simp)
  have hc1 : w0.heap[g + 2]? = some (.cells #[.slice (some ⟨wn.heap.size,0,none⟩) 1 1,.slice none 0 0,.int .i64 0] 195 (0,0)) := by rw [hw0]; show (wn.setCell ⟨g + 2,0,none⟩ _).heap[g + 2]? = _; rw [heap_setCell_same _ _ 0 _ _ _ HC.out]; rfl
  rw [<- hw0]
  rw [hs0] at hc1 ⊢
  have hbn := below_alR w0 (.cells #[.int .i64 r1,.string r2] 45)
  have HLG : Hid (RdX 2 (sP tyC) (fun b => g + 2 < b) (w0.alloc (.cells #[.int .i64 r1,.string r2] 45)) (.slice (some ⟨w0.heap.size,0,none⟩) 1 1) [((r1,r2) : Ty)]) := hid ((OwnX.lits (sz := 2) (T := 45) (c := tyC) (fun _ => rfl) w0 [((r1,r2) : Ty)] #[.int .i64 r1,.string r2] rfl 1 rfl (by omega)).rd (sP.grow _) |>.step (sP.grow _) (fun b hb _ => by have := HGS.out; omega) (fun _ _ _ => rfl) (Nat.le_refl _))
  have HC1 := hid (blk_b hc1 hbn)
  replace HA := hid (blk_b ((hk1.2 g (Array.getElem?_eq_some_iff.1 HA.out).1 (by simp)).trans HA.out) hbn)
  replace HR := hid (blk_b ((hk1.2 (g + 1) (Array.getElem?_eq_some_iff.1 HR.out).1 (by simp)).trans HR.out) hbn)
  replace HB := HB.out.trans (hk1.below (fun x hx => by simp at hx; have := HG.out; omega) HB.out.size)
  replace HB := hid (HB.trans (hbn.mono HB.size))
  obtain ⟨w1,hw1⟩ : ∃ x,x = w0.alloc (.cells #[.int .i64 r1,.string r2] 45) := ⟨_,rfl⟩
  obtain ⟨gs,hgs⟩ : ∃ z,w0.heap.size = z := ⟨_,rfl⟩
  rw [<- hw1] at HC1 HLG HA HR HB ⊢
  rw [hgs] at HC1 HLG ⊢
  clear hgs hw1 hk1 hbn HC HGS hc1 hs0 hw0
  clear cl c0 c1 c2 cu0 cu1 cu2
  clear al a0 a9
  obtain ⟨al,a0,a9⟩ := c2_at HA.out
  obtain ⟨cl,cc,cf⟩ := boxN HC1.out
  have c0 := cc 0 _ rfl
  have c1 := cc 1 _ rfl
  have c2 := cc 2 _ rfl
  have cu0 := cf 0
  have cu1 := cf 1
  have cu2 := cf 2
  simp only [Nat.zero_add] at c0 c1 c2
  clear cc cf
  obtain ⟨rl,rc,rf⟩ := boxN HR.out
  have r0 := rc 0 _ rfl
  have r1 := rc 1 _ rfl
  have r2 := rc 2 _ rfl
  have ru0 := rf 0
  have ru1 := rf 1
  have ru2 := rf 2
  simp only [Nat.zero_add] at r0 r1 r2
  clear rc rf
  go_wp2_with fail
  refine bodyPost_ret (v := .agg #[.slice (some ⟨gs,0,none⟩) 1 1,.slice none 0 0,.int .i64 0]) (by simp [*,results,Tryz.results170,go_sem]) rfl ?_
  have hk := set3_kpt w1 (g + 1) 0 1 2 (.slice (some ⟨gs,0,none⟩) 1 1) (.slice none 0 0) (.int .i64 0)
  exact ⟨some ⟨gs,0,none⟩,1,none,0,rfl,rd_ni HLG.out (fun b hb => ⟨by omega,by have := HG.out; omega⟩) hk,RdX.nil _ _ _ _,HB.out.trans (hk.below (fun x hx => by simp at hx; have := HG.out; omega) HB.out.size)⟩
 ·subst h5
  have HV : Hid (endsP (5,r2) 40 = ([],[],0)) := hid rfl
  rw [HV.out]
  have h5b : ((5 : Int) == 5) = true := rfl
  go_enter Tryz.func170,Tryz.ntmps170
  go_upto_region 2 with fail
  rw [<- hwn]
  clear hwn
  obtain ⟨g,hg⟩ : ∃ z,w.heap.size = z := ⟨_,rfl⟩
  rw [hg] at HA HR HC HGS ⊢
  have HG : Hid (w.heap.size = g) := hid hg
  clear hg
  obtain ⟨al,a0,a9⟩ := c2_at HA.out
  obtain ⟨cl,cc,cf⟩ := boxN HC.out
  have c0 := cc 0 _ rfl
  have c1 := cc 1 _ rfl
  have c2 := cc 2 _ rfl
  have cu0 := cf 0
  have cu1 := cf 1
  have cu2 := cf 2
  simp only [Nat.zero_add] at c0 c1 c2
  clear cc cf
  obtain ⟨rl,rc,rf⟩ := boxN HR.out
  have r0 := rc 0 _ rfl
  have r1 := rc 1 _ rfl
  have r2 := rc 2 _ rfl
  have ru0 := rf 0
  have ru1 := rf 1
  have ru2 := rf 2
  simp only [Nat.zero_add] at r0 r1 r2
  clear rc rf
  go_wp2_with fail
  refine bodyPost_ret (v := .agg #[.slice none 0 0,.slice none 0 0,.int .i64 0]) (by simp [*,results,Tryz.results170,go_sem]) rfl ?_
  have hk := set3_kpt wn (g + 1) 0 1 2 (.slice none 0 0) (.slice none 0 0) (.int .i64 0)
  exact ⟨none,0,none,0,rfl,RdX.nil _ _ _ _,RdX.nil _ _ _ _,HB.out.trans (hk.below (fun x hx => by simp at hx; have := HG.out; omega) HB.out.size)⟩
 ·have HV : Hid (endsP (r1,r2) 40 = ([],[],28)) := hid (by unfold endsP; simp [h5])
  rw [HV.out]
  have h5b : (r1 == 5) = false := by simpa using h5
  go_enter Tryz.func170,Tryz.ntmps170
  go_upto_region 2 with fail
  rw [<- hwn]
  clear hwn
  obtain ⟨g,hg⟩ : ∃ z,w.heap.size = z := ⟨_,rfl⟩
  rw [hg] at HA HR HC HGS ⊢
  have HG : Hid (w.heap.size = g) := hid hg
  clear hg
  obtain ⟨al,a0,a9⟩ := c2_at HA.out
  obtain ⟨cl,cc,cf⟩ := boxN HC.out
  have c0 := cc 0 _ rfl
  have c1 := cc 1 _ rfl
  have c2 := cc 2 _ rfl
  have cu0 := cf 0
  have cu1 := cf 1
  have cu2 := cf 2
  simp only [Nat.zero_add] at c0 c1 c2
  clear cc cf
  go_upto_region 6 with fail
  obtain ⟨w2,hw2⟩ : ∃ x,x = wn.setCell ⟨g + 1 + 1,2,none⟩ (.int .i64 28) := ⟨_,rfl⟩
  have hk1 : Kpt [g + 2] wn w2 := by rw [hw2]; exact Kpt.set _ _ _ _ _ (by simp)
  have HC2 : Hid (w2.heap[g + 2]? = some (.cells #[.slice none 0 0,.slice none 0 0,.int .i64 28] 195 (0,0))) := hid (by rw [hw2]; show (wn.setCell ⟨g + 2,2,none⟩ _).heap[g + 2]? = _; rw [heap_setCell_same _ _ 2 _ _ _ HC.out]; rfl)
  replace HR := hid ((hk1.2 (g + 1) (Array.getElem?_eq_some_iff.1 HR.out).1 (by simp)).trans HR.out)
  replace HB := hid (HB.out.trans (hk1.below (fun x hx => by simp at hx; have := HG.out; omega) HB.out.size))
  rw [<- hw2]
  clear hw2 hk1 HC
  clear cl c0 c1 c2 cu0 cu1 cu2
  obtain ⟨cl,cc,cf⟩ := boxN HC2.out
  have c0 := cc 0 _ rfl
  have c1 := cc 1 _ rfl
  have c2 := cc 2 _ rfl
  have cu0 := cf 0
  have cu1 := cf 1
  have cu2 := cf 2
  simp only [Nat.zero_add] at c0 c1 c2
  clear cc cf
  obtain ⟨rl,rc,rf⟩ := boxN HR.out
  have r0 := rc 0 _ rfl
  have r1 := rc 1 _ rfl
  have r2 := rc 2 _ rfl
  have ru0 := rf 0
  have ru1 := rf 1
  have ru2 := rf 2
  simp only [Nat.zero_add] at r0 r1 r2
  clear rc rf
  go_wp2_with fail
  refine bodyPost_ret (v := .agg #[.slice none 0 0,.slice none 0 0,.int .i64 28]) (by simp [*,results,Tryz.results170,go_sem]) rfl ?_
  have hk := set3_kpt w2 (g + 1) 0 1 2 (.slice none 0 0) (.slice none 0 0) (.int .i64 28)
  exact ⟨none,0,none,0,rfl,RdX.nil _ _ _ _,RdX.nil _ _ _ _,HB.out.trans (hk.below (fun x hx => by simp at hx; have := HG.out; omega) HB.out.size)⟩
theorem last_at {S : List Ty} {k : Nat} {x : Ty} (h : S.length - 1 = k) (hx : S[k]? = some x) : lastT S = x := by
 unfold lastT
 rw [List.getLastD_eq_getLast?,List.getLast?_eq_getElem?,h,hx]
 rfl
theorem dup_f (S : List Ty) (ps : Option Addr) (cs : Nat) (w : World) (hs : RdX 2 (sP tyC) anyB w (.slice ps S.length cs) S) (hl : S.length <= 100000) : Calls Tryz.prog 169 #[.slice ps S.length cs] w (ChgP (dupP S) w) := by
 obtain ⟨wn,hwn⟩ : ∃ x,x = w.alloc (.cells #[.slice none 0 0,.slice none 0 0,.int .i64 0] 195) := ⟨_,rfl⟩
 have HB : Hid (Below w.heap.size w wn) := hid (by rw [hwn]; exact below_alR _ _)
 have HR : Hid (wn.heap[w.heap.size]? = some (.cells #[.slice none 0 0,.slice none 0 0,.int .i64 0] 195 (0,0))) := hid (by rw [hwn]; simp only [al_heap,Array.getElem?_push,Array.size_push]; repeat (first | rw [if_pos (by first | trivial | omega)] | rw [if_neg (by omega)]))
 have HGS : Hid (w.heap.size + 1 = wn.heap.size) := hid (by rw [hwn]; simp)
 have HS := hid (rd_kb (rd_own hs) HB.out)
 clear hs
 go_enter Tryz.func169,Tryz.ntmps169
 go_upto_region 1 with fail
 rw [<- hwn]
 clear hwn
 obtain ⟨g,hg⟩ : ∃ z,w.heap.size = z := ⟨_,rfl⟩
 rw [hg] at HR HGS ⊢
 have HG : Hid (w.heap.size = g) := hid hg
 clear hg
 have HGL : Hid (g < wn.heap.size) := hid (by have := HGS.out; omega)
 clear HGS
 go_wp2_with fail
 have hal := below_alR wn (.cells #[.int .i64 7] 3)
 refine (kinds_1 7 wn.heap.size _ (heap_alloc_new _ _)).mono ?_
 rintro e w1 ⟨pt,ct,rfl,hr,hbn⟩
 have Ht := hid (rd_gt hr (show g < _ from Nat.lt_of_lt_of_le HGL.out hal.size))
 replace HR := hid (blk_b (blk_b HR.out hal) hbn)
 replace HGL : Hid (g < w1.heap.size) := hid (Nat.lt_of_lt_of_le HGL.out (Nat.le_trans hal.size hbn.size))
 replace HB := hid ((HB.out.trans (hal.mono HB.out.size)).trans (hbn.mono (HB.out.trans (hal.mono HB.out.size)).size))
 replace HS := hid (rd_kb (rd_kb HS.out hal) hbn)
 clear hr hbn hal
 go_upto_region 2 with fail
 have hbn := below_alR w1 (.cells #[.slice pt 1 ct,.slice none 0 0,.int .i64 0] 195)
 have HC := hid (heap_alloc_new w1 (.cells #[.slice pt 1 ct,.slice none 0 0,.int .i64 0] 195))
 obtain ⟨w2,hw2⟩ : ∃ z,z = w1.alloc (.cells #[.slice pt 1 ct,.slice none 0 0,.int .i64 0] 195) := ⟨_,rfl⟩
 obtain ⟨gc,hgc⟩ : ∃ z,w1.heap.size = z := ⟨_,rfl⟩
 have Ht1 : RdX 2 (sP tyC) (fun b => g < b /\ b ≠ gc) w1 (.slice pt 1 ct) [((7,⟨#[]⟩) : Ty)] := Ht.out.step (sP.grow _) (fun b hb hl => ⟨hb,by omega⟩) (fun _ _ _ => rfl) (Nat.le_refl _)
 replace Ht := hid (rd_kb Ht1 hbn)
 replace HR := hid (blk_b HR.out hbn)
 replace HS := hid (rd_kb HS.out hbn)
 replace HB := hid (HB.out.trans (hbn.mono HB.out.size))
 have HGG : Hid (g < gc) := hid (by have := HGL.out; omega)
 have HGC : Hid (gc < w2.heap.size) := hid (by rw [hw2,<- hgc]; simp)
 rw [<- hw2] at HC HR HS HB Ht ⊢
 rw [hgc] at HC ⊢
 clear hbn hw2 hgc Ht1 HGL
 by_cases hn : S.length = 0
 ·have HV : Hid (dupP S = ([((7,⟨#[]⟩) : Ty)],[],0)) := hid (by unfold dupP; rw [if_pos hn]; rfl)
  have hn1 : (S.length : Int) = 0 := by omega
  have hn2 : ¬ (0 : Int) < (S.length : Int) := by omega
  replace Ht := hid (rd_imp (ok' := fun b => g < b) Ht.out (fun b hb => hb.1))
  obtain ⟨dl,dc,df⟩ := boxN HC.out
  have d0 := dc 0 _ rfl
  have d1 := dc 1 _ rfl
  have d2 := dc 2 _ rfl
  simp only [Nat.zero_add] at d0 d1 d2
  clear dc df
  obtain ⟨rl,rc,rf⟩ := boxN HR.out
  have r0 := rc 0 _ rfl
  have r1 := rc 1 _ rfl
  have r2 := rc 2 _ rfl
  have ru0 := rf 0
  have ru1 := rf 1
  have ru2 := rf 2
  simp only [Nat.zero_add] at r0 r1 r2
  clear rc rf
  go_wp2_with fail
  refine bodyPost_ret (v := .agg #[.slice pt 1 ct,.slice none 0 0,.int .i64 0]) (by simp [*,results,Tryz.results169,go_sem]) rfl ?_
  have hk := set3_kpt w2 g 0 1 2 (.slice pt 1 ct) (.slice none 0 0) (.int .i64 0)
  rw [HV.out]
  exact ⟨pt,ct,none,0,rfl,rd_ni Ht.out (fun b hb => ⟨by omega,by have := HG.out; omega⟩) hk,RdX.nil _ _ _ _,HB.out.trans (hk.below (fun x hx => by simp at hx; have := HG.out; omega) HB.out.size)⟩
 ·obtain ⟨k,hk⟩ : ∃ k,S.length - 1 = k := ⟨_,rfl⟩
  have hkl : k < S.length := by omega
  obtain ⟨x,hx⟩ : ∃ x,S[k]? = some x := ⟨_,List.getElem?_eq_getElem hkl⟩
  have HV : Hid (dupP S = ([((7,⟨#[]⟩) : Ty)],[x,x],0)) := hid (by unfold dupP; rw [if_neg hn,last_at hk hx]; rfl)
  have hn1 : (0 : Int) < (S.length : Int) := by omega
  have hk1 : IntKind.i64.wrap ((S.length : Int) - 1) = (k : Int) := by rw [w64 (by omega) (by omega)]; omega
  have hk2 : (k : Int) < (S.length : Int) := by omega
  have hk3 : 0 <= (k : Int) := by omega
  have hk4 : (k : Int).toNat = k := by omega
  obtain ⟨bx,ox,rfl,-,-,hbx,hga,hca⟩ := HS.out.place (fun e => by rw [e] at hx; simp at hx)
  have HCA := hid (sP_at (hca k x hx))
  have HGA := hid hga
  have HGX : Hid (bx < gc) := hid (by have := HG.out; have := HGG.out; omega)
  clear hga hca hx hk hbx
  have HNE : Hid (bx ≠ gc) := hid (by have := HGX.out; omega)
  have HGB := HGA
  go_upto_region 4 with fail
  refine wp_region_held_drew (S := fun W => W.cell? ⟨bx,ox + k * 2,none⟩ = some (.int .i64 x.1) /\ W.cell? ⟨bx,ox + k * 2 + 1,none⟩ = some (.string x.2)) (by kernel_rfl) (by first | exact HCA.out.two | exact (cells2_kpt HCA.out HGB.out (Kpt.set [gc] _ _ _ _ (by simp)) HNE.out).two) (fun hh => ?_)
  refine tkA 0 _ hh ?_
  try go_frame
  refine tkA 1 _ hh ?_
  try go_frame
  refine tkA 2 _ hh ?_
  try go_frame
  refine tkA 3 _ hh ?_
  try go_frame
  refine tkB 4 _ hh ?_
  try go_frame
  refine tkA 5 _ hh ?_
  try go_frame
  refine tkA 6 _ hh ?_
  try go_frame
  refine tkA 7 _ hh ?_
  try go_frame
  refine tkA 8 _ hh ?_
  try go_frame
  refine tkB 9 _ hh ?_
  try go_frame
  refine rdH [10] ?_
  refine AllReadyH.cons (o := _) (by simp only [List.getElem?_toArray,List.getElem?_cons_succ,List.getElem?_cons_zero]; rfl) (fun KX hKX => ?_) AllReadyH.nil
  clear hh
  go_simp
  have hsrc := OwnX.lits (sz := 2) (T := 45) (c := tyC) (fun _ => rfl) w2 [x,x] #[.int .i64 x.1,.string x.2,.int .i64 x.1,.string x.2] rfl 2 rfl (by omega)
  have hbn := (below_alR w2 (.cells #[.int .i64 x.1,.string x.2,.int .i64 x.1,.string x.2] 45)).drew
  replace HR := hid (blk_b HR.out hbn)
  replace HC := hid (blk_b HC.out hbn)
  replace HCA := hid (HCA.out.below hbn HGA.out)
  replace Ht := hid (rd_kb Ht.out hbn)
  replace HB := hid (HB.out.trans (hbn.mono HB.out.size))
  have HGP : Hid (gc < w2.heap.size) := hid HGC.out
  replace HGB : Hid (bx < (w2.alloc (.cells #[.int .i64 x.1,.string x.2,.int .i64 x.1,.string x.2] 45)).drew.heap.size) := hid (Nat.lt_of_lt_of_le HGA.out hbn.size)
  obtain ⟨w3,hw_⟩ : ∃ z,z = (w2.alloc (.cells #[.int .i64 x.1,.string x.2,.int .i64 x.1,.string x.2] 45)).drew := ⟨_,rfl⟩
  replace hsrc : RdX 2 (sP tyC) (fun b => w2.heap.size <= b) w3 (.slice (some ⟨w2.heap.size,0,none⟩) 2 2) [x,x] := by rw [hw_]; exact hsrc.rd (sP.grow _)
  rw [<- hw_] at HR HC HCA Ht HB HGB ⊢
  obtain ⟨gs,hgs⟩ : ∃ z,w2.heap.size = z := ⟨_,rfl⟩
  rw [hgs] at HGP hsrc ⊢
  have HSR := hid hsrc
  clear hw_ hgs hsrc hbn HGA
  refine hKX.out _ _ (by first | exact HCA.out.two | exact (cells2_kpt HCA.out HGB.out (Kpt.set [gc] _ _ _ _ (by simp)) HNE.out).two) (fun hh => ?_)
  clear hKX KX
  try go_frame
  refine tkA 11 _ hh ?_
  try go_frame
  refine rdH [12] ?_
  refine AllReadyH.cons (o := _) (by simp only [List.getElem?_toArray,List.getElem?_cons_succ,List.getElem?_cons_zero]; rfl) (fun KX hKX => ?_) AllReadyH.nil
  clear hh
  obtain ⟨cl,cc,cf⟩ := boxN HC.out
  have c0 := cc 0 _ rfl
  have c1 := cc 1 _ rfl
  have c2 := cc 2 _ rfl
  have cu0 := cf 0
  have cu1 := cf 1
  have cu2 := cf 2
  simp only [Nat.zero_add] at c0 c1 c2
  clear cc cf
  go_simp
  refine hKX.out _ _ (by first | exact HCA.out.two | exact (cells2_kpt HCA.out HGB.out (Kpt.set [gc] _ _ _ _ (by simp)) HNE.out).two) (fun hh => ?_)
  clear hKX KX
  try go_frame
  refine wpAnyH_done (by kernel_rfl) ?_ _
  clear hh
  obtain ⟨w5,hw5⟩ : ∃ x,x = w3.setCell ⟨gc,1,none⟩ (.slice (some ⟨gs,0,none⟩) 2 2) := ⟨_,rfl⟩
  have hk1 : Kpt [gc] w3 w5 := by rw [hw5]; exact Kpt.set _ _ _ _ _ (by simp)
  have HC5 : Hid (w5.heap[gc]? = some (.cells #[.slice pt 1 ct,.slice (some ⟨gs,0,none⟩) 2 2,.int .i64 0] 195 (0,0))) := hid (by rw [hw5,heap_setCell_same _ _ 1 _ _ _ HC.out]; rfl)
  replace HR := hid ((hk1.2 g (Array.getElem?_eq_some_iff.1 HR.out).1 (by have := HGG.out; simp; omega)).trans HR.out)
  replace Ht := hid (rd_ni (ok' := fun b => g < b) Ht.out (fun b hb => ⟨hb.2,hb.1⟩) hk1)
  replace HSR := hid (rd_ni (ok' := fun b => g < b) HSR.out (fun b hb => ⟨by have := HGP.out; omega,by have := HGP.out; have := HGG.out; omega⟩) hk1)
  replace HB := hid (HB.out.trans (hk1.below (fun x hx => by simp at hx; have := HG.out; have := HGG.out; omega) HB.out.size))
  rw [<- hw5]
  clear hw5 hk1 HC
  obtain ⟨dl,dc,df⟩ := boxN HC5.out
  have d0 := dc 0 _ rfl
  have d1 := dc 1 _ rfl
  have d2 := dc 2 _ rfl
  simp only [Nat.zero_add] at d0 d1 d2
  clear dc df
  obtain ⟨rl,rc,rf⟩ := boxN HR.out
  have r0 := rc 0 _ rfl
  have r1 := rc 1 _ rfl
  have r2 := rc 2 _ rfl
  have ru0 := rf 0
  have ru1 := rf 1
  have ru2 := rf 2
  simp only [Nat.zero_add] at r0 r1 r2
  clear rc rf
  go_wp2_with fail
  refine bodyPost_ret (v := .agg #[.slice pt 1 ct,.slice (some ⟨gs,0,none⟩) 2 2,.int .i64 0]) (by simp [*,results,Tryz.results169,go_sem]) rfl ?_
  have hk := set3_kpt w5 g 0 1 2 (.slice pt 1 ct) (.slice (some ⟨gs,0,none⟩) 2 2) (.int .i64 0)
  rw [HV.out]
  exact ⟨pt,ct,some ⟨gs,0,none⟩,2,rfl,rd_ni Ht.out (fun b hb => ⟨by omega,by have := HG.out; omega⟩) hk,rd_ni HSR.out (fun b hb => ⟨by omega,by have := HG.out; omega⟩) hk,HB.out.trans (hk.below (fun x hx => by simp at hx; have := HG.out; omega) HB.out.size)⟩
end Go.Proofs.YtfpeakkbbfnhcaaGreat.R
namespace Go.Proofs.YtfpeakkbbfnhcaaGreat.R
open Go.RowKit Go.Proofs.YtfpeakkbbfnhcaaGreat.D Go.Proofs.YtfpeakkbbfnhcaaGreat.O Go.Proofs.YtfpeakkbbfnhcaaGreat.A
theorem changeOf_f (vt : Value) (nm : ByteArray) (ret : Ty) (st ab : Bool) (loc : Int) (pp pc ph : Option Addr) (np cp nc cc nh ch : Nat) (f : Fr) (pl ps : Option Addr) (cl cs : Nat) (o n k : Int) (s c m d : ByteArray) (w : World)
  (h1 : RdX 2 (sP tyC) anyB w (.slice pl f.2.1.length cl) f.2.1) (h2 : RdX 2 (sP tyC) anyB w (.slice ps f.2.2.length cs) f.2.2) (hl : f.2.1.length <= 100000) (hs : f.2.2.length <= 100000)
  (hu4 : ¬ usesI o = 4) (hu5 : ¬ usesI o = 5) (hu6 : ¬ usesI o = 6) (hk : o = 4 -> 0 <= k /\ k < (f.2.1.length : Int)) (hF : o = 4 ∨ o = 7 ∨ o = 39 ∨ o = 40 ∨ o ∈ opsF) :
  Calls Tryz.prog 141 #[vt,.agg #[.string nm,.slice pp np cp,.int .i64 ret.1,.string ret.2,.bool st,.bool ab,.int .i64 loc,.slice pc nc cc,.slice ph nh ch],.agg #[.bool f.1,.slice pl f.2.1.length cl,.slice ps f.2.2.length cs],.agg #[.int .i64 o,.int .i32 n,.int .i64 k,.string s,.string c,.string m,.string d]] w (ChgP (chgP ret f o k) w) := by
 obtain ⟨fr,L,S⟩ := f
 obtain ⟨r1,r2⟩ := ret
 dsimp only at h1 h2 hl hs hk ⊢
 obtain ⟨wn,hwn⟩ : ∃ x,x = (((w.alloc (.cells #[.string nm,.slice pp np cp,.int .i64 r1,.string r2,.bool st,.bool ab,.int .i64 loc,.slice pc nc cc,.slice ph nh ch] 49)).alloc (.cells #[.bool fr,.slice pl L.length cl,.slice ps S.length cs] 61)).alloc (.cells #[.int .i64 o,.int .i32 n,.int .i64 k,.string s,.string c,.string m,.string d] 59)).alloc (.cells #[.slice none 0 0,.slice none 0 0,.int .i64 0] 195) := ⟨_,rfl⟩
 have HB : Hid (Below w.heap.size w wn) := hid (by rw [hwn]; exact al4_b _ _ _ _ _)
 have HM : Hid (wn.heap[w.heap.size]? = some (.cells #[.string nm,.slice pp np cp,.int .i64 r1,.string r2,.bool st,.bool ab,.int .i64 loc,.slice pc nc cc,.slice ph nh ch] 49 (0,0))) := hid (by rw [hwn]; simp only [al_heap,Array.getElem?_push,Array.size_push]; repeat (first | rw [if_pos (by first | trivial | omega)] | rw [if_neg (by omega)]))
 have HF : Hid (wn.heap[w.heap.size + 1]? = some (.cells #[.bool fr,.slice pl L.length cl,.slice ps S.length cs] 61 (0,0))) := hid (by rw [hwn]; simp only [al_heap,Array.getElem?_push,Array.size_push]; repeat (first | rw [if_pos (by first | trivial | omega)] | rw [if_neg (by omega)]))
 have HI : Hid (wn.heap[w.heap.size + 2]? = some (.cells #[.int .i64 o,.int .i32 n,.int .i64 k,.string s,.string c,.string m,.string d] 59 (0,0))) := hid (by rw [hwn]; simp only [al_heap,Array.getElem?_push,Array.size_push]; repeat (first | rw [if_pos (by first | trivial | omega)] | rw [if_neg (by omega)]))
 have HR : Hid (wn.heap[w.heap.size + 3]? = some (.cells #[.slice none 0 0,.slice none 0 0,.int .i64 0] 195 (0,0))) := hid (by rw [hwn]; simp only [al_heap,Array.getElem?_push,Array.size_push]; repeat (first | rw [if_pos (by first | trivial | omega)] | rw [if_neg (by omega)]))
 have HGS : Hid (w.heap.size + 4 = wn.heap.size) := hid (by rw [hwn]; simp)
 have H1 := hid (h1.any (sP.grow _) HB.out)
 have H2 := hid (h2.any (sP.grow _) HB.out)
 clear h1 h2
 by_cases h4 : o = 4
 ·subst h4
  have hU : usesI 4 = 3 := by decide
  obtain ⟨hk0,hk1⟩ := hk rfl
  obtain ⟨kn,rfl⟩ : ∃ z : Nat,k = (z : Int) := ⟨k.toNat,by omega⟩
  clear hk hF hu4 hu5 hu6
  have hkl : kn < L.length := by omega
  obtain ⟨x,hx⟩ : ∃ x,L[kn]? = some x := ⟨_,List.getElem?_eq_getElem hkl⟩
  obtain ⟨C,hC⟩ : ∃ C,loadP x = C := ⟨_,rfl⟩
  have HV : Hid (chgP (r1,r2) (fr,L,S) 4 (kn : Int) = C) := hid (by rw [<- hC]; show loadP (L.getD (kn : Int).toNat topT) = _; rw [show (kn : Int).toNat = kn by omega,List.getD_eq_getElem?_getD,hx]; rfl)
  have hk4 : (kn : Int).toNat = kn := by omega
  obtain ⟨bx,ox,rfl,-,-,-,hga,hca⟩ := H1.out.place (fun e => by rw [e] at hx; simp at hx)
  obtain ⟨d0,d1⟩ := (sP_at (hca kn x hx)).two
  clear hga hca hx
  go_enter Tryz.func141,Tryz.ntmps141
  go_upto_region 1 with fail
  rw [<- hwn]
  clear hwn
  obtain ⟨g,hg⟩ : ∃ z,w.heap.size = z := ⟨_,rfl⟩
  rw [hg] at HM HF HI HR HGS ⊢
  have HG : Hid (w.heap.size = g) := hid hg
  clear hg
  have HCL : Hid (∀ W,Calls Tryz.prog 168 #[.agg #[.int .i64 x.1,.string x.2]] W (ChgP C W)) := hid (fun W => by rw [<- hC]; exact load_f x W)
  clear hC
  obtain ⟨ql,qc,qf⟩ := boxN HI.out
  have q0 := qc 0 _ rfl
  have q1 := qc 1 _ rfl
  have q2 := qc 2 _ rfl
  have q3 := qc 3 _ rfl
  have q4 := qc 4 _ rfl
  have q5 := qc 5 _ rfl
  have q6 := qc 6 _ rfl
  simp only [Nat.zero_add] at q0 q1 q2 q3 q4 q5 q6
  clear qc qf
  obtain ⟨yl,yc,yf⟩ := boxN HF.out
  have y0 := yc 0 _ rfl
  have y1 := yc 1 _ rfl
  have y2 := yc 2 _ rfl
  simp only [Nat.zero_add] at y0 y1 y2
  clear yc yf
  go_wp2_with (go_at_call 164; refine (uses_any _ _).mono ?_; rintro e w' ⟨rfl,rfl⟩)
  clear ql q0 q1 q2 q3 q4 q5 q6
  clear yl y0 y1 y2
  refine (HCL.out _).mono ?_
  rintro e w1 ⟨pt,ct,pz,cz,rfl,h1,h2,hbn⟩
  have HT1 := hid h1
  have HT2 := hid h2
  replace HR := hid (blk_b HR.out hbn)
  replace HB := hid (HB.out.trans (hbn.mono HB.out.size))
  clear h1 h2 hbn
  obtain ⟨rl,rc,rf⟩ := boxN HR.out
  have r0 := rc 0 _ rfl
  have r1 := rc 1 _ rfl
  have r2 := rc 2 _ rfl
  have ru0 := rf 0
  have ru1 := rf 1
  have ru2 := rf 2
  simp only [Nat.zero_add] at r0 r1 r2
  clear rc rf
  go_wp2_with fail
  refine bodyPost_ret (v := .agg #[.slice pt C.1.length ct,.slice pz C.2.1.length cz,.int .i64 C.2.2]) (by simp [*,results,Tryz.results141,go_sem]) rfl ?_
  have hk := set3_kpt w1 (g + 3) 0 1 2 (.slice pt C.1.length ct) (.slice pz C.2.1.length cz) (.int .i64 C.2.2)
  rw [HV.out]
  exact ⟨pt,ct,pz,cz,rfl,rd_ni HT1.out (fun b hb => ⟨by have := HGS.out; omega,by have := HG.out; have := HGS.out; omega⟩) hk,rd_ni HT2.out (fun b hb => ⟨by have := HGS.out; omega,by have := HG.out; have := HGS.out; omega⟩) hk,HB.out.trans (hk.below (fun x hx => by simp at hx; have := HG.out; omega) HB.out.size)⟩
 by_cases h7 : o = 7
 ·subst h7
  have hU : usesI 7 = 0 := by decide
  clear hk hF hu4 hu5 hu6 h4
  obtain ⟨C,hC⟩ : ∃ C,dupP S = C := ⟨_,rfl⟩
  have HV : Hid (chgP (r1,r2) (fr,L,S) 7 k = C) := hid (by rw [<- hC]; rfl)
  go_enter Tryz.func141,Tryz.ntmps141
  go_upto_region 1 with fail
  rw [<- hwn]
  clear hwn
  obtain ⟨g,hg⟩ : ∃ z,w.heap.size = z := ⟨_,rfl⟩
  rw [hg] at HM HF HI HR HGS ⊢
  have HG : Hid (w.heap.size = g) := hid hg
  clear hg
  have HCL : Hid (∀ W,RdX 2 (sP tyC) anyB W (.slice ps S.length cs) S -> Calls Tryz.prog 169 #[.slice ps S.length cs] W (ChgP C W)) := hid (fun W hW => by rw [<- hC]; exact dup_f S ps cs W hW hs)
  clear hC
  obtain ⟨ql,qc,qf⟩ := boxN HI.out
  have q0 := qc 0 _ rfl
  have q1 := qc 1 _ rfl
  have q2 := qc 2 _ rfl
  have q3 := qc 3 _ rfl
  have q4 := qc 4 _ rfl
  have q5 := qc 5 _ rfl
  have q6 := qc 6 _ rfl
  simp only [Nat.zero_add] at q0 q1 q2 q3 q4 q5 q6
  clear qc qf
  obtain ⟨yl,yc,yf⟩ := boxN HF.out
  have y0 := yc 0 _ rfl
  have y1 := yc 1 _ rfl
  have y2 := yc 2 _ rfl
  simp only [Nat.zero_add] at y0 y1 y2
  clear yc yf
  go_wp2_with (go_at_call 164; refine (uses_any _ _).mono ?_; rintro e w' ⟨rfl,rfl⟩)
  clear ql q0 q1 q2 q3 q4 q5 q6
  clear yl y0 y1 y2
  refine (HCL.out _ H2.out).mono ?_
  rintro e w1 ⟨pt,ct,pz,cz,rfl,h1,h2,hbn⟩
  have HT1 := hid h1
  have HT2 := hid h2
  replace HR := hid (blk_b HR.out hbn)
  replace HB := hid (HB.out.trans (hbn.mono HB.out.size))
  clear h1 h2 hbn
  obtain ⟨rl,rc,rf⟩ := boxN HR.out
  have r0 := rc 0 _ rfl
  have r1 := rc 1 _ rfl
  have r2 := rc 2 _ rfl
  have ru0 := rf 0
  have ru1 := rf 1
  have ru2 := rf 2
  simp only [Nat.zero_add] at r0 r1 r2
  clear rc rf
  go_wp2_with fail
  refine bodyPost_ret (v := .agg #[.slice pt C.1.length ct,.slice pz C.2.1.length cz,.int .i64 C.2.2]) (by simp [*,results,Tryz.results141,go_sem]) rfl ?_
  have hk := set3_kpt w1 (g + 3) 0 1 2 (.slice pt C.1.length ct) (.slice pz C.2.1.length cz) (.int .i64 C.2.2)
  rw [HV.out]
  exact ⟨pt,ct,pz,cz,rfl,rd_ni HT1.out (fun b hb => ⟨by have := HGS.out; omega,by have := HG.out; have := HGS.out; omega⟩) hk,rd_ni HT2.out (fun b hb => ⟨by have := HGS.out; omega,by have := HG.out; have := HGS.out; omega⟩) hk,HB.out.trans (hk.below (fun x hx => by simp at hx; have := HG.out; omega) HB.out.size)⟩
 by_cases h39 : o = 39
 ·subst h39
  have hU : usesI 39 = 0 := by decide
  clear hk hF hu4 hu5 hu6 h4 h7
  obtain ⟨C,hC⟩ : ∃ C,endsP (r1,r2) 39 = C := ⟨_,rfl⟩
  have HV : Hid (chgP (r1,r2) (fr,L,S) 39 k = C) := hid (by rw [<- hC]; rfl)
  go_enter Tryz.func141,Tryz.ntmps141
  go_upto_region 1 with fail
  rw [<- hwn]
  clear hwn
  obtain ⟨g,hg⟩ : ∃ z,w.heap.size = z := ⟨_,rfl⟩
  rw [hg] at HM HF HI HR HGS ⊢
  have HG : Hid (w.heap.size = g) := hid hg
  clear hg
  have HCL : Hid (∀ W,Calls Tryz.prog 170 #[.agg #[.int .i64 r1,.string r2],.int .i64 39] W (ChgP C W)) := hid (fun W => by rw [<- hC]; exact ends_f (r1,r2) 39 (by decide) W)
  clear hC
  obtain ⟨ql,qc,qf⟩ := boxN HI.out
  have q0 := qc 0 _ rfl
  have q1 := qc 1 _ rfl
  have q2 := qc 2 _ rfl
  have q3 := qc 3 _ rfl
  have q4 := qc 4 _ rfl
  have q5 := qc 5 _ rfl
  have q6 := qc 6 _ rfl
  simp only [Nat.zero_add] at q0 q1 q2 q3 q4 q5 q6
  clear qc qf
  obtain ⟨yl,yc,yf⟩ := boxN HF.out
  have y0 := yc 0 _ rfl
  have y1 := yc 1 _ rfl
  have y2 := yc 2 _ rfl
  simp only [Nat.zero_add] at y0 y1 y2
  clear yc yf
  obtain ⟨zl,zc,zf⟩ := boxN HM.out
  have z0 := zc 0 _ rfl
  have z1 := zc 1 _ rfl
  have z2 := zc 2 _ rfl
  have z3 := zc 3 _ rfl
  have z4 := zc 4 _ rfl
  have z5 := zc 5 _ rfl
  have z6 := zc 6 _ rfl
  have z7 := zc 7 _ rfl
  have z8 := zc 8 _ rfl
  simp only [Nat.zero_add] at z0 z1 z2 z3 z4 z5 z6 z7 z8
  clear zc zf
  go_wp2_with (go_at_call 164; refine (uses_any _ _).mono ?_; rintro e w' ⟨rfl,rfl⟩)
  clear ql q0 q1 q2 q3 q4 q5 q6
  clear yl y0 y1 y2
  clear zl z0 z1 z2 z3 z4 z5 z6 z7 z8
  refine (HCL.out _).mono ?_
  rintro e w1 ⟨pt,ct,pz,cz,rfl,h1,h2,hbn⟩
  have HT1 := hid h1
  have HT2 := hid h2
  replace HR := hid (blk_b HR.out hbn)
  replace HB := hid (HB.out.trans (hbn.mono HB.out.size))
  clear h1 h2 hbn
  obtain ⟨rl,rc,rf⟩ := boxN HR.out
  have r0 := rc 0 _ rfl
  have r1 := rc 1 _ rfl
  have r2 := rc 2 _ rfl
  have ru0 := rf 0
  have ru1 := rf 1
  have ru2 := rf 2
  simp only [Nat.zero_add] at r0 r1 r2
  clear rc rf
  go_wp2_with fail
  refine bodyPost_ret (v := .agg #[.slice pt C.1.length ct,.slice pz C.2.1.length cz,.int .i64 C.2.2]) (by simp [*,results,Tryz.results141,go_sem]) rfl ?_
  have hk := set3_kpt w1 (g + 3) 0 1 2 (.slice pt C.1.length ct) (.slice pz C.2.1.length cz) (.int .i64 C.2.2)
  rw [HV.out]
  exact ⟨pt,ct,pz,cz,rfl,rd_ni HT1.out (fun b hb => ⟨by have := HGS.out; omega,by have := HG.out; have := HGS.out; omega⟩) hk,rd_ni HT2.out (fun b hb => ⟨by have := HGS.out; omega,by have := HG.out; have := HGS.out; omega⟩) hk,HB.out.trans (hk.below (fun x hx => by simp at hx; have := HG.out; omega) HB.out.size)⟩
 by_cases h40 : o = 40
 ·subst h40
  have hU : usesI 40 = 0 := by decide
  clear hk hF hu4 hu5 hu6 h4 h7 h39
  obtain ⟨C,hC⟩ : ∃ C,endsP (r1,r2) 40 = C := ⟨_,rfl⟩
  have HV : Hid (chgP (r1,r2) (fr,L,S) 40 k = C) := hid (by rw [<- hC]; rfl)
  go_enter Tryz.func141,Tryz.ntmps141
  go_upto_region 1 with fail
  rw [<- hwn]
  clear hwn
  obtain ⟨g,hg⟩ : ∃ z,w.heap.size = z := ⟨_,rfl⟩
  rw [hg] at HM HF HI HR HGS ⊢
  have HG : Hid (w.heap.size = g) := hid hg
  clear hg
  have HCL : Hid (∀ W,Calls Tryz.prog 170 #[.agg #[.int .i64 r1,.string r2],.int .i64 40] W (ChgP C W)) := hid (fun W => by rw [<- hC]; exact ends_f (r1,r2) 40 (by decide) W)
  clear hC
  obtain ⟨ql,qc,qf⟩ := boxN HI.out
  have q0 := qc 0 _ rfl
  have q1 := qc 1 _ rfl
  have q2 := qc 2 _ rfl
  have q3 := qc 3 _ rfl
  have q4 := qc 4 _ rfl
  have q5 := qc 5 _ rfl
  have q6 := qc 6 _ rfl
  simp only [Nat.zero_add] at q0 q1 q2 q3 q4 q5 q6
  clear qc qf
  obtain ⟨yl,yc,yf⟩ := boxN HF.out
  have y0 := yc 0 _ rfl
  have y1 := yc 1 _ rfl
  have y2 := yc 2 _ rfl
  simp only [Nat.zero_add] at y0 y1 y2
  clear yc yf
  obtain ⟨zl,zc,zf⟩ := boxN HM.out
  have z0 := zc 0 _ rfl
  have z1 := zc 1 _ rfl
  have z2 := zc 2 _ rfl
  have z3 := zc 3 _ rfl
  have z4 := zc 4 _ rfl
  have z5 := zc 5 _ rfl
  have z6 := zc 6 _ rfl
  have z7 := zc 7 _ rfl
  have z8 := zc 8 _ rfl
  simp only [Nat.zero_add] at z0 z1 z2 z3 z4 z5 z6 z7 z8
  clear zc zf
  go_wp2_with (go_at_call 164; refine (uses_any _ _).mono ?_; rintro e w' ⟨rfl,rfl⟩)
  clear ql q0 q1 q2 q3 q4 q5 q6
  clear yl y0 y1 y2
  clear zl z0 z1 z2 z3 z4 z5 z6 z7 z8
  refine (HCL.out _).mono ?_
  rintro e w1 ⟨pt,ct,pz,cz,rfl,h1,h2,hbn⟩
  have HT1 := hid h1
  have HT2 := hid h2
  replace HR := hid (blk_b HR.out hbn)
  replace HB := hid (HB.out.trans (hbn.mono HB.out.size))
  clear h1 h2 hbn
  obtain ⟨rl,rc,rf⟩ := boxN HR.out
  have r0 := rc 0 _ rfl
  have r1 := rc 1 _ rfl
  have r2 := rc 2 _ rfl
  have ru0 := rf 0
  have ru1 := rf 1
  have ru2 := rf 2
  simp only [Nat.zero_add] at r0 r1 r2
  clear rc rf
  go_wp2_with fail
  refine bodyPost_ret (v := .agg #[.slice pt C.1.length ct,.slice pz C.2.1.length cz,.int .i64 C.2.2]) (by simp [*,results,Tryz.results141,go_sem]) rfl ?_
  have hk := set3_kpt w1 (g + 3) 0 1 2 (.slice pt C.1.length ct) (.slice pz C.2.1.length cz) (.int .i64 C.2.2)
  rw [HV.out]
  exact ⟨pt,ct,pz,cz,rfl,rd_ni HT1.out (fun b hb => ⟨by have := HGS.out; omega,by have := HG.out; have := HGS.out; omega⟩) hk,rd_ni HT2.out (fun b hb => ⟨by have := HGS.out; omega,by have := HG.out; have := HGS.out; omega⟩) hk,HB.out.trans (hk.below (fun x hx => by simp at hx; have := HG.out; omega) HB.out.size)⟩
 have ho : o ∈ opsF := by rcases hF with h | h | h | h | h <;> first | exact h | omega
 clear hk hF
 obtain ⟨u,hu⟩ : ∃ u,usesI o = u := ⟨_,rfl⟩
 rw [hu] at hu4 hu5 hu6
 obtain ⟨C,hC⟩ : ∃ C,fixP o = C := ⟨_,rfl⟩
 have HV : Hid (chgP (r1,r2) (fr,L,S) o k = C) := hid (by rw [<- hC]; unfold chgP; rw [if_neg h4,if_neg h7,if_neg (by omega)])
 go_enter Tryz.func141,Tryz.ntmps141
 go_upto_region 1 with fail
 rw [<- hwn]
 clear hwn
 obtain ⟨g,hg⟩ : ∃ z,w.heap.size = z := ⟨_,rfl⟩
 rw [hg] at HM HF HI HR HGS ⊢
 have HG : Hid (w.heap.size = g) := hid hg
 clear hg
 have HCL : Hid (∀ W,Calls Tryz.prog 171 #[.int .i64 o] W (ChgP C W)) := hid (fun W => by rw [<- hC]; exact fixed_f o ho W)
 clear hC
 obtain ⟨ql,qc,qf⟩ := boxN HI.out
 have q0 := qc 0 _ rfl
 have q1 := qc 1 _ rfl
 have q2 := qc 2 _ rfl
 have q3 := qc 3 _ rfl
 have q4 := qc 4 _ rfl
 have q5 := qc 5 _ rfl
 have q6 := qc 6 _ rfl
 simp only [Nat.zero_add] at q0 q1 q2 q3 q4 q5 q6
 clear qc qf
 obtain ⟨yl,yc,yf⟩ := boxN HF.out
 have y0 := yc 0 _ rfl
 have y1 := yc 1 _ rfl
 have y2 := yc 2 _ rfl
 simp only [Nat.zero_add] at y0 y1 y2
 clear yc yf
 go_wp2_with (go_at_call 164; refine (uses_any _ _).mono ?_; rintro e w' ⟨rfl,rfl⟩)
 clear ql q0 q1 q2 q3 q4 q5 q6
 clear yl y0 y1 y2
 refine (HCL.out _).mono ?_
 rintro e w1 ⟨pt,ct,pz,cz,rfl,h1,h2,hbn⟩
 have HT1 := hid h1
 have HT2 := hid h2
 replace HR := hid (blk_b HR.out hbn)
 replace HB := hid (HB.out.trans (hbn.mono HB.out.size))
 clear h1 h2 hbn
 obtain ⟨rl,rc,rf⟩ := boxN HR.out
 have r0 := rc 0 _ rfl
 have r1 := rc 1 _ rfl
 have r2 := rc 2 _ rfl
 have ru0 := rf 0
 have ru1 := rf 1
 have ru2 := rf 2
 simp only [Nat.zero_add] at r0 r1 r2
 clear rc rf
 go_wp2_with fail
 refine bodyPost_ret (v := .agg #[.slice pt C.1.length ct,.slice pz C.2.1.length cz,.int .i64 C.2.2]) (by simp [*,results,Tryz.results141,go_sem]) rfl ?_
 have hk := set3_kpt w1 (g + 3) 0 1 2 (.slice pt C.1.length ct) (.slice pz C.2.1.length cz) (.int .i64 C.2.2)
 rw [HV.out]
 exact ⟨pt,ct,pz,cz,rfl,rd_ni HT1.out (fun b hb => ⟨by have := HGS.out; omega,by have := HG.out; have := HGS.out; omega⟩) hk,rd_ni HT2.out (fun b hb => ⟨by have := HGS.out; omega,by have := HG.out; have := HGS.out; omega⟩) hk,HB.out.trans (hk.below (fun x hx => by simp at hx; have := HG.out; omega) HB.out.size)⟩
end Go.Proofs.YtfpeakkbbfnhcaaGreat.R
