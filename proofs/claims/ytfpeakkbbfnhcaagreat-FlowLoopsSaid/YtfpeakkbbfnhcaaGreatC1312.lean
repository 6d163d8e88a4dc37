/- Texts that the proof is made of, joined. No condition. -/
import Derived.Test.YtfpeakkbbfnhcaaGreatC1311
import Derived.Deep.DeepCutAuto
import Derived.Deep.CutBlock
import Derived.Test.YtfpeakkbbfnhcaaGreatC13H
set_option linter.unusedVariables false
set_option linter.unusedSimpArgs false
set_option maxRecDepth 100000
set_option maxHeartbeats 16000000
namespace Go.Proofs.YtfpeakkbbfnhcaaGreat.R
open Go.RowKit Go.Proofs.YtfpeakkbbfnhcaaGreat.D Go.Proofs.YtfpeakkbbfnhcaaGreat.O Go.Proofs.YtfpeakkbbfnhcaaGreat.A
abbrev Chg := List Ty × List Ty × Int
def ChgP (c : Chg) (w : World) (e : Ending) (w' : World) : Prop := ∃ (pt : Option Addr) (ct : Nat) (pl : Option Addr) (cl : Nat),e = .returned (.agg #[.slice pt c.1.length ct,.slice pl c.2.1.length cl,.int .i64 c.2.2]) /\ RdX 2 (sP tyC) (fun b => w.heap.size <= b) w' (.slice pt c.1.length ct) c.1 /\ RdX 2 (sP tyC) (fun b => w.heap.size <= b) w' (.slice pl c.2.1.length cl) c.2.1 /\ Below w.heap.size w w'
def fauT : Ty := (4,⟨#[70,97,117,108,116]⟩)
def fixP (o : Int) : Chg :=
 if o = 1 ∨ o = 42 then ([],[intT],0) else if o = 2 then ([],[strT],0) else if o = 3 then ([],[nulT],0) else if o = 5 ∨ o = 6 ∨ o = 33 then ([topT],[],0)
 else if o = 8 ∨ o = 9 ∨ o = 10 ∨ o = 11 ∨ o = 12 ∨ o = 14 ∨ o = 15 then ([intT,intT],[intT],0) else if o = 13 then ([intT],[intT],0) else if o = 16 then ([strT,strT],[strT],0)
 else if o = 17 then ([strT],[intT],0) else if o = 18 then ([intT],[strT],0) else if o = 21 then ([intT],[arrT],0) else if o = 22 then ([arrT],[intT],0) else if o = 23 then ([intT,arrT],[intT],0)
 else if o = 24 then ([intT,intT,arrT],[],0) else if o = 32 then ([topT,topT],[intT],0) else if o = 38 then ([fauT],[],0) else if o = 41 then ([strT],[],0) else if o = 20 ∨ o = 43 then ([intT],[],0) else ([],[],0)
theorem rd_imp {W : World} {ok ok' : Nat -> Prop} {v : Value} {A : List Ty} (h : RdX 2 (sP tyC) ok W v A) (hi : ∀ b,ok b -> ok' b) : RdX 2 (sP tyC) ok' W v A := h.step (sP.grow _) (fun b hb _ => hi b hb) (fun _ _ _ => rfl) (Nat.le_refl _)
theorem rd_gt {W : World} {B g : Nat} {v : Value} {A : List Ty} (h : RdX 2 (sP tyC) (fun b => B <= b) W v A) (hg : g < B) : RdX 2 (sP tyC) (fun b => g < b) W v A := h.step (sP.grow _) (fun _ hb _ => Nat.lt_of_lt_of_le hg hb) (fun _ _ _ => rfl) (Nat.le_refl _)
theorem rd_kb {W W' : World} {ok : Nat -> Prop} {v : Value} {A : List Ty} (h : RdX 2 (sP tyC) ok W v A) (hb : Below W.heap.size W W') : RdX 2 (sP tyC) ok W' v A := h.step (sP.grow _) (fun _ hb _ => hb) (Keeps.of_below hb) hb.size
theorem rd_ni {W W' : World} {r : Nat} {ok ok' : Nat -> Prop} {v : Value} {A : List Ty} (h : RdX 2 (sP tyC) ok W v A) (hok : ∀ b,ok b -> b ≠ r /\ ok' b) (hk : Kpt [r] W W') : RdX 2 (sP tyC) ok' W' v A := h.step (sP.grow _) (fun b hb _ => (hok b hb).2) (fun b hb hl => hk.2 b hl (by simpa using (hok b hb).1)) hk.size
theorem fixed_1 (o : Int) (h : o = 1 ∨ o = 42) (w : World) : Calls Tryz.prog 171 #[.int .i64 o] w (ChgP ([],[(1,⟨#[]⟩)],0) w) := by
 rcases h with rfl | rfl
 all_goals
  obtain ⟨wn,hwn⟩ : ∃ x,x = w.alloc (.cells #[.slice none 0 0,.slice none 0 0,.int .i64 0] 195) := ⟨_,rfl⟩
  have HB : Hid (Below w.heap.size w wn) := hid (by rw [hwn]; exact below_alR _ _)
  have HR : Hid (wn.heap[w.heap.size]? = some (.cells #[.slice none 0 0,.slice none 0 0,.int .i64 0] 195 (0,0))) := hid (by rw [hwn]; exact heap_alloc_new _ _)
  go_enter Tryz.func171,Tryz.ntmps171
  go_upto_region 1 with fail
  rw [<- hwn]
  clear hwn
  obtain ⟨g,hg⟩ : ∃ z,w.heap.size = z := ⟨_,rfl⟩
  rw [hg] at HR ⊢
  have HG : Hid (w.heap.size = g) := hid hg
  have HGL : Hid (g < wn.heap.size) := hid (Array.getElem?_eq_some_iff.1 HR.out).1
  clear hg
  go_wp2_with fail
  have hal := below_alR wn (.cells #[.int .i64 1] 3)
  refine (kinds_1 1 wn.heap.size _ (heap_alloc_new _ _)).mono ?_
  rintro e w2 ⟨pl,cl,rfl,hr,hbn⟩
  have Hl := hid (rd_gt hr (show g < _ from Nat.lt_of_lt_of_le HGL.out hal.size))
  replace HR := hid (blk_b (blk_b HR.out hal) hbn)
  replace HGL : Hid (g < w2.heap.size) := hid (Nat.lt_of_lt_of_le HGL.out (Nat.le_trans hal.size hbn.size))
  replace HB := hid ((HB.out.trans (hal.mono HB.out.size)).trans (hbn.mono (HB.out.trans (hal.mono HB.out.size)).size))
  clear hr hbn hal
  obtain ⟨rl,rc,rf⟩ := boxN HR.out
  have r0 := rc 0 _ rfl
  have r1 := rc 1 _ rfl
  have r2 := rc 2 _ rfl
  have u0 := rf 0
  have u1 := rf 1
  have u2 := rf 2
  simp only [Nat.zero_add] at r0 r1 r2
  clear rc rf
  go_wp2_with fail
  refine bodyPost_ret (v := .agg #[.slice none 0 0,.slice pl 1 cl,.int .i64 0]) (by simp [*,results,Tryz.results171,go_sem]) rfl ?_
  have hk := set3_kpt w2 g 0 1 2 (.slice none 0 0) (.slice pl 1 cl) (.int .i64 0)
  exact ⟨none,0,pl,cl,rfl,RdX.nil _ _ _ _,rd_ni Hl.out (fun b hb => ⟨by omega,by have := HG.out; omega⟩) hk,HB.out.trans (hk.below (fun x hx => by simp at hx; have := HG.out; omega) HB.out.size)⟩
theorem fixed_2 (o : Int) (h : o = 2) (w : World) : Calls Tryz.prog 171 #[.int .i64 o] w (ChgP ([],[(2,⟨#[]⟩)],0) w) := by
 subst h
 obtain ⟨wn,hwn⟩ : ∃ x,x = w.alloc (.cells #[.slice none 0 0,.slice none 0 0,.int .i64 0] 195) := ⟨_,rfl⟩
 have HB : Hid (Below w.heap.size w wn) := hid (by rw [hwn]; exact below_alR _ _)
 have HR : Hid (wn.heap[w.heap.size]? = some (.cells #[.slice none 0 0,.slice none 0 0,.int .i64 0] 195 (0,0))) := hid (by rw [hwn]; exact heap_alloc_new _ _)
 go_enter Tryz.func171,Tryz.ntmps171
 go_upto_region 1 with fail
 rw [<- hwn]
 clear hwn
 obtain ⟨g,hg⟩ : ∃ z,w.heap.size = z := ⟨_,rfl⟩
 rw [hg] at HR ⊢
 have HG : Hid (w.heap.size = g) := hid hg
 have HGL : Hid (g < wn.heap.size) := hid (Array.getElem?_eq_some_iff.1 HR.out).1
 clear hg
 go_wp2_with fail
 have hal := below_alR wn (.cells #[.int .i64 2] 3)
 refine (kinds_1 2 wn.heap.size _ (heap_alloc_new _ _)).mono ?_
 rintro e w2 ⟨pl,cl,rfl,hr,hbn⟩
 have Hl := hid (rd_gt hr (show g < _ from Nat.lt_of_lt_of_le HGL.out hal.size))
 replace HR := hid (blk_b (blk_b HR.out hal) hbn)
 replace HGL : Hid (g < w2.heap.size) := hid (Nat.lt_of_lt_of_le HGL.out (Nat.le_trans hal.size hbn.size))
 replace HB := hid ((HB.out.trans (hal.mono HB.out.size)).trans (hbn.mono (HB.out.trans (hal.mono HB.out.size)).size))
 clear hr hbn hal
 obtain ⟨rl,rc,rf⟩ := boxN HR.out
 have r0 := rc 0 _ rfl
 have r1 := rc 1 _ rfl
 have r2 := rc 2 _ rfl
 have u0 := rf 0
 have u1 := rf 1
 have u2 := rf 2
 simp only [Nat.zero_add] at r0 r1 r2
 clear rc rf
 go_wp2_with fail
 refine bodyPost_ret (v := .agg #[.slice none 0 0,.slice pl 1 cl,.int .i64 0]) (by simp [*,results,Tryz.results171,go_sem]) rfl ?_
 have hk := set3_kpt w2 g 0 1 2 (.slice none 0 0) (.slice pl 1 cl) (.int .i64 0)
 exact ⟨none,0,pl,cl,rfl,RdX.nil _ _ _ _,rd_ni Hl.out (fun b hb => ⟨by omega,by have := HG.out; omega⟩) hk,HB.out.trans (hk.below (fun x hx => by simp at hx; have := HG.out; omega) HB.out.size)⟩
theorem fixed_3 (o : Int) (h : o = 3) (w : World) : Calls Tryz.prog 171 #[.int .i64 o] w (ChgP ([],[(6,⟨#[]⟩)],0) w) := by
 subst h
 obtain ⟨wn,hwn⟩ : ∃ x,x = w.alloc (.cells #[.slice none 0 0,.slice none 0 0,.int .i64 0] 195) := ⟨_,rfl⟩
 have HB : Hid (Below w.heap.size w wn) := hid (by rw [hwn]; exact below_alR _ _)
 have HR : Hid (wn.heap[w.heap.size]? = some (.cells #[.slice none 0 0,.slice none 0 0,.int .i64 0] 195 (0,0))) := hid (by rw [hwn]; exact heap_alloc_new _ _)
 go_enter Tryz.func171,Tryz.ntmps171
 go_upto_region 1 with fail
 rw [<- hwn]
 clear hwn
 obtain ⟨g,hg⟩ : ∃ z,w.heap.size = z := ⟨_,rfl⟩
 rw [hg] at HR ⊢
 have HG : Hid (w.heap.size = g) := hid hg
 have HGL : Hid (g < wn.heap.size) := hid (Array.getElem?_eq_some_iff.1 HR.out).1
 clear hg
 go_wp2_with fail
 have hal := below_alR wn (.cells #[.int .i64 6] 3)
 refine (kinds_1 6 wn.heap.size _ (heap_alloc_new _ _)).mono ?_
 rintro e w2 ⟨pl,cl,rfl,hr,hbn⟩
 have Hl := hid (rd_gt hr (show g < _ from Nat.lt_of_lt_of_le HGL.out hal.size))
 replace HR := hid (blk_b (blk_b HR.out hal) hbn)
 replace HGL : Hid (g < w2.heap.size) := hid (Nat.lt_of_lt_of_le HGL.out (Nat.le_trans hal.size hbn.size))
 replace HB := hid ((HB.out.trans (hal.mono HB.out.size)).trans (hbn.mono (HB.out.trans (hal.mono HB.out.size)).size))
 clear hr hbn hal
 obtain ⟨rl,rc,rf⟩ := boxN HR.out
 have r0 := rc 0 _ rfl
 have r1 := rc 1 _ rfl
 have r2 := rc 2 _ rfl
 have u0 := rf 0
 have u1 := rf 1
 have u2 := rf 2
 simp only [Nat.zero_add] at r0 r1 r2
 clear rc rf
 go_wp2_with fail
 refine bodyPost_ret (v := .agg #[.slice none 0 0,.slice pl 1 cl,.int .i64 0]) (by simp [*,results,Tryz.results171,go_sem]) rfl ?_
 have hk := set3_kpt w2 g 0 1 2 (.slice none 0 0) (.slice pl 1 cl) (.int .i64 0)
 exact ⟨none,0,pl,cl,rfl,RdX.nil _ _ _ _,rd_ni Hl.out (fun b hb => ⟨by omega,by have := HG.out; omega⟩) hk,HB.out.trans (hk.below (fun x hx => by simp at hx; have := HG.out; omega) HB.out.size)⟩
theorem fixed_5 (o : Int) (h : o = 5 ∨ o = 6 ∨ o = 33) (w : World) : Calls Tryz.prog 171 #[.int .i64 o] w (ChgP ([(7,⟨#[]⟩)],[],0) w) := by
 rcases h with rfl | rfl | rfl
 all_goals
  obtain ⟨wn,hwn⟩ : ∃ x,x = w.alloc (.cells #[.slice none 0 0,.slice none 0 0,.int .i64 0] 195) := ⟨_,rfl⟩
  have HB : Hid (Below w.heap.size w wn) := hid (by rw [hwn]; exact below_alR _ _)
  have HR : Hid (wn.heap[w.heap.size]? = some (.cells #[.slice none 0 0,.slice none 0 0,.int .i64 0] 195 (0,0))) := hid (by rw [hwn]; exact heap_alloc_new _ _)
  go_enter Tryz.func171,Tryz.ntmps171
  go_upto_region 1 with fail
  rw [<- hwn]
  clear hwn
  obtain ⟨g,hg⟩ : ∃ z,w.heap.size = z := ⟨_,rfl⟩
  rw [hg] at HR ⊢
  have HG : Hid (w.heap.size = g) := hid hg
  have HGL : Hid (g < wn.heap.size) := hid (Array.getElem?_eq_some_iff.1 HR.out).1
  clear hg
  go_wp2_with fail
  have hal := below_alR wn (.cells #[.int .i64 7] 3)
  refine (kinds_1 7 wn.heap.size _ (heap_alloc_new _ _)).mono ?_
  rintro e w1 ⟨pt,ct,rfl,hr,hbn⟩
  have Ht := hid (rd_gt hr (show g < _ from Nat.lt_of_lt_of_le HGL.out hal.size))
  replace HR := hid (blk_b (blk_b HR.out hal) hbn)
  replace HGL : Hid (g < w1.heap.size) := hid (Nat.lt_of_lt_of_le HGL.out (Nat.le_trans hal.size hbn.size))
  replace HB := hid ((HB.out.trans (hal.mono HB.out.size)).trans (hbn.mono (HB.out.trans (hal.mono HB.out.size)).size))
  clear hr hbn hal
  obtain ⟨rl,rc,rf⟩ := boxN HR.out
  have r0 := rc 0 _ rfl
  have r1 := rc 1 _ rfl
  have r2 := rc 2 _ rfl
  have u0 := rf 0
  have u1 := rf 1
  have u2 := rf 2
  simp only [Nat.zero_add] at r0 r1 r2
  clear rc rf
  go_wp2_with fail
  refine bodyPost_ret (v := .agg #[.slice pt 1 ct,.slice none 0 0,.int .i64 0]) (by simp [*,results,Tryz.results171,go_sem]) rfl ?_
  have hk := set3_kpt w1 g 0 1 2 (.slice pt 1 ct) (.slice none 0 0) (.int .i64 0)
  exact ⟨pt,ct,none,0,rfl,rd_ni Ht.out (fun b hb => ⟨by omega,by have := HG.out; omega⟩) hk,RdX.nil _ _ _ _,HB.out.trans (hk.below (fun x hx => by simp at hx; have := HG.out; omega) HB.out.size)⟩
theorem fixed_8 (o : Int) (h : o = 8 ∨ o = 9 ∨ o = 10 ∨ o = 11 ∨ o = 12 ∨ o = 14 ∨ o = 15) (w : World) : Calls Tryz.prog 171 #[.int .i64 o] w (ChgP ([(1,⟨#[]⟩),(1,⟨#[]⟩)],[(1,⟨#[]⟩)],0) w) := by
 rcases h with rfl | rfl | rfl | rfl | rfl | rfl | rfl
 all_goals
  obtain ⟨wn,hwn⟩ : ∃ x,x = w.alloc (.cells #[.slice none 0 0,.slice none 0 0,.int .i64 0] 195) := ⟨_,rfl⟩
  have HB : Hid (Below w.heap.size w wn) := hid (by rw [hwn]; exact below_alR _ _)
  have HR : Hid (wn.heap[w.heap.size]? = some (.cells #[.slice none 0 0,.slice none 0 0,.int .i64 0] 195 (0,0))) := hid (by rw [hwn]; exact heap_alloc_new _ _)
  go_enter Tryz.func171,Tryz.ntmps171
  go_upto_region 1 with fail
  rw [<- hwn]
  clear hwn
  obtain ⟨g,hg⟩ : ∃ z,w.heap.size = z := ⟨_,rfl⟩
  rw [hg] at HR ⊢
  have HG : Hid (w.heap.size = g) := hid hg
  have HGL : Hid (g < wn.heap.size) := hid (Array.getElem?_eq_some_iff.1 HR.out).1
  clear hg
  go_wp2_with fail
  have hal := below_alR wn (.cells #[.int .i64 1,.int .i64 1] 3)
  refine (kinds_2 1 1 wn.heap.size _ (heap_alloc_new _ _)).mono ?_
  rintro e w1 ⟨pt,ct,rfl,hr,hbn⟩
  have Ht := hid (rd_gt hr (show g < _ from Nat.lt_of_lt_of_le HGL.out hal.size))
  replace HR := hid (blk_b (blk_b HR.out hal) hbn)
  replace HGL : Hid (g < w1.heap.size) := hid (Nat.lt_of_lt_of_le HGL.out (Nat.le_trans hal.size hbn.size))
  replace HB := hid ((HB.out.trans (hal.mono HB.out.size)).trans (hbn.mono (HB.out.trans (hal.mono HB.out.size)).size))
  clear hr hbn hal
  go_wp2_with fail
  have hal := below_alR w1 (.cells #[.int .i64 1] 3)
  refine (kinds_1 1 w1.heap.size _ (heap_alloc_new _ _)).mono ?_
  rintro e w2 ⟨pl,cl,rfl,hr,hbn⟩
  have Hl := hid (rd_gt hr (show g < _ from Nat.lt_of_lt_of_le HGL.out hal.size))
  replace HR := hid (blk_b (blk_b HR.out hal) hbn)
  replace Ht := hid (rd_kb (rd_kb Ht.out hal) hbn)
  replace HGL : Hid (g < w2.heap.size) := hid (Nat.lt_of_lt_of_le HGL.out (Nat.le_trans hal.size hbn.size))
  replace HB := hid ((HB.out.trans (hal.mono HB.out.size)).trans (hbn.mono (HB.out.trans (hal.mono HB.out.size)).size))
  clear hr hbn hal
  obtain ⟨rl,rc,rf⟩ := boxN HR.out
  have r0 := rc 0 _ rfl
  have r1 := rc 1 _ rfl
  have r2 := rc 2 _ rfl
  have u0 := rf 0
  have u1 := rf 1
  have u2 := rf 2
  simp only [Nat.zero_add] at r0 r1 r2
  clear rc rf
  go_wp2_with fail
  refine bodyPost_ret (v := .agg #[.slice pt 2 ct,.slice pl 1 cl,.int .i64 0]) (by simp [*,results,Tryz.results171,go_sem]) rfl ?_
  have hk := set3_kpt w2 g 0 1 2 (.slice pt 2 ct) (.slice pl 1 cl) (.int .i64 0)
  exact ⟨pt,ct,pl,cl,rfl,rd_ni Ht.out (fun b hb => ⟨by omega,by have := HG.out; omega⟩) hk,rd_ni Hl.out (fun b hb => ⟨by omega,by have := HG.out; omega⟩) hk,HB.out.trans (hk.below (fun x hx => by simp at hx; have := HG.out; omega) HB.out.size)⟩
theorem fixed_13 (o : Int) (h : o = 13) (w : World) : Calls Tryz.prog 171 #[.int .i64 o] w (ChgP ([(1,⟨#[]⟩)],[(1,⟨#[]⟩)],0) w) := by
 subst h
 obtain ⟨wn,hwn⟩ : ∃ x,x = w.alloc (.cells #[.slice none 0 0,.slice none 0 0,.int .i64 0] 195) := ⟨_,rfl⟩
 have HB : Hid (Below w.heap.size w wn) := hid (by rw [hwn]; exact below_alR _ _)
 have HR : Hid (wn.heap[w.heap.size]? = some (.cells #[.slice none 0 0,.slice none 0 0,.int .i64 0] 195 (0,0))) := hid (by rw [hwn]; exact heap_alloc_new _ _)
 go_enter Tryz.func171,Tryz.ntmps171
 go_upto_region 1 with fail
 rw [<- hwn]
 clear hwn
 obtain ⟨g,hg⟩ : ∃ z,w.heap.size = z := ⟨_,rfl⟩
 rw [hg] at HR ⊢
 have HG : Hid (w.heap.size = g) := hid hg
 have HGL : Hid (g < wn.heap.size) := hid (Array.getElem?_eq_some_iff.1 HR.out).1
 clear hg
 go_wp2_with fail
 have hal := below_alR wn (.cells #[.int .i64 1] 3)
 refine (kinds_1 1 wn.heap.size _ (heap_alloc_new _ _)).mono ?_
 rintro e w1 ⟨pt,ct,rfl,hr,hbn⟩
 have Ht := hid (rd_gt hr (show g < _ from Nat.lt_of_lt_of_le HGL.out hal.size))
 replace HR := hid (blk_b (blk_b HR.out hal) hbn)
 replace HGL : Hid (g < w1.heap.size) := hid (Nat.lt_of_lt_of_le HGL.out (Nat.le_trans hal.size hbn.size))
 replace HB := hid ((HB.out.trans (hal.mono HB.out.size)).trans (hbn.mono (HB.out.trans (hal.mono HB.out.size)).size))
 clear hr hbn hal
 go_wp2_with fail
 have hal := below_alR w1 (.cells #[.int .i64 1] 3)
 refine (kinds_1 1 w1.heap.size _ (heap_alloc_new _ _)).mono ?_
 rintro e w2 ⟨pl,cl,rfl,hr,hbn⟩
 have Hl := hid (rd_gt hr (show g < _ from Nat.lt_of_lt_of_le HGL.out hal.size))
 replace HR := hid (blk_b (blk_b HR.out hal) hbn)
 replace Ht := hid (rd_kb (rd_kb Ht.out hal) hbn)
 replace HGL : Hid (g < w2.heap.size) := hid (Nat.lt_of_lt_of_le HGL.out (Nat.le_trans hal.size hbn.size))
 replace HB := hid ((HB.out.trans (hal.mono HB.out.size)).trans (hbn.mono (HB.out.trans (hal.mono HB.out.size)).size))
 clear hr hbn hal
 obtain ⟨rl,rc,rf⟩ := boxN HR.out
 have r0 := rc 0 _ rfl
 have r1 := rc 1 _ rfl
 have r2 := rc 2 _ rfl
 have u0 := rf 0
 have u1 := rf 1
 have u2 := rf 2
 simp only [Nat.zero_add] at r0 r1 r2
 clear rc rf
 go_wp2_with fail
 refine bodyPost_ret (v := .agg #[.slice pt 1 ct,.slice pl 1 cl,.int .i64 0]) (by simp [*,results,Tryz.results171,go_sem]) rfl ?_
 have hk := set3_kpt w2 g 0 1 2 (.slice pt 1 ct) (.slice pl 1 cl) (.int .i64 0)
 exact ⟨pt,ct,pl,cl,rfl,rd_ni Ht.out (fun b hb => ⟨by omega,by have := HG.out; omega⟩) hk,rd_ni Hl.out (fun b hb => ⟨by omega,by have := HG.out; omega⟩) hk,HB.out.trans (hk.below (fun x hx => by simp at hx; have := HG.out; omega) HB.out.size)⟩
theorem fixed_16 (o : Int) (h : o = 16) (w : World) : Calls Tryz.prog 171 #[.int .i64 o] w (ChgP ([(2,⟨#[]⟩),(2,⟨#[]⟩)],[(2,⟨#[]⟩)],0) w) := by
 subst h
 obtain ⟨wn,hwn⟩ : ∃ x,x = w.alloc (.cells #[.slice none 0 0,.slice none 0 0,.int .i64 0] 195) := ⟨_,rfl⟩
 have HB : Hid (Below w.heap.size w wn) := hid (by rw [hwn]; exact below_alR _ _)
 have HR : Hid (wn.heap[w.heap.size]? = some (.cells #[.slice none 0 0,.slice none 0 0,.int .i64 0] 195 (0,0))) := hid (by rw [hwn]; exact heap_alloc_new _ _)
 go_enter Tryz.func171,Tryz.ntmps171
 go_upto_region 1 with fail
 rw [<- hwn]
 clear hwn
 obtain ⟨g,hg⟩ : ∃ z,w.heap.size = z := ⟨_,rfl⟩
 rw [hg] at HR ⊢
 have HG : Hid (w.heap.size = g) := hid hg
 have HGL : Hid (g < wn.heap.size) := hid (Array.getElem?_eq_some_iff.1 HR.out).1
 clear hg
 go_wp2_with fail
 have hal := below_alR wn (.cells #[.int .i64 2,.int .i64 2] 3)
 refine (kinds_2 2 2 wn.heap.size _ (heap_alloc_new _ _)).mono ?_
 rintro e w1 ⟨pt,ct,rfl,hr,hbn⟩
 have Ht := hid (rd_gt hr (show g < _ from Nat.lt_of_lt_of_le HGL.out hal.size))
 replace HR := hid (blk_b (blk_b HR.out hal) hbn)
 replace HGL : Hid (g < w1.heap.size) := hid (Nat.lt_of_lt_of_le HGL.out (Nat.le_trans hal.size hbn.size))
 replace HB := hid ((HB.out.trans (hal.mono HB.out.size)).trans (hbn.mono (HB.out.trans (hal.mono HB.out.size)).size))
 clear hr hbn hal
 go_wp2_with fail
 have hal := below_alR w1 (.cells #[.int .i64 2] 3)
 refine (kinds_1 2 w1.heap.size _ (heap_alloc_new _ _)).mono ?_
 rintro e w2 ⟨pl,cl,rfl,hr,hbn⟩
 have Hl := hid (rd_gt hr (show g < _ from Nat.lt_of_lt_of_le HGL.out hal.size))
 replace HR := hid (blk_b (blk_b HR.out hal) hbn)
 replace Ht := hid (rd_kb (rd_kb Ht.out hal) hbn)
 replace HGL : Hid (g < w2.heap.size) := hid (Nat.lt_of_lt_of_le HGL.out (Nat.le_trans hal.size hbn.size))
 replace HB := hid ((HB.out.trans (hal.mono HB.out.size)).trans (hbn.mono (HB.out.trans (hal.mono HB.out.size)).size))
 clear hr hbn hal
 obtain ⟨rl,rc,rf⟩ := boxN HR.out
 have r0 := rc 0 _ rfl
 have r1 := rc 1 _ rfl
 have r2 := rc 2 _ rfl
 have u0 := rf 0
 have u1 := rf 1
 have u2 := rf 2
 simp only [Nat.zero_add] at r0 r1 r2
 clear rc rf
 go_wp2_with fail
 refine bodyPost_ret (v := .agg #[.slice pt 2 ct,.slice pl 1 cl,.int .i64 0]) (by simp [*,results,Tryz.results171,go_sem]) rfl ?_
 have hk := set3_kpt w2 g 0 1 2 (.slice pt 2 ct) (.slice pl 1 cl) (.int .i64 0)
 exact ⟨pt,ct,pl,cl,rfl,rd_ni Ht.out (fun b hb => ⟨by omega,by have := HG.out; omega⟩) hk,rd_ni Hl.out (fun b hb => ⟨by omega,by have := HG.out; omega⟩) hk,HB.out.trans (hk.below (fun x hx => by simp at hx; have := HG.out; omega) HB.out.size)⟩
theorem fixed_17 (o : Int) (h : o = 17) (w : World) : Calls Tryz.prog 171 #[.int .i64 o] w (ChgP ([(2,⟨#[]⟩)],[(1,⟨#[]⟩)],0) w) := by
 subst h
 obtain ⟨wn,hwn⟩ : ∃ x,x = w.alloc (.cells #[.slice none 0 0,.slice none 0 0,.int .i64 0] 195) := ⟨_,rfl⟩
 have HB : Hid (Below w.heap.size w wn) := hid (by rw [hwn]; exact below_alR _ _)
 have HR : Hid (wn.heap[w.heap.size]? = some (.cells #[.slice none 0 0,.slice none 0 0,.int .i64 0] 195 (0,0))) := hid (by rw [hwn]; exact heap_alloc_new _ _)
 go_enter Tryz.func171,Tryz.ntmps171
 go_upto_region 1 with fail
 rw [<- hwn]
 clear hwn
 obtain ⟨g,hg⟩ : ∃ z,w.heap.size = z := ⟨_,rfl⟩
 rw [hg] at HR ⊢
 have HG : Hid (w.heap.size = g) := hid hg
 have HGL : Hid (g < wn.heap.size) := hid (Array.getElem?_eq_some_iff.1 HR.out).1
 clear hg
 go_wp2_with fail
 have hal := below_alR wn (.cells #[.int .i64 2] 3)
 refine (kinds_1 2 wn.heap.size _ (heap_alloc_new _ _)).mono ?_
 rintro e w1 ⟨pt,ct,rfl,hr,hbn⟩
 have Ht := hid (rd_gt hr (show g < _ from Nat.lt_of_lt_of_le HGL.out hal.size))
 replace HR := hid (blk_b (blk_b HR.out hal) hbn)
 replace HGL : Hid (g < w1.heap.size) := hid (Nat.lt_of_lt_of_le HGL.out (Nat.le_trans hal.size hbn.size))
 replace HB := hid ((HB.out.trans (hal.mono HB.out.size)).trans (hbn.mono (HB.out.trans (hal.mono HB.out.size)).size))
 clear hr hbn hal
 go_wp2_with fail
 have hal := below_alR w1 (.cells #[.int .i64 1] 3)
 refine (kinds_1 1 w1.heap.size _ (heap_alloc_new _ _)).mono ?_
 rintro e w2 ⟨pl,cl,rfl,hr,hbn⟩
 have Hl := hid (rd_gt hr (show g < _ from Nat.lt_of_lt_of_le HGL.out hal.size))
 replace HR := hid (blk_b (blk_b HR.out hal) hbn)
 replace Ht := hid (rd_kb (rd_kb Ht.out hal) hbn)
 replace HGL : Hid (g < w2.heap.size) := hid (Nat.lt_of_lt_of_le HGL.out (Nat.le_trans hal.size hbn.size))
 replace HB := hid ((HB.out.trans (hal.mono HB.out.size)).trans (hbn.mono (HB.out.trans (hal.mono HB.out.size)).size))
 clear hr hbn hal
 obtain ⟨rl,rc,rf⟩ := boxN HR.out
 have r0 := rc 0 _ rfl
 have r1 := rc 1 _ rfl
 have r2 := rc 2 _ rfl
 have u0 := rf 0
 have u1 := rf 1
 have u2 := rf 2
 simp only [Nat.zero_add] at r0 r1 r2
 clear rc rf
 go_wp2_with fail
 refine bodyPost_ret (v := .agg #[.slice pt 1 ct,.slice pl 1 cl,.int .i64 0]) (by simp [*,results,Tryz.results171,go_sem]) rfl ?_
 have hk := set3_kpt w2 g 0 1 2 (.slice pt 1 ct) (.slice pl 1 cl) (.int .i64 0)
 exact ⟨pt,ct,pl,cl,rfl,rd_ni Ht.out (fun b hb => ⟨by omega,by have := HG.out; omega⟩) hk,rd_ni Hl.out (fun b hb => ⟨by omega,by have := HG.out; omega⟩) hk,HB.out.trans (hk.below (fun x hx => by simp at hx; have := HG.out; omega) HB.out.size)⟩
theorem fixed_18 (o : Int) (h : o = 18) (w : World) : Calls Tryz.prog 171 #[.int .i64 o] w (ChgP ([(1,⟨#[]⟩)],[(2,⟨#[]⟩)],0) w) := by
 subst h
 obtain ⟨wn,hwn⟩ : ∃ x,x = w.alloc (.cells #[.slice none 0 0,.slice none 0 0,.int .i64 0] 195) := ⟨_,rfl⟩
 have HB : Hid (Below w.heap.size w wn) := hid (by rw [hwn]; exact below_alR _ _)
 have HR : Hid (wn.heap[w.heap.size]? = some (.cells #[.slice none 0 0,.slice none 0 0,.int .i64 0] 195 (0,0))) := hid (by rw [hwn]; exact heap_alloc_new _ _)
 go_enter Tryz.func171,Tryz.ntmps171
 go_upto_region 1 with fail
 rw [<- hwn]
 clear hwn
 obtain ⟨g,hg⟩ : ∃ z,w.heap.size = z := ⟨_,rfl⟩
 rw [hg] at HR ⊢
 have HG : Hid (w.heap.size = g) := hid hg
 have HGL : Hid (g < wn.heap.size) := hid (Array.getElem?_eq_some_iff.1 HR.out).1
 clear hg
 go_wp2_with fail
 have hal := below_alR wn (.cells #[.int .i64 1] 3)
 refine (kinds_1 1 wn.heap.size _ (heap_alloc_new _ _)).mono ?_
 rintro e w1 ⟨pt,ct,rfl,hr,hbn⟩
 have Ht := hid (rd_gt hr (show g < _ from Nat.lt_of_lt_of_le HGL.out hal.size))
 replace HR := hid (blk_b (blk_b HR.out hal) hbn)
 replace HGL : Hid (g < w1.heap.size) := hid (Nat.lt_of_lt_of_le HGL.out (Nat.le_trans hal.size hbn.size))
 replace HB := hid ((HB.out.trans (hal.mono HB.out.size)).trans (hbn.mono (HB.out.trans (hal.mono HB.out.size)).size))
 clear hr hbn hal
 go_wp2_with fail
 have hal := below_alR w1 (.cells #[.int .i64 2] 3)
 refine (kinds_1 2 w1.heap.size _ (heap_alloc_new _ _)).mono ?_
 rintro e w2 ⟨pl,cl,rfl,hr,hbn⟩
 have Hl := hid (rd_gt hr (show g < _ from Nat.lt_of_lt_of_le HGL.out hal.size))
 replace HR := hid (blk_b (blk_b HR.out hal) hbn)
 replace Ht := hid (rd_kb (rd_kb Ht.out hal) hbn)
 replace HGL : Hid (g < w2.heap.size) := hid (Nat.lt_of_lt_of_le HGL.out (Nat.le_trans hal.size hbn.size))
 replace HB := hid ((HB.out.trans (hal.mono HB.out.size)).trans (hbn.mono (HB.out.trans (hal.mono HB.out.size)).size))
 clear hr hbn hal
 obtain ⟨rl,rc,rf⟩ := boxN HR.out
 have r0 := rc 0 _ rfl
 have r1 := rc 1 _ rfl
 have r2 := rc 2 _ rfl
 have u0 := rf 0
 have u1 := rf 1
 have u2 := rf 2
 simp only [Nat.zero_add] at r0 r1 r2
 clear rc rf
 go_wp2_with fail
 refine bodyPost_ret (v := .agg #[.slice pt 1 ct,.slice pl 1 cl,.int .i64 0]) (by simp [*,results,Tryz.results171,go_sem]) rfl ?_
 have hk := set3_kpt w2 g 0 1 2 (.slice pt 1 ct) (.slice pl 1 cl) (.int .i64 0)
 exact ⟨pt,ct,pl,cl,rfl,rd_ni Ht.out (fun b hb => ⟨by omega,by have := HG.out; omega⟩) hk,rd_ni Hl.out (fun b hb => ⟨by omega,by have := HG.out; omega⟩) hk,HB.out.trans (hk.below (fun x hx => by simp at hx; have := HG.out; omega) HB.out.size)⟩
theorem fixed_21 (o : Int) (h : o = 21) (w : World) : Calls Tryz.prog 171 #[.int .i64 o] w (ChgP ([(1,⟨#[]⟩)],[(3,⟨#[]⟩)],0) w) := by
 subst h
 obtain ⟨wn,hwn⟩ : ∃ x,x = w.alloc (.cells #[.slice none 0 0,.slice none 0 0,.int .i64 0] 195) := ⟨_,rfl⟩
 have HB : Hid (Below w.heap.size w wn) := hid (by rw [hwn]; exact below_alR _ _)
 have HR : Hid (wn.heap[w.heap.size]? = some (.cells #[.slice none 0 0,.slice none 0 0,.int .i64 0] 195 (0,0))) := hid (by rw [hwn]; exact heap_alloc_new _ _)
 go_enter Tryz.func171,Tryz.ntmps171
 go_upto_region 1 with fail
 rw [<- hwn]
 clear hwn
 obtain ⟨g,hg⟩ : ∃ z,w.heap.size = z := ⟨_,rfl⟩
 rw [hg] at HR ⊢
 have HG : Hid (w.heap.size = g) := hid hg
 have HGL : Hid (g < wn.heap.size) := hid (Array.getElem?_eq_some_iff.1 HR.out).1
 clear hg
 go_wp2_with fail
 have hal := below_alR wn (.cells #[.int .i64 1] 3)
 refine (kinds_1 1 wn.heap.size _ (heap_alloc_new _ _)).mono ?_
 rintro e w1 ⟨pt,ct,rfl,hr,hbn⟩
 have Ht := hid (rd_gt hr (show g < _ from Nat.lt_of_lt_of_le HGL.out hal.size))
 replace HR := hid (blk_b (blk_b HR.out hal) hbn)
 replace HGL : Hid (g < w1.heap.size) := hid (Nat.lt_of_lt_of_le HGL.out (Nat.le_trans hal.size hbn.size))
 replace HB := hid ((HB.out.trans (hal.mono HB.out.size)).trans (hbn.mono (HB.out.trans (hal.mono HB.out.size)).size))
 clear hr hbn hal
 go_wp2_with fail
 have hal := below_alR w1 (.cells #[.int .i64 3] 3)
 refine (kinds_1 3 w1.heap.size _ (heap_alloc_new _ _)).mono ?_
 rintro e w2 ⟨pl,cl,rfl,hr,hbn⟩
 have Hl := hid (rd_gt hr (show g < _ from Nat.lt_of_lt_of_le HGL.out hal.size))
 replace HR := hid (blk_b (blk_b HR.out hal) hbn)
 replace Ht := hid (rd_kb (rd_kb Ht.out hal) hbn)
 replace HGL : Hid (g < w2.heap.size) := hid (Nat.lt_of_lt_of_le HGL.out (Nat.le_trans hal.size hbn.size))
 replace HB := hid ((HB.out.trans (hal.mono HB.out.size)).trans (hbn.mono (HB.out.trans (hal.mono HB.out.size)).size))
 clear hr hbn hal
 obtain ⟨rl,rc,rf⟩ := boxN HR.out
 have r0 := rc 0 _ rfl
 have r1 := rc 1 _ rfl
 have r2 := rc 2 _ rfl
 have u0 := rf 0
 have u1 := rf 1
 have u2 := rf 2
 simp only [Nat.zero_add] at r0 r1 r2
 clear rc rf
 go_wp2_with fail
 refine bodyPost_ret (v := .agg #[.slice pt 1 ct,.slice pl 1 cl,.int .i64 0]) (by simp [*,results,Tryz.results171,go_sem]) rfl ?_
 have hk := set3_kpt w2 g 0 1 2 (.slice pt 1 ct) (.slice pl 1 cl) (.int .i64 0)
 exact ⟨pt,ct,pl,cl,rfl,rd_ni Ht.out (fun b hb => ⟨by omega,by have := HG.out; omega⟩) hk,rd_ni Hl.out (fun b hb => ⟨by omega,by have := HG.out; omega⟩) hk,HB.out.trans (hk.below (fun x hx => by simp at hx; have := HG.out; omega) HB.out.size)⟩
theorem fixed_22 (o : Int) (h : o = 22) (w : World) : Calls Tryz.prog 171 #[.int .i64 o] w (ChgP ([(3,⟨#[]⟩)],[(1,⟨#[]⟩)],0) w) := by
 subst h
 obtain ⟨wn,hwn⟩ : ∃ x,x = w.alloc (.cells #[.slice none 0 0,.slice none 0 0,.int .i64 0] 195) := ⟨_,rfl⟩
 have HB : Hid (Below w.heap.size w wn) := hid (by rw [hwn]; exact below_alR _ _)
 have HR : Hid (wn.heap[w.heap.size]? = some (.cells #[.slice none 0 0,.slice none 0 0,.int .i64 0] 195 (0,0))) := hid (by rw [hwn]; exact heap_alloc_new _ _)
 go_enter Tryz.func171,Tryz.ntmps171
 go_upto_region 1 with fail
 rw [<- hwn]
 clear hwn
 obtain ⟨g,hg⟩ : ∃ z,w.heap.size = z := ⟨_,rfl⟩
 rw [hg] at HR ⊢
 have HG : Hid (w.heap.size = g) := hid hg
 have HGL : Hid (g < wn.heap.size) := hid (Array.getElem?_eq_some_iff.1 HR.out).1
 clear hg
 go_wp2_with fail
 have hal := below_alR wn (.cells #[.int .i64 3] 3)
 refine (kinds_1 3 wn.heap.size _ (heap_alloc_new _ _)).mono ?_
 rintro e w1 ⟨pt,ct,rfl,hr,hbn⟩
 have Ht := hid (rd_gt hr (show g < _ from Nat.lt_of_lt_of_le HGL.out hal.size))
 replace HR := hid (blk_b (blk_b HR.out hal) hbn)
 replace HGL : Hid (g < w1.heap.size) := hid (Nat.lt_of_lt_of_le HGL.out (Nat.le_trans hal.size hbn.size))
 replace HB := hid ((HB.out.trans (hal.mono HB.out.size)).trans (hbn.mono (HB.out.trans (hal.mono HB.out.size)).size))
 clear hr hbn hal
 go_wp2_with fail
 have hal := below_alR w1 (.cells #[.int .i64 1] 3)
 refine (kinds_1 1 w1.heap.size _ (heap_alloc_new _ _)).mono ?_
 rintro e w2 ⟨pl,cl,rfl,hr,hbn⟩
 have Hl := hid (rd_gt hr (show g < _ from Nat.lt_of_lt_of_le HGL.out hal.size))
 replace HR := hid (blk_b (blk_b HR.out hal) hbn)
 replace Ht := hid (rd_kb (rd_kb Ht.out hal) hbn)
 replace HGL : Hid (g < w2.heap.size) := hid (Nat.lt_of_lt_of_le HGL.out (Nat.le_trans hal.size hbn.size))
 replace HB := hid ((HB.out.trans (hal.mono HB.out.size)).trans (hbn.mono (HB.out.trans (hal.mono HB.out.size)).size))
 clear hr hbn hal
 obtain ⟨rl,rc,rf⟩ := boxN HR.out
 have r0 := rc 0 _ rfl
 have r1 := rc 1 _ rfl
 have r2 := rc 2 _ rfl
 have u0 := rf 0
 have u1 := rf 1
 have u2 := rf 2
 simp only [Nat.zero_add] at r0 r1 r2
 clear rc rf
 go_wp2_with fail
 refine bodyPost_ret (v := .agg #[.slice pt 1 ct,.slice pl 1 cl,.int .i64 0]) (by simp [*,results,Tryz.results171,go_sem]) rfl ?_
 have hk := set3_kpt w2 g 0 1 2 (.slice pt 1 ct) (.slice pl 1 cl) (.int .i64 0)
 exact ⟨pt,ct,pl,cl,rfl,rd_ni Ht.out (fun b hb => ⟨by omega,by have := HG.out; omega⟩) hk,rd_ni Hl.out (fun b hb => ⟨by omega,by have := HG.out; omega⟩) hk,HB.out.trans (hk.below (fun x hx => by simp at hx; have := HG.out; omega) HB.out.size)⟩
theorem fixed_23 (o : Int) (h : o = 23) (w : World) : Calls Tryz.prog 171 #[.int .i64 o] w (ChgP ([(1,⟨#[]⟩),(3,⟨#[]⟩)],[(1,⟨#[]⟩)],0) w) := by
 subst h
 obtain ⟨wn,hwn⟩ : ∃ x,x = w.alloc (.cells #[.slice none 0 0,.slice none 0 0,.int .i64 0] 195) := ⟨_,rfl⟩
 have HB : Hid (Below w.heap.size w wn) := hid (by rw [hwn]; exact below_alR _ _)
 have HR : Hid (wn.heap[w.heap.size]? = some (.cells #[.slice none 0 0,.slice none 0 0,.int .i64 0] 195 (0,0))) := hid (by rw [hwn]; exact heap_alloc_new _ _)
 go_enter Tryz.func171,Tryz.ntmps171
 go_upto_region 1 with fail
 rw [<- hwn]
 clear hwn
 obtain ⟨g,hg⟩ : ∃ z,w.heap.size = z := ⟨_,rfl⟩
 rw [hg] at HR ⊢
 have HG : Hid (w.heap.size = g) := hid hg
 have HGL : Hid (g < wn.heap.size) := hid (Array.getElem?_eq_some_iff.1 HR.out).1
 clear hg
 go_wp2_with fail
 have hal := below_alR wn (.cells #[.int .i64 1,.int .i64 3] 3)
 refine (kinds_2 1 3 wn.heap.size _ (heap_alloc_new _ _)).mono ?_
 rintro e w1 ⟨pt,ct,rfl,hr,hbn⟩
 have Ht := hid (rd_gt hr (show g < _ from Nat.lt_of_lt_of_le HGL.out hal.size))
 replace HR := hid (blk_b (blk_b HR.out hal) hbn)
 replace HGL : Hid (g < w1.heap.size) := hid (Nat.lt_of_lt_of_le HGL.out (Nat.le_trans hal.size hbn.size))
 replace HB := hid ((HB.out.trans (hal.mono HB.out.size)).trans (hbn.mono (HB.out.trans (hal.mono HB.out.size)).size))
 clear hr hbn hal
 go_wp2_with fail
 have hal := below_alR w1 (.cells #[.int .i64 1] 3)
 refine (kinds_1 1 w1.heap.size _ (heap_alloc_new _ _)).mono ?_
 rintro e w2 ⟨pl,cl,rfl,hr,hbn⟩
 have Hl := hid (rd_gt hr (show g < _ from Nat.lt_of_lt_of_le HGL.out hal.size))
 replace HR := hid (blk_b (blk_b HR.out hal) hbn)
 replace Ht := hid (rd_kb (rd_kb Ht.out hal) hbn)
 replace HGL : Hid (g < w2.heap.size) := hid (Nat.lt_of_lt_of_le HGL.out (Nat.le_trans hal.size hbn.size))
 replace HB := hid ((HB.out.trans (hal.mono HB.out.size)).trans (hbn.mono (HB.out.trans (hal.mono HB.out.size)).size))
 clear hr hbn hal
 obtain ⟨rl,rc,rf⟩ := boxN HR.out
 have r0 := rc 0 _ rfl
 have r1 := rc 1 _ rfl
 have r2 := rc 2 _ rfl
 have u0 := rf 0
 have u1 := rf 1
 have u2 := rf 2
 simp only [Nat.zero_add] at r0 r1 r2
 clear rc rf
 go_wp2_with fail
 refine bodyPost_ret (v := .agg #[.slice pt 2 ct,.slice pl 1 cl,.int .i64 0]) (by simp [*,results,Tryz.results171,go_sem]) rfl ?_
 have hk := set3_kpt w2 g 0 1 2 (.slice pt 2 ct) (.slice pl 1 cl) (.int .i64 0)
 exact ⟨pt,ct,pl,cl,rfl,rd_ni Ht.out (fun b hb => ⟨by omega,by have := HG.out; omega⟩) hk,rd_ni Hl.out (fun b hb => ⟨by omega,by have := HG.out; omega⟩) hk,HB.out.trans (hk.below (fun x hx => by simp at hx; have := HG.out; omega) HB.out.size)⟩
theorem fixed_24 (o : Int) (h : o = 24) (w : World) : Calls Tryz.prog 171 #[.int .i64 o] w (ChgP ([(1,⟨#[]⟩),(1,⟨#[]⟩),(3,⟨#[]⟩)],[],0) w) := by
 subst h
 obtain ⟨wn,hwn⟩ : ∃ x,x = w.alloc (.cells #[.slice none 0 0,.slice none 0 0,.int .i64 0] 195) := ⟨_,rfl⟩
 have HB : Hid (Below w.heap.size w wn) := hid (by rw [hwn]; exact below_alR _ _)
 have HR : Hid (wn.heap[w.heap.size]? = some (.cells #[.slice none 0 0,.slice none 0 0,.int .i64 0] 195 (0,0))) := hid (by rw [hwn]; exact heap_alloc_new _ _)
 go_enter Tryz.func171,Tryz.ntmps171
 go_upto_region 1 with fail
 rw [<- hwn]
 clear hwn
 obtain ⟨g,hg⟩ : ∃ z,w.heap.size = z := ⟨_,rfl⟩
 rw [hg] at HR ⊢
 have HG : Hid (w.heap.size = g) := hid hg
 have HGL : Hid (g < wn.heap.size) := hid (Array.getElem?_eq_some_iff.1 HR.out).1
 clear hg
 go_wp2_with fail
 have hal := below_alR wn (.cells #[.int .i64 1,.int .i64 1,.int .i64 3] 3)
 refine (kinds_3 1 1 3 wn.heap.size _ (heap_alloc_new _ _)).mono ?_
 rintro e w1 ⟨pt,ct,rfl,hr,hbn⟩
 have Ht := hid (rd_gt hr (show g < _ from Nat.lt_of_lt_of_le HGL.out hal.size))
 replace HR := hid (blk_b (blk_b HR.out hal) hbn)
 replace HGL : Hid (g < w1.heap.size) := hid (Nat.lt_of_lt_of_le HGL.out (Nat.le_trans hal.size hbn.size))
 replace HB := hid ((HB.out.trans (hal.mono HB.out.size)).trans (hbn.mono (HB.out.trans (hal.mono HB.out.size)).size))
 clear hr hbn hal
 obtain ⟨rl,rc,rf⟩ := boxN HR.out
 have r0 := rc 0 _ rfl
 have r1 := rc 1 _ rfl
 have r2 := rc 2 _ rfl
 have u0 := rf 0
 have u1 := rf 1
 have u2 := rf 2
 simp only [Nat.zero_add] at r0 r1 r2
 clear rc rf
 go_wp2_with fail
 refine bodyPost_ret (v := .agg #[.slice pt 3 ct,.slice none 0 0,.int .i64 0]) (by simp [*,results,Tryz.results171,go_sem]) rfl ?_
 have hk := set3_kpt w1 g 0 1 2 (.slice pt 3 ct) (.slice none 0 0) (.int .i64 0)
 exact ⟨pt,ct,none,0,rfl,rd_ni Ht.out (fun b hb => ⟨by omega,by have := HG.out; omega⟩) hk,RdX.nil _ _ _ _,HB.out.trans (hk.below (fun x hx => by simp at hx; have := HG.out; omega) HB.out.size)⟩
theorem fixed_32 (o : Int) (h : o = 32) (w : World) : Calls Tryz.prog 171 #[.int .i64 o] w (ChgP ([(7,⟨#[]⟩),(7,⟨#[]⟩)],[(1,⟨#[]⟩)],0) w) := by
 subst h
 obtain ⟨wn,hwn⟩ : ∃ x,x = w.alloc (.cells #[.slice none 0 0,.slice none 0 0,.int .i64 0] 195) := ⟨_,rfl⟩
 have HB : Hid (Below w.heap.size w wn) := hid (by rw [hwn]; exact below_alR _ _)
 have HR : Hid (wn.heap[w.heap.size]? = some (.cells #[.slice none 0 0,.slice none 0 0,.int .i64 0] 195 (0,0))) := hid (by rw [hwn]; exact heap_alloc_new _ _)
 go_enter Tryz.func171,Tryz.ntmps171
 go_upto_region 1 with fail
 rw [<- hwn]
 clear hwn
 obtain ⟨g,hg⟩ : ∃ z,w.heap.size = z := ⟨_,rfl⟩
 rw [hg] at HR ⊢
 have HG : Hid (w.heap.size = g) := hid hg
 have HGL : Hid (g < wn.heap.size) := hid (Array.getElem?_eq_some_iff.1 HR.out).1
 clear hg
 go_wp2_with fail
 have hal := below_alR wn (.cells #[.int .i64 7,.int .i64 7] 3)
 refine (kinds_2 7 7 wn.heap.size _ (heap_alloc_new _ _)).mono ?_
 rintro e w1 ⟨pt,ct,rfl,hr,hbn⟩
 have Ht := hid (rd_gt hr (show g < _ from Nat.lt_of_lt_of_le HGL.out hal.size))
 replace HR := hid (blk_b (blk_b HR.out hal) hbn)
 replace HGL : Hid (g < w1.heap.size) := hid (Nat.lt_of_lt_of_le HGL.out (Nat.le_trans hal.size hbn.size))
 replace HB := hid ((HB.out.trans (hal.mono HB.out.size)).trans (hbn.mono (HB.out.trans (hal.mono HB.out.size)).size))
 clear hr hbn hal
 go_wp2_with fail
 have hal := below_alR w1 (.cells #[.int .i64 1] 3)
 refine (kinds_1 1 w1.heap.size _ (heap_alloc_new _ _)).mono ?_
 rintro e w2 ⟨pl,cl,rfl,hr,hbn⟩
 have Hl := hid (rd_gt hr (show g < _ from Nat.lt_of_lt_of_le HGL.out hal.size))
 replace HR := hid (blk_b (blk_b HR.out hal) hbn)
 replace Ht := hid (rd_kb (rd_kb Ht.out hal) hbn)
 replace HGL : Hid (g < w2.heap.size) := hid (Nat.lt_of_lt_of_le HGL.out (Nat.le_trans hal.size hbn.size))
 replace HB := hid ((HB.out.trans (hal.mono HB.out.size)).trans (hbn.mono (HB.out.trans (hal.mono HB.out.size)).size))
 clear hr hbn hal
 obtain ⟨rl,rc,rf⟩ := boxN HR.out
 have r0 := rc 0 _ rfl
 have r1 := rc 1 _ rfl
 have r2 := rc 2 _ rfl
 have u0 := rf 0
 have u1 := rf 1
 have u2 := rf 2
 simp only [Nat.zero_add] at r0 r1 r2
 clear rc rf
 go_wp2_with fail
 refine bodyPost_ret (v := .agg #[.slice pt 2 ct,.slice pl 1 cl,.int .i64 0]) (by simp [*,results,Tryz.results171,go_sem]) rfl ?_
 have hk := set3_kpt w2 g 0 1 2 (.slice pt 2 ct) (.slice pl 1 cl) (.int .i64 0)
 exact ⟨pt,ct,pl,cl,rfl,rd_ni Ht.out (fun b hb => ⟨by omega,by have := HG.out; omega⟩) hk,rd_ni Hl.out (fun b hb => ⟨by omega,by have := HG.out; omega⟩) hk,HB.out.trans (hk.below (fun x hx => by simp at hx; have := HG.out; omega) HB.out.size)⟩
theorem fixed_41 (o : Int) (h : o = 41) (w : World) : Calls Tryz.prog 171 #[.int .i64 o] w (ChgP ([(2,⟨#[]⟩)],[],0) w) := by
 subst h
 obtain ⟨wn,hwn⟩ : ∃ x,x = w.alloc (.cells #[.slice none 0 0,.slice none 0 0,.int .i64 0] 195) := ⟨_,rfl⟩
 have HB : Hid (Below w.heap.size w wn) := hid (by rw [hwn]; exact below_alR _ _)
 have HR : Hid (wn.heap[w.heap.size]? = some (.cells #[.slice none 0 0,.slice none 0 0,.int .i64 0] 195 (0,0))) := hid (by rw [hwn]; exact heap_alloc_new _ _)
 go_enter Tryz.func171,Tryz.ntmps171
 go_upto_region 1 with fail
 rw [<- hwn]
 clear hwn
 obtain ⟨g,hg⟩ : ∃ z,w.heap.size = z := ⟨_,rfl⟩
 rw [hg] at HR ⊢
 have HG : Hid (w.heap.size = g) := hid hg
 have HGL : Hid (g < wn.heap.size) := hid (Array.getElem?_eq_some_iff.1 HR.out).1
 clear hg
 go_wp2_with fail
 have hal := below_alR wn (.cells #[.int .i64 2] 3)
 refine (kinds_1 2 wn.heap.size _ (heap_alloc_new _ _)).mono ?_
 rintro e w1 ⟨pt,ct,rfl,hr,hbn⟩
 have Ht := hid (rd_gt hr (show g < _ from Nat.lt_of_lt_of_le HGL.out hal.size))
 replace HR := hid (blk_b (blk_b HR.out hal) hbn)
 replace HGL : Hid (g < w1.heap.size) := hid (Nat.lt_of_lt_of_le HGL.out (Nat.le_trans hal.size hbn.size))
 replace HB := hid ((HB.out.trans (hal.mono HB.out.size)).trans (hbn.mono (HB.out.trans (hal.mono HB.out.size)).size))
 clear hr hbn hal
 obtain ⟨rl,rc,rf⟩ := boxN HR.out
 have r0 := rc 0 _ rfl
 have r1 := rc 1 _ rfl
 have r2 := rc 2 _ rfl
 have u0 := rf 0
 have u1 := rf 1
 have u2 := rf 2
 simp only [Nat.zero_add] at r0 r1 r2
 clear rc rf
 go_wp2_with fail
 refine bodyPost_ret (v := .agg #[.slice pt 1 ct,.slice none 0 0,.int .i64 0]) (by simp [*,results,Tryz.results171,go_sem]) rfl ?_
 have hk := set3_kpt w1 g 0 1 2 (.slice pt 1 ct) (.slice none 0 0) (.int .i64 0)
 exact ⟨pt,ct,none,0,rfl,rd_ni Ht.out (fun b hb => ⟨by omega,by have := HG.out; omega⟩) hk,RdX.nil _ _ _ _,HB.out.trans (hk.below (fun x hx => by simp at hx; have := HG.out; omega) HB.out.size)⟩
theorem fixed_20 (o : Int) (h : o = 20 ∨ o = 43) (w : World) : Calls Tryz.prog 171 #[.int .i64 o] w (ChgP ([(1,⟨#[]⟩)],[],0) w) := by
 rcases h with rfl | rfl
 all_goals
  obtain ⟨wn,hwn⟩ : ∃ x,x = w.alloc (.cells #[.slice none 0 0,.slice none 0 0,.int .i64 0] 195) := ⟨_,rfl⟩
  have HB : Hid (Below w.heap.size w wn) := hid (by rw [hwn]; exact below_alR _ _)
  have HR : Hid (wn.heap[w.heap.size]? = some (.cells #[.slice none 0 0,.slice none 0 0,.int .i64 0] 195 (0,0))) := hid (by rw [hwn]; exact heap_alloc_new _ _)
  go_enter Tryz.func171,Tryz.ntmps171
  go_upto_region 1 with fail
  rw [<- hwn]
  clear hwn
  obtain ⟨g,hg⟩ : ∃ z,w.heap.size = z := ⟨_,rfl⟩
  rw [hg] at HR ⊢
  have HG : Hid (w.heap.size = g) := hid hg
  have HGL : Hid (g < wn.heap.size) := hid (Array.getElem?_eq_some_iff.1 HR.out).1
  clear hg
  go_wp2_with fail
  have hal := below_alR wn (.cells #[.int .i64 1] 3)
  refine (kinds_1 1 wn.heap.size _ (heap_alloc_new _ _)).mono ?_
  rintro e w1 ⟨pt,ct,rfl,hr,hbn⟩
  have Ht := hid (rd_gt hr (show g < _ from Nat.lt_of_lt_of_le HGL.out hal.size))
  replace HR := hid (blk_b (blk_b HR.out hal) hbn)
  replace HGL : Hid (g < w1.heap.size) := hid (Nat.lt_of_lt_of_le HGL.out (Nat.le_trans hal.size hbn.size))
  replace HB := hid ((HB.out.trans (hal.mono HB.out.size)).trans (hbn.mono (HB.out.trans (hal.mono HB.out.size)).size))
  clear hr hbn hal
  obtain ⟨rl,rc,rf⟩ := boxN HR.out
  have r0 := rc 0 _ rfl
  have r1 := rc 1 _ rfl
  have r2 := rc 2 _ rfl
  have u0 := rf 0
  have u1 := rf 1
  have u2 := rf 2
  simp only [Nat.zero_add] at r0 r1 r2
  clear rc rf
  go_wp2_with fail
  refine bodyPost_ret (v := .agg #[.slice pt 1 ct,.slice none 0 0,.int .i64 0]) (by simp [*,results,Tryz.results171,go_sem]) rfl ?_
  have hk := set3_kpt w1 g 0 1 2 (.slice pt 1 ct) (.slice none 0 0) (.int .i64 0)
  exact ⟨pt,ct,none,0,rfl,rd_ni Ht.out (fun b hb => ⟨by omega,by have := HG.out; omega⟩) hk,RdX.nil _ _ _ _,HB.out.trans (hk.below (fun x hx => by simp at hx; have := HG.out; omega) HB.out.size)⟩
theorem fixed_19 (w : World) : Calls Tryz.prog 171 #[.int .i64 19] w (ChgP ([],[],0) w) := by
 obtain ⟨wn,hwn⟩ : ∃ x,x = w.alloc (.cells #[.slice none 0 0,.slice none 0 0,.int .i64 0] 195) := ⟨_,rfl⟩
 have HB : Hid (Below w.heap.size w wn) := hid (by rw [hwn]; exact below_alR _ _)
 have HR : Hid (wn.heap[w.heap.size]? = some (.cells #[.slice none 0 0,.slice none 0 0,.int .i64 0] 195 (0,0))) := hid (by rw [hwn]; exact heap_alloc_new _ _)
 go_enter Tryz.func171,Tryz.ntmps171
 go_upto_region 1 with fail
 rw [<- hwn]
 clear hwn
 obtain ⟨g,hg⟩ : ∃ z,w.heap.size = z := ⟨_,rfl⟩
 rw [hg] at HR ⊢
 have HG : Hid (w.heap.size = g) := hid hg
 have HGL : Hid (g < wn.heap.size) := hid (Array.getElem?_eq_some_iff.1 HR.out).1
 clear hg
 obtain ⟨rl,rc,rf⟩ := boxN HR.out
 have r0 := rc 0 _ rfl
 have r1 := rc 1 _ rfl
 have r2 := rc 2 _ rfl
 have u0 := rf 0
 have u1 := rf 1
 have u2 := rf 2
 simp only [Nat.zero_add] at r0 r1 r2
 clear rc rf
 go_wp2_with fail
 refine bodyPost_ret (v := .agg #[.slice none 0 0,.slice none 0 0,.int .i64 0]) (by simp [*,results,Tryz.results171,go_sem]) rfl ?_
 have hk := set3_kpt wn g 0 1 2 (.slice none 0 0) (.slice none 0 0) (.int .i64 0)
 exact ⟨none,0,none,0,rfl,RdX.nil _ _ _ _,RdX.nil _ _ _ _,HB.out.trans (hk.below (fun x hx => by simp at hx; have := HG.out; omega) HB.out.size)⟩
def opsF : List Int := [1,42,2,3,5,6,33,8,9,10,11,12,14,15,13,16,17,18,21,22,23,24,32,41,20,43,19]
theorem fixed_f (o : Int) (h : o ∈ opsF) (w : World) : Calls Tryz.prog 171 #[.int .i64 o] w (ChgP (fixP o) w) := by
 simp only [opsF,List.mem_cons,List.not_mem_nil,or_false] at h
 rcases h with rfl | rfl | rfl | rfl | rfl | rfl | rfl | rfl | rfl | rfl | rfl | rfl | rfl | rfl | rfl | rfl | rfl | rfl | rfl | rfl | rfl | rfl | rfl | rfl | rfl | rfl | rfl
 ·exact fixed_1 1 (by decide) w
 ·exact fixed_1 42 (by decide) w
 ·exact fixed_2 2 rfl w
 ·exact fixed_3 3 rfl w
 ·exact fixed_5 5 (by decide) w
 ·exact fixed_5 6 (by decide) w
 ·exact fixed_5 33 (by decide) w
 ·exact fixed_8 8 (by decide) w
 ·exact fixed_8 9 (by decide) w
 ·exact fixed_8 10 (by decide) w
 ·exact fixed_8 11 (by decide) w
 ·exact fixed_8 12 (by decide) w
 ·exact fixed_8 14 (by decide) w
 ·exact fixed_8 15 (by decide) w
 ·exact fixed_13 13 rfl w
 ·exact fixed_16 16 rfl w
 ·exact fixed_17 17 rfl w
 ·exact fixed_18 18 rfl w
 ·exact fixed_21 21 rfl w
 ·exact fixed_22 22 rfl w
 ·exact fixed_23 23 rfl w
 ·exact fixed_24 24 rfl w
 ·exact fixed_32 32 rfl w
 ·exact fixed_41 41 rfl w
 ·exact fixed_20 20 (by decide) w
 ·exact fixed_20 43 (by decide) w
 ·exact fixed_19 w
end Go.Proofs.YtfpeakkbbfnhcaaGreat.R
namespace Go.Proofs.YtfpeakkbbfnhcaaGreat.R
open Go.RowKit Go.Proofs.YtfpeakkbbfnhcaaGreat.D Go.Proofs.YtfpeakkbbfnhcaaGreat.O Go.Proofs.YtfpeakkbbfnhcaaGreat.A
theorem w64 {n : Int} (h1 : -9223372036854775808 <= n) (h2 : n <= 9223372036854775807) : IntKind.i64.wrap n = n := by rw [IntKind.wrap_i64]; omega
def holdB (T : List Sk) (o : Int) (a b : Ty) : Bool := if o = 6 ∨ o = 7 then true else if o = 5 then decide (a.1 ≠ 7) else if o = 32 ∨ o = 33 then refB a else fitsT T a b
def heldB (T : List Sk) (o : Int) (S W : List Ty) : Bool := (S.reverse.zip W).all fun p => holdB T o p.1 p.2
theorem held_at {T : List Sk} {o : Int} {S W : List Ty} {i : Nat} {x y : Ty} (h : heldB T o S W = true) (hx : S.reverse[i]? = some x) (hy : W[i]? = some y) : holdB T o x y = true := by
 unfold heldB at h
 rw [List.all_eq_true] at h
 exact h (x,y) (List.mem_of_getElem? (i := i) (by rw [List.getElem?_zip_eq_some]; exact ⟨hx,hy⟩))
theorem held_all {T : List Sk} {o : Int} {S W : List Ty} (h : ∀ (i : Nat) x y,S.reverse[i]? = some x -> W[i]? = some y -> holdB T o x y = true) : heldB T o S W = true := by
 unfold heldB
 rw [List.all_eq_true]
 intro p hp
 obtain ⟨i,hi⟩ := List.mem_iff_getElem?.1 hp
 rw [List.getElem?_zip_eq_some] at hi
 exact h i p.1 p.2 hi.1 hi.2
theorem rev_at {S : List Ty} {i k : Nat} (h : S.length - 1 - i = k) (hi : i < S.length) : S.reverse[i]? = S[k]? := by rw [List.getElem?_reverse hi,h]
theorem holds_f (ok : Nat -> Prop) (vt : Value) (K : List Cls) (o : Int) (a b : Ty) (w : World) (h : TrN w ok vt K) (ha : a.2.size <= maxLen) (hb : b.2.size <= maxLen) :
  Calls Tryz.prog 172 #[vt,.int .i64 o,tyv a,tyv b] w fun e w' => e = .returned (.bool (holdB (K.map skOf) o a b)) /\ Below w.heap.size w w' := by
 obtain ⟨a1,a2⟩ := a
 obtain ⟨b1,b2⟩ := b
 have HF := hid (fun W (hW : TrN W ok vt K) => Fits_n ok vt K (a1,a2) (b1,b2) W hW ha hb)
 have HT := hid h
 clear h ha hb
 rw [tyv_pair,tyv_pair]
 dsimp only
 have HB := hid (jbl2 w (.cells #[.int .i64 a1,.string a2] 45) (.cells #[.int .i64 b1,.string b2] 45))
 by_cases h6 : o = 6
 ·subst h6
  go_enter Tryz.func172,Tryz.ntmps172
  go_wp2_with fail
  go_ret
  exact ⟨rfl,HB.out⟩
 by_cases h7 : o = 7
 ·subst h7
  go_enter Tryz.func172,Tryz.ntmps172
  go_wp2_with fail
  go_ret
  exact ⟨rfl,HB.out⟩
 by_cases h5 : o = 5
 ·subst h5
  cases hk : (a1 != 7) with
  | true =>
   have hk2 : decide (a1 ≠ 7) = true := by simpa using hk
   go_enter Tryz.func172,Tryz.ntmps172
   go_wp2_with fail
   go_ret
   exact ⟨by rw [show holdB (K.map skOf) 5 (a1,a2) (b1,b2) = _ from hk2]; rfl,HB.out⟩
  | false =>
   have hk2 : decide (a1 ≠ 7) = false := by simpa using hk
   go_enter Tryz.func172,Tryz.ntmps172
   go_wp2_with fail
   go_ret
   exact ⟨by rw [show holdB (K.map skOf) 5 (a1,a2) (b1,b2) = _ from hk2]; rfl,HB.out⟩
 by_cases h32 : o = 32
 ·subst h32
  have HV : Hid (holdB (K.map skOf) 32 (a1,a2) (b1,b2) = refB (a1,a2)) := hid rfl
  go_enter Tryz.func172,Tryz.ntmps172
  go_wp2_with fail
  refine (Refers_y (a1,a2) _).mono ?_
  rintro e w1 ⟨rfl,hbn⟩
  replace HB := hid (HB.out.trans (hbn.mono HB.out.size))
  clear hbn
  go_wp2_with fail
  go_ret
  exact ⟨by rw [HV.out]; rfl,HB.out⟩
 by_cases h33 : o = 33
 ·subst h33
  have HV : Hid (holdB (K.map skOf) 33 (a1,a2) (b1,b2) = refB (a1,a2)) := hid rfl
  go_enter Tryz.func172,Tryz.ntmps172
  go_wp2_with fail
  refine (Refers_y (a1,a2) _).mono ?_
  rintro e w1 ⟨rfl,hbn⟩
  replace HB := hid (HB.out.trans (hbn.mono HB.out.size))
  clear hbn
  go_wp2_with fail
  go_ret
  exact ⟨by rw [HV.out]; rfl,HB.out⟩
 have HV : Hid (holdB (K.map skOf) o (a1,a2) (b1,b2) = fitsT (K.map skOf) (a1,a2) (b1,b2)) := hid (by unfold holdB; rw [if_neg (by omega),if_neg h5,if_neg (by omega)])
 go_enter Tryz.func172,Tryz.ntmps172
 go_wp2_with fail
 refine (HF.out _ (HT.out.below HB.out)).mono ?_
 rintro e w1 ⟨rfl,hbn⟩
 replace HB := hid (HB.out.trans (hbn.mono HB.out.size))
 clear hbn
 go_wp2_with fail
 go_ret
 exact ⟨by rw [HV.out]; rfl,HB.out⟩
theorem held_f (ok : Nat -> Prop) (vt : Value) (K : List Cls) (o : Int) (pv pw : Option Addr) (cv cw : Nat) (S W : List Ty) (w : World) (h : TrN w ok vt K) (hs : RdX 2 (sP tyC) anyB w (.slice pv S.length cv) S) (hw : RdX 2 (sP tyC) anyB w (.slice pw W.length cw) W) (hzs : ∀ t ∈ S,t.2.size <= maxLen) (hzw : ∀ t ∈ W,t.2.size <= maxLen) (hl : W.length <= S.length) (hl2 : S.length <= 100000) :
  Calls Tryz.prog 142 #[vt,.int .i64 o,.slice pv S.length cv,.slice pw W.length cw] w fun e w' => e = .returned (.bool (heldB (K.map skOf) o S W)) /\ Below w.heap.size w w' := by
 have HT := hid h
 have HRS := hid hs
 have HRW := hid hw
 have HZS := hid hzs
 have HZW := hid hzw
 have HB : Hid (Below w.heap.size w w) := hid (Below.refl _ _)
 have HALL : Hid (∀ (j : Nat) x y,j < 0 -> S.reverse[j]? = some x -> W[j]? = some y -> holdB (K.map skOf) o x y = true) := hid (fun j x y hj => by omega)
 clear h hs hw hzs hzw
 go_enter Tryz.func142,Tryz.ntmps142
 go_wp2_with fail
 go_loopw [13] (fun v wr => ∃ i : Nat,v = .int .i64 (i : Int) /\ i <= W.length /\ Hid (∀ (j : Nat) x y,j < i -> S.reverse[j]? = some x -> W[j]? = some y -> holdB (K.map skOf) o x y = true) /\ Hid (Below w.heap.size w wr)) (fun x _ => W.length - (intOf x).toNat)
 case atStart => exact ⟨0,rfl,by omega,HALL,HB⟩
 case round =>
  clear HB HALL
  obtain ⟨i,rfl,hin,HALL,HB⟩ := hrel
  by_cases hlt : i < W.length
  ·have hlt' : (i : Int) < (W.length : Int) := by omega
   obtain ⟨k,hk⟩ : ∃ k,S.length - 1 - i = k := ⟨_,rfl⟩
   have hkl : k < S.length := by omega
   have hk1 : IntKind.i64.wrap (IntKind.i64.wrap ((S.length : Int) - 1) - (i : Int)) = (k : Int) := by rw [w64 (n := (S.length : Int) - 1) (by omega) (by omega),w64 (by omega) (by omega)]; omega
   have hk2 : (k : Int) < (S.length : Int) := by omega
   have hk3 : 0 <= (k : Int) := by omega
   have hk4 : (k : Int).toNat = k := by omega
   obtain ⟨x,hx⟩ : ∃ x,S[k]? = some x := ⟨_,List.getElem?_eq_getElem hkl⟩
   obtain ⟨y,hy⟩ : ∃ y,W[i]? = some y := ⟨_,List.getElem?_eq_getElem hlt⟩
   have HX : Hid (S.reverse[i]? = some x) := hid (by rw [rev_at hk (by omega),hx])
   have HY := hid hy
   have zx := hid (HZS.out x (List.mem_of_getElem? hx))
   have zy := hid (HZW.out y (List.mem_of_getElem? hy))
   obtain ⟨bs,os,rfl,-,-,-,hga,hca⟩ := (HRS.out.any (sP.grow _) HB.out).place (fun e => by rw [e] at hx; simp at hx)
   obtain ⟨bw,ow,rfl,-,-,-,hgc,hcc⟩ := (HRW.out.any (sP.grow _) HB.out).place (fun e => by rw [e] at hy; simp at hy)
   have HCA := hid (sP_at (hca k x hx))
   have HGA := hid hga
   obtain ⟨d0,d1⟩ := (sP_at (hcc i y hy)).two
   clear hga hgc hca hcc hx hy hk
   go_upto_region 4 with fail
   have hbn := below_alR wr (.cells #[.int .i64 y.1,.string y.2] 45)
   have HC := hid (heap_alloc_new wr (.cells #[.int .i64 y.1,.string y.2] 45))
   obtain ⟨wb,hwb⟩ : ∃ z,z = wr.alloc (.cells #[.int .i64 y.1,.string y.2] 45) := ⟨_,rfl⟩
   obtain ⟨g,hg⟩ : ∃ z,wr.heap.size = z := ⟨_,rfl⟩
   rw [<- hwb] at hbn HC ⊢
   replace HCA := hid (HCA.out.below hbn HGA.out)
   replace HGA := hid (Nat.lt_of_lt_of_le HGA.out hbn.size)
   replace HB := hid (HB.out.trans (hbn.mono HB.out.size))
   rw [hg] at HC ⊢
   clear hwb hg hbn d0 d1
   replace HB := hid HB.out.drew
   replace HCA : Hid (CellsAt wb.drew _ _ _) := hid HCA.out
   replace HGA : Hid (bs < wb.drew.heap.size) := hid HGA.out
   replace HC : Hid (wb.drew.heap[g]? = _) := hid HC.out
   refine wp_region_held_drew (S := fun W => (W.cell? ⟨bs,os + k * 2,none⟩ = some (.int .i64 x.1) /\ W.cell? ⟨bs,os + k * 2 + 1,none⟩ = some (.string x.2)) /\ (W.cell? ⟨g,0,none⟩ = some (.int .i64 y.1) /\ W.cell? ⟨g,1,none⟩ = some (.string y.2))) (by kernel_rfl) ⟨HCA.out.two,(c2_at HC.out).2⟩ (fun hh => ?_)
   refine tkA 0 _ hh ?_
   try go_frame
   refine tkA 1 _ hh ?_
   try go_frame
   refine tkA 2 _ hh ?_
   try go_frame
   refine tkA 3 _ hh ?_
   try go_frame
   refine tkA 4 _ hh ?_
   try go_frame
   refine tkA 5 _ hh ?_
   try go_frame
   refine tkA 6 _ hh ?_
   try go_frame
   refine tkA 7 _ hh ?_
   try go_frame
   refine tkA 8 _ hh ?_
   try go_frame
   refine tkB 9 _ hh ?_
   try go_frame
   refine tkB 10 _ hh ?_
   try go_frame
   refine rdH [11] ?_
   refine AllReadyH.cons (o := _) (by simp only [List.getElem?_toArray,List.getElem?_cons_succ,List.getElem?_cons_zero]; rfl) (fun KX hKX => ?_) AllReadyH.nil
   clear hh
   go_simp
   refine (holds_f ok vt K o x y _ (HT.out.below HB.out) zx.out zy.out).mono ?_
   rintro e wv ⟨rfl,hbn⟩
   replace HB := hid (HB.out.trans (hbn.mono HB.out.size))
   replace HCA := hid (HCA.out.below hbn HGA.out)
   replace HC := hid (blk_b HC.out hbn)
   clear hbn
   refine hKX.out _ _ ⟨HCA.out.two,(c2_at HC.out).2⟩ (fun hh => ?_)
   clear hKX KX
   try go_frame
   refine tkA 12 _ hh ?_
   try go_frame
   refine wpAnyH_done (by kernel_rfl) ?_ _
   clear hh
   cases hv : holdB (K.map skOf) o x y with
   | false =>
    have HVF : Hid (heldB (K.map skOf) o S W = false) := hid (by cases hV : heldB (K.map skOf) o S W with
     | false => rfl
     | true => rw [held_at hV HX.out HY.out] at hv; cases hv)
    go_wp2_with fail
    go_ret
    exact ⟨by rw [HVF.out]; rfl,HB.out⟩
   | true =>
    have HVT := hid hv
    clear hv
    go_wp2_with fail
    go_roundw
    case rel =>
     refine ⟨i + 1,by go_num,by omega,hid (fun j x' y' hj hx' hy' => ?_),HB⟩
     rcases (by omega : j < i ∨ j = i) with hj | rfl
     ·exact HALL.out j x' y' hj hx' hy'
     ·rw [HX.out] at hx'
      rw [HY.out] at hy'
      cases hx'
      cases hy'
      exact HVT.out
    case measure => simp [intOf]; omega
  ·obtain rfl : i = W.length := by omega
   have hlt' : ¬ (W.length : Int) < (W.length : Int) := by omega
   have HVT : Hid (heldB (K.map skOf) o S W = true) := hid (held_all (fun j x y hx hy => HALL.out j x y ((List.getElem?_eq_some_iff.1 hy).1) hx hy))
   go_wp2_with fail
   go_ret
   exact ⟨by rw [HVT.out]; rfl,HB.out⟩
end Go.Proofs.YtfpeakkbbfnhcaaGreat.R
