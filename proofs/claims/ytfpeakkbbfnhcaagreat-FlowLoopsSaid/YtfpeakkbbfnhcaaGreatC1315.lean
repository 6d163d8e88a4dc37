/- Texts that the proof is made of, joined. No condition. -/
import Derived.Test.YtfpeakkbbfnhcaaGreatC1314
import Derived.Deep.RegionLaw
import Derived.Deep.DeepCutAuto
import Derived.Deep.CutBlock
import Derived.Test.YtfpeakkbbfnhcaaGreatC13H
set_option linter.unusedVariables false
set_option linter.unusedSimpArgs false
set_option maxRecDepth 100000
set_option maxHeartbeats 16000000
namespace Go.Proofs.YtfpeakkbbfnhcaaGreat.R
open Go.RowKit Go.Proofs.YtfpeakkbbfnhcaaGreat.D Go.Proofs.YtfpeakkbbfnhcaaGreat.O Go.Proofs.YtfpeakkbbfnhcaaGreat.A
theorem blk_k {W W' : World} {g r : Nat} {o : Obj} (h : W.heap[g]? = some o) (hk : Kpt [r] W W') (hne : g ≠ r) : W'.heap[g]? = some o := (hk.2 g (Array.getElem?_eq_some_iff.1 h).1 (by simpa using hne)).trans h
theorem blk_kl {W W' : World} {g : Nat} {Sx : List Nat} {o : Obj} (h : W.heap[g]? = some o) (hk : Kpt Sx W W') (hne : g ∉ Sx) : W'.heap[g]? = some o := (hk.2 g (Array.getElem?_eq_some_iff.1 h).1 hne).trans h
theorem own_same (p : Option Addr) (n c n' c' : Nat) : (Value.slice p n c).ownBlock = (Value.slice p n' c').ownBlock := by cases p <;> rfl
theorem ci_at {W : World} {g : Nat} {o n k : Int} {s c m d : ByteArray} (h : W.heap[g]? = some (.cells #[.int .i64 o,.int .i32 n,.int .i64 k,.string s,.string c,.string m,.string d] 59 (0,0))) : W.cell? ⟨g,0,none⟩ = some (.int .i64 o) /\ W.cell? ⟨g,2,none⟩ = some (.int .i64 k) := ⟨by simp [World.cell?,h],by simp [World.cell?,h]⟩
theorem Step_g (ok : Nat -> Prop) (tb : Nat) (K : List Cls) (nm : ByteArray) (ret : Ty) (st ab : Bool) (loc : Int) (pp pc ph : Option Addr) (np cp nc cc nh ch : Nat) (vf : Value) (f : Fr) (o n k : Int) (s c m d : ByteArray) (C : Chg) (w : World) (h : TrN w ok (.pointer (some ⟨tb,0,none⟩)) K) (hf : RdF w vf f) (hz : SzF f)
  (hright : ∀ W,Calls Tryz.prog 139 #[.agg #[.int .i64 o,.int .i32 n,.int .i64 k,.string s,.string c,.string m,.string d]] W fun e w' => e = .returned (.bool true) /\ Below W.heap.size W w')
  (hfind : findB o k f.2.1.length = true) (hst : o = 5 -> 0 <= k /\ C.1.length = 1)
  (hch : ∀ pl ps cl cs W,TrN W ok (.pointer (some ⟨tb,0,none⟩)) K -> RdX 2 (sP tyC) anyB W (.slice pl f.2.1.length cl) f.2.1 -> RdX 2 (sP tyC) anyB W (.slice ps f.2.2.length cs) f.2.2 -> Calls Tryz.prog 141 #[.pointer (some ⟨tb,0,none⟩),.agg #[.string nm,.slice pp np cp,.int .i64 ret.1,.string ret.2,.bool st,.bool ab,.int .i64 loc,.slice pc nc cc,.slice ph nh ch],.agg #[.bool f.1,.slice pl f.2.1.length cl,.slice ps f.2.2.length cs],.agg #[.int .i64 o,.int .i32 n,.int .i64 k,.string s,.string c,.string m,.string d]] W (ChgP C W))
  (hC : (∀ t ∈ C.1,t.2.size <= maxLen) /\ C.1.length <= 1000 /\ C.2.1.length <= 1000) :
  Calls Tryz.prog 92 #[.pointer (some ⟨tb,0,none⟩),.agg #[.string nm,.slice pp np cp,.int .i64 ret.1,.string ret.2,.bool st,.bool ab,.int .i64 loc,.slice pc nc cc,.slice ph nh ch],vf,.agg #[.int .i64 o,.int .i32 n,.int .i64 k,.string s,.string c,.string m,.string d]] w fun e w' => ∃ vg,e = .returned (.tuple #[vg,.int .i64 (stepC (K.map skOf) f o k C).2]) /\ RdG w.heap.size w' vg (stepC (K.map skOf) f o k C).1 /\ Below w.heap.size w w' := by
 obtain ⟨pl,cl,ps,cs,rfl,h1,h2⟩ := hf
 obtain ⟨fr,L,S⟩ := f
 obtain ⟨r1,r2⟩ := ret
 obtain ⟨hzl,hzs,hl,hs⟩ := hz
 dsimp only at h1 h2 hzl hzs hl hs hfind hch ⊢
 obtain ⟨R,hR⟩ : ∃ R,stepC (K.map skOf) (fr,L,S) o k C = R := ⟨_,rfl⟩
 rw [hR]
 have HRE := hid hR
 have HCH := hid hch
 have HRI := hid hright
 have HFI := hid hfind
 have HZS := hid hzs
 have HZL := hid hzl
 have HC := hid hC
 have HST := hid hst
 clear hR hch hright hfind hzl hzs hC hst
 obtain ⟨wn,hwn⟩ : ∃ x,x = (((w.alloc (.cells #[.string nm,.slice pp np cp,.int .i64 r1,.string r2,.bool st,.bool ab,.int .i64 loc,.slice pc nc cc,.slice ph nh ch] 49)).alloc (.cells #[.bool fr,.slice pl L.length cl,.slice ps S.length cs] 61)).alloc (.cells #[.int .i64 o,.int .i32 n,.int .i64 k,.string s,.string c,.string m,.string d] 59)).alloc (.cells #[.bool false,.slice none 0 0,.slice none 0 0] 61) := ⟨_,rfl⟩
 have HB : Hid (Below w.heap.size w wn) := hid (by rw [hwn]; exact al4_b _ _ _ _ _)
 have HM : Hid (wn.heap[w.heap.size]? = some (.cells #[.string nm,.slice pp np cp,.int .i64 r1,.string r2,.bool st,.bool ab,.int .i64 loc,.slice pc nc cc,.slice ph nh ch] 49 (0,0))) := hid (by rw [hwn]; simp only [al_heap,Array.getElem?_push,Array.size_push]; repeat (first | rw [if_pos (by first | trivial | omega)] | rw [if_neg (by omega)]))
 have HF : Hid (wn.heap[w.heap.size + 1]? = some (.cells #[.bool fr,.slice pl L.length cl,.slice ps S.length cs] 61 (0,0))) := hid (by rw [hwn]; simp only [al_heap,Array.getElem?_push,Array.size_push]; repeat (first | rw [if_pos (by first | trivial | omega)] | rw [if_neg (by omega)]))
 have HI : Hid (wn.heap[w.heap.size + 2]? = some (.cells #[.int .i64 o,.int .i32 n,.int .i64 k,.string s,.string c,.string m,.string d] 59 (0,0))) := hid (by rw [hwn]; simp only [al_heap,Array.getElem?_push,Array.size_push]; repeat (first | rw [if_pos (by first | trivial | omega)] | rw [if_neg (by omega)]))
 have HR : Hid (wn.heap[w.heap.size + 3]? = some (.cells #[.bool false,.slice none 0 0,.slice none 0 0] 61 (0,0))) := hid (by rw [hwn]; simp only [al_heap,Array.getElem?_push,Array.size_push]; repeat (first | rw [if_pos (by first | trivial | omega)] | rw [if_neg (by omega)]))
 have HGS : Hid (w.heap.size + 4 = wn.heap.size) := hid (by rw [hwn]; simp)
 have H1 := hid (rd_kb (rd_own h1) HB.out)
 have H2 := hid (rd_kb (rd_own h2) HB.out)
 have HT := hid (h.below HB.out)
 clear h1 h2 h
 go_enter Tryz.func92,Tryz.ntmps92
 go_upto_region 1 with fail
 rw [<- hwn]
 clear hwn
 obtain ⟨g,hg⟩ : ∃ z,w.heap.size = z := ⟨_,rfl⟩
 rw [hg] at HM HF HI HR HGS ⊢
 have HG : Hid (w.heap.size = g) := hid hg
 clear hg
 have HGR : Hid (g + 3 < wn.heap.size) := hid (by have := HGS.out; omega)
 clear HGS
 cases fr with
 | false =>
  have HRV : Hid (stepC (K.map skOf) (false,L,S) o k C = (noFr,28)) := hid rfl
  obtain ⟨yl,yc,yf⟩ := boxN HF.out
  have y0 := yc 0 _ rfl
  have y1 := yc 1 _ rfl
  have y2 := yc 2 _ rfl
  simp only [Nat.zero_add] at y0 y1 y2
  clear yc yf
  obtain ⟨rl,rc,rf⟩ := boxN HR.out
  have r0 := rc 0 _ rfl
  have r1 := rc 1 _ rfl
  have r2 := rc 2 _ rfl
  have ru0 := rf 0
  have ru1 := rf 1
  have ru2 := rf 2
  simp only [Nat.zero_add] at r0 r1 r2
  clear rc rf
  go_wp2_with fail
  refine bodyPost_ret (v := .tuple #[.agg #[.bool false,.slice none 0 0,.slice none 0 0],.int .i64 28]) (by simp [*,results,Tryz.results92,go_sem]) rfl ?_
  have hk := set3_kpt wn (g + 3) 0 1 2 (.bool false) (.slice none 0 0) (.slice none 0 0)
  obtain rfl : R = (noFr,28) := HRE.out.symm.trans HRV.out
  exact ⟨_,rfl,⟨none,0,none,0,rfl,RdX.nil _ _ _ _,RdX.nil _ _ _ _⟩,HB.out.trans (hk.below (fun x hx => by simp at hx; have := HG.out; omega) HB.out.size)⟩
 | true =>
  obtain ⟨yl,yc,yf⟩ := boxN HF.out
  have y0 := yc 0 _ rfl
  have y1 := yc 1 _ rfl
  have y2 := yc 2 _ rfl
  simp only [Nat.zero_add] at y0 y1 y2
  clear yc yf
  obtain ⟨ql,qc,qf⟩ := boxN HI.out
  have q0 := qc 0 _ rfl
  have q1 := qc 1 _ rfl
  have q2 := qc 2 _ rfl
  have q3 := qc 3 _ rfl
  have q4 := qc 4 _ rfl
  have q5 := qc 5 _ rfl
  have q6 := qc 6 _ rfl
  simp only [Nat.zero_add] at q0 q1 q2 q3 q4 q5 q6
  clear qc qf
  go_wp2_with fail
  refine (HRI.out _).mono ?_
  rintro e w1 ⟨rfl,hbn⟩
  clear yl y0 y1 y2
  clear ql q0 q1 q2 q3 q4 q5 q6
  replace HM := hid (blk_b HM.out hbn)
  replace HF := hid (blk_b HF.out hbn)
  replace HI := hid (blk_b HI.out hbn)
  replace HR := hid (blk_b HR.out hbn)
  replace H1 := hid (rd_kb H1.out hbn)
  replace H2 := hid (rd_kb H2.out hbn)
  replace HT := hid (HT.out.below hbn)
  replace HGR := hid (Nat.lt_of_lt_of_le HGR.out hbn.size)
  replace HB := hid (HB.out.trans (hbn.mono HB.out.size))
  clear hbn HRI
  obtain ⟨yl,yc,yf⟩ := boxN HF.out
  have y0 := yc 0 _ rfl
  have y1 := yc 1 _ rfl
  have y2 := yc 2 _ rfl
  simp only [Nat.zero_add] at y0 y1 y2
  clear yc yf
  obtain ⟨ql,qc,qf⟩ := boxN HI.out
  have q0 := qc 0 _ rfl
  have q1 := qc 1 _ rfl
  have q2 := qc 2 _ rfl
  have q3 := qc 3 _ rfl
  have q4 := qc 4 _ rfl
  have q5 := qc 5 _ rfl
  have q6 := qc 6 _ rfl
  simp only [Nat.zero_add] at q0 q1 q2 q3 q4 q5 q6
  clear qc qf
  go_wp2_with fail
  refine (finds_f (true,L,S) pl ps cl cs o n k s c m d _).mono ?_
  rw [HFI.out]
  rintro e w2 ⟨rfl,hbn⟩
  clear yl y0 y1 y2
  clear ql q0 q1 q2 q3 q4 q5 q6
  replace HM := hid (blk_b HM.out hbn)
  replace HF := hid (blk_b HF.out hbn)
  replace HI := hid (blk_b HI.out hbn)
  replace HR := hid (blk_b HR.out hbn)
  replace H1 := hid (rd_kb H1.out hbn)
  replace H2 := hid (rd_kb H2.out hbn)
  replace HT := hid (HT.out.below hbn)
  replace HGR := hid (Nat.lt_of_lt_of_le HGR.out hbn.size)
  replace HB := hid (HB.out.trans (hbn.mono HB.out.size))
  clear hbn
  go_upto_region 5 with fail
  obtain ⟨yl,yc,yf⟩ := boxN HF.out
  have y0 := yc 0 _ rfl
  have y1 := yc 1 _ rfl
  have y2 := yc 2 _ rfl
  simp only [Nat.zero_add] at y0 y1 y2
  clear yc yf
  obtain ⟨ql,qc,qf⟩ := boxN HI.out
  have q0 := qc 0 _ rfl
  have q1 := qc 1 _ rfl
  have q2 := qc 2 _ rfl
  have q3 := qc 3 _ rfl
  have q4 := qc 4 _ rfl
  have q5 := qc 5 _ rfl
  have q6 := qc 6 _ rfl
  simp only [Nat.zero_add] at q0 q1 q2 q3 q4 q5 q6
  clear qc qf
  obtain ⟨zl,zc,zf⟩ := boxN HM.out
  have z0 := zc 0 _ rfl
  have z1 := zc 1 _ rfl
  have z2 := zc 2 _ rfl
  have z3 := zc 3 _ rfl
  have z4 := zc 4 _ rfl
  have z5 := zc 5 _ rfl
  have z6 := zc 6 _ rfl
  have z7 := zc 7 _ rfl
  have z8 := zc 8 _ rfl
  simp only [Nat.zero_add] at z0 z1 z2 z3 z4 z5 z6 z7 z8
  clear zc zf
  go_wp2_with fail
  clear yl y0 y1 y2
  clear ql q0 q1 q2 q3 q4 q5 q6
  clear zl z0 z1 z2 z3 z4 z5 z6 z7 z8
  refine (HCH.out pl ps cl cs _ HT.out (rd_any H1.out) (rd_any H2.out)).mono ?_
  rintro e w3 ⟨pt,ct,pz,cz,rfl,ha,hlv,hbn⟩
  have HA := hid (rd_any ha)
  have HL := hid (rd_own (rd_any hlv))
  replace HF := hid (blk_b HF.out hbn)
  replace HI := hid (blk_b HI.out hbn)
  replace HR := hid (blk_b HR.out hbn)
  replace H1 := hid (rd_kb H1.out hbn)
  replace H2 := hid (rd_kb H2.out hbn)
  replace HT := hid (HT.out.below hbn)
  replace HGR := hid (Nat.lt_of_lt_of_le HGR.out hbn.size)
  replace HB := hid (HB.out.trans (hbn.mono HB.out.size))
  clear ha hlv hbn HCH HM
  go_upto_region 6 with fail
  have hbn := below_alR w3 (.cells #[.slice pt C.1.length ct,.slice pz C.2.1.length cz,.int .i64 C.2.2] 195)
  have HX := hid (heap_alloc_new w3 (.cells #[.slice pt C.1.length ct,.slice pz C.2.1.length cz,.int .i64 C.2.2] 195))
  obtain ⟨w4,hw4⟩ : ∃ z,z = w3.alloc (.cells #[.slice pt C.1.length ct,.slice pz C.2.1.length cz,.int .i64 C.2.2] 195) := ⟨_,rfl⟩
  obtain ⟨gx,hgx⟩ : ∃ z,w3.heap.size = z := ⟨_,rfl⟩
  replace HF := hid (blk_b HF.out hbn)
  replace HI := hid (blk_b HI.out hbn)
  replace HR := hid (blk_b HR.out hbn)
  replace H1 := hid (rd_kb H1.out hbn)
  replace H2 := hid (rd_kb H2.out hbn)
  replace HA := hid (rd_kb HA.out hbn)
  replace HL := hid (rd_kb HL.out hbn)
  replace HT := hid (HT.out.below hbn)
  replace HB := hid (HB.out.trans (hbn.mono HB.out.size))
  have HGX : Hid (g + 3 < gx) := hid (by have := HGR.out; omega)
  replace HGR := hid (Nat.lt_of_lt_of_le HGR.out hbn.size)
  rw [<- hw4] at HF HI HR H1 H2 HA HL HT HB HX HGR ⊢
  rw [hgx] at HX HL ⊢
  clear hbn hw4 hgx
  have hw_ : IntKind.i64.wrap ((S.length : Int) - (C.1.length : Int)) = (S.length : Int) - (C.1.length : Int) := w64 (by have := HC.out; omega) (by have := HC.out; omega)
  rcases Nat.lt_or_ge S.length C.1.length with hlt | hge
  ·have hlt1 : (S.length : Int) - (C.1.length : Int) < 0 := by omega
   have HRV : Hid (stepC (K.map skOf) (true,L,S) o k C = (noFr,30)) := hid (by unfold stepC; rw [if_neg (by simp),if_pos hlt])
   obtain ⟨yl,yc,yf⟩ := boxN HF.out
   have y0 := yc 0 _ rfl
   have y1 := yc 1 _ rfl
   have y2 := yc 2 _ rfl
   simp only [Nat.zero_add] at y0 y1 y2
   clear yc yf
   obtain ⟨xl,xc,xf⟩ := boxN HX.out
   have x0 := xc 0 _ rfl
   have x1 := xc 1 _ rfl
   have x2 := xc 2 _ rfl
   simp only [Nat.zero_add] at x0 x1 x2
   clear xc xf
   obtain ⟨rl,rc,rf⟩ := boxN HR.out
   have r0 := rc 0 _ rfl
   have r1 := rc 1 _ rfl
   have r2 := rc 2 _ rfl
   have ru0 := rf 0
   have ru1 := rf 1
   have ru2 := rf 2
   simp only [Nat.zero_add] at r0 r1 r2
   clear rc rf
   go_wp2_with fail
   refine bodyPost_ret (v := .tuple #[.agg #[.bool false,.slice none 0 0,.slice none 0 0],.int .i64 30]) (by simp [*,results,Tryz.results92,go_sem]) rfl ?_
   have hk := set3_kpt w4 (g + 3) 0 1 2 (.bool false) (.slice none 0 0) (.slice none 0 0)
   obtain rfl : R = (noFr,30) := HRE.out.symm.trans HRV.out
   exact ⟨_,rfl,⟨none,0,none,0,rfl,RdX.nil _ _ _ _,RdX.nil _ _ _ _⟩,HB.out.trans (hk.below (fun x hx => by simp at hx; have := HG.out; omega) HB.out.size)⟩
  ·obtain ⟨sy,hsy⟩ : ∃ z,S.length - C.1.length = z := ⟨_,rfl⟩
   have hsyl : sy <= S.length := by omega
   have hst1 : (S.length : Int) - (C.1.length : Int) = (sy : Int) := by omega
   rw [hst1] at hw_
   have hst2 : ¬ (sy : Int) < 0 := by omega
   have hst3 : sy + C.1.length = S.length := by omega
   by_cases hx : C.2.2 = 0
   ·have hxb : (C.2.2 != 0) = false := by simpa using hx
    obtain ⟨yl,yc,yf⟩ := boxN HF.out
    have y0 := yc 0 _ rfl
    have y1 := yc 1 _ rfl
    have y2 := yc 2 _ rfl
    simp only [Nat.zero_add] at y0 y1 y2
    clear yc yf
    obtain ⟨xl,xc,xf⟩ := boxN HX.out
    have x0 := xc 0 _ rfl
    have x1 := xc 1 _ rfl
    have x2 := xc 2 _ rfl
    simp only [Nat.zero_add] at x0 x1 x2
    clear xc xf
    go_upto_region 11 with fail
    clear yl y0 y1 y2
    clear xl x0 x1 x2
    replace HF : Hid (w4.drew.heap[_]? = _) := hid HF.out
    replace HI : Hid (w4.drew.heap[_]? = _) := hid HI.out
    replace HR : Hid (w4.drew.heap[_]? = _) := hid HR.out
    replace HX : Hid (w4.drew.heap[_]? = _) := hid HX.out
    replace H1 : Hid (RdX 2 (sP tyC) _ w4.drew _ _) := hid H1.out
    replace H2 : Hid (RdX 2 (sP tyC) _ w4.drew _ _) := hid H2.out
    replace HA : Hid (RdX 2 (sP tyC) _ w4.drew _ _) := hid HA.out
    replace HL : Hid (RdX 2 (sP tyC) _ w4.drew _ _) := hid HL.out
    replace HT : Hid (TrN w4.drew _ _ _) := hid HT.out
    replace HGR : Hid (_ < w4.drew.heap.size) := hid HGR.out
    replace HB : Hid (Below w.heap.size w w4.drew) := hid HB.out.drew
    refine wp_region_held_drew (S := fun W => (W.cell? ⟨g + 1,0,none⟩ = some (.bool true) /\ W.cell? ⟨g + 1,1,none⟩ = some (.slice pl L.length cl) /\ W.cell? ⟨g + 1,2,none⟩ = some (.slice ps S.length cs)) /\ (W.cell? ⟨gx,0,none⟩ = some (.slice pt C.1.length ct) /\ W.cell? ⟨gx,1,none⟩ = some (.slice pz C.2.1.length cz) /\ W.cell? ⟨gx,2,none⟩ = some (.int .i64 C.2.2)) /\ (W.cell? ⟨g + 2,0,none⟩ = some (.int .i64 o) /\ W.cell? ⟨g + 2,2,none⟩ = some (.int .i64 k))) (by kernel_rfl) ⟨(c3_at HF.out).2,(c3_at HX.out).2,ci_at HI.out⟩ (fun hh => ?_)
    refine tkA 0 _ hh ?_
    try go_frame
    refine tkA 1 _ hh ?_
    try go_frame
    refine tkB 2 _ hh ?_
    try go_frame
    refine tkA 3 _ hh ?_
    try go_frame
    refine tkB 4 _ hh ?_
    try go_frame
    refine tkA 5 _ hh ?_
    try go_frame
    refine tkA 6 _ hh ?_
    try go_frame
    refine tkA 7 _ hh ?_
    try go_frame
    refine tkB 8 _ hh ?_
    try go_frame
    refine rdH [9] ?_
    refine AllReadyH.cons (o := _) (by simp only [List.getElem?_toArray,List.getElem?_cons_succ,List.getElem?_cons_zero]; rfl) (fun KX hKX => ?_) AllReadyH.nil
    clear hh
    go_simp
    obtain ⟨pq,hpq⟩ : ∃ z,(if cs = sy then ps else Option.map (fun x => x.add (sy * 2)) ps) = z := ⟨_,rfl⟩
    have hq := rd_any (RdX.backI H2.out hsyl)
    rw [hpq] at hq ⊢
    rw [show S.length - sy = (S.drop sy).length by rw [List.length_drop]]
    refine (held_f ok _ K o pq pt (cs - sy) ct (S.drop sy) C.1 _ HT.out hq HA.out (fun t ht => HZS.out t (List.mem_of_mem_drop ht)) HC.out.1 (by rw [List.length_drop]; omega) (by rw [List.length_drop]; omega)).mono ?_
    rintro e w5 ⟨rfl,hbn⟩
    clear hq hpq
    replace HF := hid (blk_b HF.out hbn)
    replace HI := hid (blk_b HI.out hbn)
    replace HR := hid (blk_b HR.out hbn)
    replace HX := hid (blk_b HX.out hbn)
    replace H1 := hid (rd_kb H1.out hbn)
    replace H2 := hid (rd_kb H2.out hbn)
    replace HA := hid (rd_kb HA.out hbn)
    replace HL := hid (rd_kb HL.out hbn)
    replace HT := hid (HT.out.below hbn)
    replace HGR := hid (Nat.lt_of_lt_of_le HGR.out hbn.size)
    replace HB := hid (HB.out.trans (hbn.mono HB.out.size))
    clear hbn
    refine hKX.out _ _ ⟨(c3_at HF.out).2,(c3_at HX.out).2,ci_at HI.out⟩ (fun hh => ?_)
    clear hKX KX
    try go_frame
    refine tkA 10 _ hh ?_
    try go_frame
    refine tkA 11 _ hh ?_
    try go_frame
    refine wpAnyH_done (by kernel_rfl) ?_ _
    clear hh
    cases hv : heldB (K.map skOf) o (S.drop sy) C.1 with
    | false =>
     have HRV : Hid (stepC (K.map skOf) (true,L,S) o k C = (noFr,29)) := hid (by unfold stepC; rw [if_neg (by simp),if_neg (by dsimp only; omega),if_neg (by simpa using hx)]; dsimp only; rw [hsy,if_pos hv])
     obtain ⟨rl,rc,rf⟩ := boxN HR.out
     have r0 := rc 0 _ rfl
     have r1 := rc 1 _ rfl
     have r2 := rc 2 _ rfl
     have ru0 := rf 0
     have ru1 := rf 1
     have ru2 := rf 2
     simp only [Nat.zero_add] at r0 r1 r2
     clear rc rf
     go_wp2_with fail
     refine bodyPost_ret (v := .tuple #[.agg #[.bool false,.slice none 0 0,.slice none 0 0],.int .i64 29]) (by simp [*,results,Tryz.results92,go_sem]) rfl ?_
     have hk := set3_kpt w5 (g + 3) 0 1 2 (.bool false) (.slice none 0 0) (.slice none 0 0)
     obtain rfl : R = (noFr,29) := HRE.out.symm.trans HRV.out
     exact ⟨_,rfl,⟨none,0,none,0,rfl,RdX.nil _ _ _ _,RdX.nil _ _ _ _⟩,HB.out.trans (hk.below (fun x hx => by simp at hx; have := HG.out; omega) HB.out.size)⟩
    | true =>
     have HVH := hid hv
     clear hv HA HT
     have hln := HC.out.2.2
     by_cases h100 : 100 < sy + C.2.1.length
     ·have h100' : (100 : Int) < (sy : Int) + (C.2.1.length : Int) := by omega
      have HRV : Hid (stepC (K.map skOf) (true,L,S) o k C = (noFr,30)) := hid (by unfold stepC; rw [if_neg (by simp),if_neg (by dsimp only; omega),if_neg (by simpa using hx)]; dsimp only; rw [hsy,if_neg (by rw [HVH.out]; simp),if_pos h100])
      obtain ⟨xl,xc,xf⟩ := boxN HX.out
      have x0 := xc 0 _ rfl
      have x1 := xc 1 _ rfl
      have x2 := xc 2 _ rfl
      simp only [Nat.zero_add] at x0 x1 x2
      clear xc xf
      obtain ⟨rl,rc,rf⟩ := boxN HR.out
      have r0 := rc 0 _ rfl
      have r1 := rc 1 _ rfl
      have r2 := rc 2 _ rfl
      have ru0 := rf 0
      have ru1 := rf 1
      have ru2 := rf 2
      simp only [Nat.zero_add] at r0 r1 r2
      clear rc rf
      go_wp2_with fail
      refine bodyPost_ret (v := .tuple #[.agg #[.bool false,.slice none 0 0,.slice none 0 0],.int .i64 30]) (by simp [*,results,Tryz.results92,go_sem]) rfl ?_
      have hk := set3_kpt w5 (g + 3) 0 1 2 (.bool false) (.slice none 0 0) (.slice none 0 0)
      obtain rfl : R = (noFr,30) := HRE.out.symm.trans HRV.out
      exact ⟨_,rfl,⟨none,0,none,0,rfl,RdX.nil _ _ _ _,RdX.nil _ _ _ _⟩,HB.out.trans (hk.below (fun x hx => by simp at hx; have := HG.out; omega) HB.out.size)⟩
     ·have h100' : ¬ (100 : Int) < (sy : Int) + (C.2.1.length : Int) := by omega
      have HRV : Hid (stepC (K.map skOf) (true,L,S) o k C = ((true,(if o = 5 then L.set k.toNat (lastT S) else L),S.take sy ++ C.2.1),0)) := hid (by unfold stepC; rw [if_neg (by simp),if_neg (by dsimp only; omega),if_neg (by simpa using hx)]; dsimp only; rw [hsy,if_neg (by rw [HVH.out]; simp),if_neg h100])
      obtain ⟨xl,xc,xf⟩ := boxN HX.out
      have x0 := xc 0 _ rfl
      have x1 := xc 1 _ rfl
      have x2 := xc 2 _ rfl
      simp only [Nat.zero_add] at x0 x1 x2
      clear xc xf
      obtain ⟨yl,yc,yf⟩ := boxN HF.out
      have y0 := yc 0 _ rfl
      have y1 := yc 1 _ rfl
      have y2 := yc 2 _ rfl
      simp only [Nat.zero_add] at y0 y1 y2
      clear yc yf
      go_wp2_with fail
      clear xl x0 x1 x2
      clear yl y0 y1 y2
      refine (copyFrame_f _ (true,L,S) _ ⟨pl,cl,ps,cs,rfl,rd_any H1.out,rd_any H2.out⟩ ⟨HZL.out,HZS.out,hl,hs⟩).mono ?_
      rintro e w6 ⟨vg,rfl,⟨qa,ca,qb,cb,rfl,hoa,hob,hdj⟩,hbn⟩
      dsimp only at hoa hob hdj
      have HDJ := hid hdj
      have HOA := hid hoa
      have HOB := hid hob
      have HGXB : Hid (gx < w5.heap.size) := hid (Array.getElem?_eq_some_iff.1 HX.out).1
      replace HF := hid (blk_b HF.out hbn)
      replace HI := hid (blk_b HI.out hbn)
      replace HR := hid (blk_b HR.out hbn)
      replace HX := hid (blk_b HX.out hbn)
      replace H2 := hid (rd_kb H2.out hbn)
      replace HL := hid (rd_kb HL.out hbn)
      replace HGR := hid (Nat.lt_of_lt_of_le HGR.out hbn.size)
      replace HB := hid (HB.out.trans (hbn.mono HB.out.size))
      have HB56 := hid hbn.size
      clear hbn hdj hoa hob H1 HGR
      go_upto_region 16 with fail
      have hbn := below_alR w6 (.cells #[.bool true,.slice qa L.length ca,.slice qb S.length cb] 61)
      have HO := hid (heap_alloc_new w6 (.cells #[.bool true,.slice qa L.length ca,.slice qb S.length cb] 61))
      obtain ⟨w7,hw7⟩ : ∃ z,z = w6.alloc (.cells #[.bool true,.slice qa L.length ca,.slice qb S.length cb] 61) := ⟨_,rfl⟩
      replace HF := hid (blk_b HF.out hbn)
      replace HI := hid (blk_b HI.out hbn)
      replace HR := hid (blk_b HR.out hbn)
      replace HX := hid (blk_b HX.out hbn)
      replace H2 := hid (rd_kb H2.out hbn)
      replace HL := hid (rd_kb HL.out hbn)
      replace HB := hid (HB.out.trans (hbn.mono HB.out.size))
      obtain ⟨B5,hB5⟩ : ∃ z,w5.heap.size = z := ⟨_,rfl⟩
      rw [hB5] at HOA HOB HGXB
      have HWB : Hid (w.heap.size <= B5) := hid (by have := HGXB.out; have := HGX.out; have := HG.out; omega)
      obtain ⟨go,hgo⟩ : ∃ z,w6.heap.size = z := ⟨_,rfl⟩
      have HBG : Hid (B5 <= go /\ ∀ b,(Value.slice qb S.length cb).ownBlock = some b -> B5 <= b /\ b < go) := hid ⟨by have := HB56.out; omega,fun b e => by have := HOB.out.lt b e; omega⟩
      have HAG : Hid (∀ b,(Value.slice qa L.length ca).ownBlock = some b -> B5 <= b /\ b < go) := hid (fun b e => by have := HOA.out.lt b e; omega)
      replace HOA := hid (HOA.out.kptS (.of_below hbn : Kpt [] _ _) (fun _ _ => by simp))
      replace HOB := hid (HOB.out.kptS (.of_below hbn : Kpt [] _ _) (fun _ _ => by simp))
      rw [<- hw7] at HF HI HR HX H2 HL HB HO HOA HOB ⊢
      rw [hgo] at HO ⊢
      clear hbn hw7 hgo hB5 HB56
      obtain ⟨Z,hZ⟩ : ∃ z,S.take sy ++ C.2.1 = z := ⟨_,rfl⟩
      have HZE := hid hZ
      clear hZ
      obtain ⟨ql,qc,qf⟩ := boxN HI.out
      have q0 := qc 0 _ rfl
      have q1 := qc 1 _ rfl
      have q2 := qc 2 _ rfl
      have q3 := qc 3 _ rfl
      have q4 := qc 4 _ rfl
      have q5 := qc 5 _ rfl
      have q6 := qc 6 _ rfl
      simp only [Nat.zero_add] at q0 q1 q2 q3 q4 q5 q6
      clear qc qf
      by_cases h5 : o = 5
      ·obtain ⟨hk0,hc1⟩ := HST.out h5
       have hfi := HFI.out
       unfold findB at hfi
       rw [if_pos (.inr h5)] at hfi
       have hfi2 := of_decide_eq_true hfi
       obtain ⟨kn,rfl⟩ : ∃ z : Nat,k = (z : Int) := ⟨k.toNat,by omega⟩
       have hkl : kn < L.length := by omega
       have hsl : sy < S.length := by omega
       obtain ⟨x,hx5⟩ : ∃ x,S[sy]? = some x := ⟨_,List.getElem?_eq_getElem hsl⟩
       obtain ⟨y,hy5⟩ : ∃ y,L[kn]? = some y := ⟨_,List.getElem?_eq_getElem hkl⟩
       have HY := hid hy5
       have HR5 : Hid ((if o = 5 then L.set (kn : Int).toNat (lastT S) else L) = L.set kn x) := hid (by rw [if_pos h5,last_at (by omega) hx5,show (kn : Int).toNat = kn by omega])
       obtain ⟨bs,os,rfl,-,-,hbs,hga,hca⟩ := H2.out.place (fun e => by rw [e] at hx5; simp at hx5)
       have HCA := hid (sP_at (hca sy x hx5))
       have HGA := hid hga
       obtain ⟨ga,cap5,e5,hle5,hgB,hgl⟩ := HOA.out.row (by omega)
       simp only [Value.slice.injEq] at e5
       obtain ⟨rfl,-,rfl⟩ := e5
       have HGO : Hid (B5 <= ga /\ ga < go) := hid (HAG.out ga rfl)
       have HN1 : Hid (go ≠ ga /\ g + 2 ≠ ga /\ g + 1 ≠ ga /\ bs ≠ ga /\ g + 3 ≠ ga /\ gx ≠ ga) := hid (by have := HGO.out; have := HGX.out; have := HGXB.out; have := HG.out; omega)
       have hkn0 : 0 <= (kn : Int) := by omega
       have hkn1 : (kn : Int) < (L.length : Int) := by omega
       have hkn2 : (kn : Int).toNat = kn := by omega
       have hsn1 : (sy : Int) < (S.length : Int) := by omega
       have hsn0 : 0 <= (sy : Int) := by omega
       have hsn2 : (sy : Int).toNat = sy := by omega
       clear hfi hfi2 hk0 hx5 hy5 hbs hga hca hle5 hgB hgl
       go_upto_region 17 with fail
       clear ql q0 q1 q2 q3 q4 q5 q6
       refine wp_region_held_drew (S := fun W => W.cell? ⟨go,1,none⟩ = some (.slice (some ⟨ga,0,none⟩) L.length ca) /\ W.cell? ⟨g + 2,2,none⟩ = some (.int .i64 (kn : Int)) /\ W.cell? ⟨g + 1,2,none⟩ = some (.slice (some ⟨bs,os,none⟩) S.length cs) /\ W.cell? ⟨bs,os + sy * 2,none⟩ = some (.int .i64 x.1) /\ W.cell? ⟨bs,os + sy * 2 + 1,none⟩ = some (.string x.2)) (by kernel_rfl) (by first | exact ⟨(c3_at HO.out).2.2.1,(ci_at HI.out).2,(c3_at HF.out).2.2.2,HCA.out.two⟩ | exact ⟨(c3_at (blk_k HO.out (set2_kpt _ _ _ _ _ _) HN1.out.1)).2.2.1,(ci_at (blk_k HI.out (set2_kpt _ _ _ _ _ _) HN1.out.2.1)).2,(c3_at (blk_k HF.out (set2_kpt _ _ _ _ _ _) HN1.out.2.2.1)).2.2.2,(cells2_kpt HCA.out HGA.out (set2_kpt _ _ _ _ _ _) HN1.out.2.2.2.1).two⟩) (fun hh => ?_)
       refine tkA 0 _ hh ?_
       try go_frame
       refine tkB 1 _ hh ?_
       try go_frame
       refine tkA 2 _ hh ?_
       try go_frame
       refine tkB 3 _ hh ?_
       try go_frame
       refine tkA 4 _ hh ?_
       try go_frame
       refine tkB 5 _ hh ?_
       try go_frame
       refine tkA 6 _ hh ?_
       try go_frame
       refine tkA 7 _ hh ?_
       try go_frame
       refine tkB 8 _ hh ?_
       try go_frame
       refine tkA 9 _ hh ?_
       try go_frame
       refine rdH [10] ?_
       refine AllReadyH.cons (o := _) (by simp only [List.getElem?_toArray,List.getElem?_cons_succ,List.getElem?_cons_zero]; rfl) (fun KX hKX => ?_) AllReadyH.nil
       clear hh
       obtain ⟨g',cap',e1,-,-,hgl,hgf,hgc,hput⟩ := own_put2 HOA.out HY.out x
       simp only [Value.slice.injEq,Option.some.injEq,Addr.mk.injEq,and_true] at e1
       obtain ⟨rfl,-,-⟩ := e1
       have u0 := hgc 0 _ rfl
       have u1 := hgc 1 _ rfl
       have f0 := hgf (kn * 2)
       have f1 := hgf (kn * 2 + 1)
       simp only [Nat.add_zero] at u0
       have u2 : w7.drew.cell? ⟨ga,kn * 2,none⟩ = _ := u0
       have u3 : w7.drew.cell? ⟨ga,kn * 2 + 1,none⟩ = _ := u1
       have f2 : w7.drew.frozen? ⟨ga,kn * 2,none⟩ = _ := f0
       have f3 : w7.drew.frozen? ⟨ga,kn * 2 + 1,none⟩ = _ := f1
       have HPUT := hid hput
       clear hgc hgf hput
       go_simp
       refine hKX.out _ _ (by first | exact ⟨(c3_at HO.out).2.2.1,(ci_at HI.out).2,(c3_at HF.out).2.2.2,HCA.out.two⟩ | exact ⟨(c3_at (blk_k HO.out (set2_kpt _ _ _ _ _ _) HN1.out.1)).2.2.1,(ci_at (blk_k HI.out (set2_kpt _ _ _ _ _ _) HN1.out.2.1)).2,(c3_at (blk_k HF.out (set2_kpt _ _ _ _ _ _) HN1.out.2.2.1)).2.2.2,(cells2_kpt HCA.out HGA.out (set2_kpt _ _ _ _ _ _) HN1.out.2.2.2.1).two⟩) (fun hh => ?_)
       clear hKX KX
       try go_frame
       refine wpAnyH_done (by kernel_rfl) ?_ _
       clear hh u0 u1 u2 u3 f0 f1 f2 f3 hgl
       obtain ⟨w8,hw8⟩ : ∃ z,z = ((w7.setCell ⟨ga,kn * 2,none⟩ (.int .i64 x.1)).setCell ⟨ga,kn * 2 + 1,none⟩ (.string x.2)).drew := ⟨_,rfl⟩
       have hk1 : Kpt [ga] w7 w8 := by rw [hw8]; exact (set2_kpt _ _ _ _ _ _).drew
       replace HOA : Hid (OT w8 _ _ _) := hid (by rw [hw8]; exact HPUT.out)
       replace HR := hid (blk_k HR.out hk1 HN1.out.2.2.2.2.1)
       replace HX := hid (blk_k HX.out hk1 HN1.out.2.2.2.2.2)
       replace HO := hid (blk_k HO.out hk1 HN1.out.1)
       replace HL := hid (rd_ni (ok' := fun b => b < gx) HL.out (fun b hb => ⟨by have := HGO.out; have := HGXB.out; omega,hb⟩) hk1)
       replace HOB := hid (HOB.out.kptS hk1 (fun b e => by have := HDJ.out ga rfl; simp; rintro rfl; exact this e))
       replace HB := hid (HB.out.trans (hk1.below (fun x hx => by simp at hx; have := HGO.out; have := HWB.out; omega) HB.out.size))
       rw [<- hw8]
       clear hw8 hk1 HPUT HCA HGA HF HI HY
       go_upto_region 18 with fail
       clear hkn0 hkn1 hkn2 hsn0 hsn1 hsn2
       obtain ⟨_,_,eqb,hqb⟩ := (HOB.out.rd (sP.grow _)).len
       simp only [Value.slice.injEq] at eqb
       obtain ⟨rfl,-,rfl⟩ := eqb
       have hcb : sy <= cb := by omega
       have hcb2 : (sy : Int) <= (cb : Int) := by omega
       clear hqb
       replace HR : Hid (w8.drew.heap[_]? = _) := hid HR.out
       replace HX : Hid (w8.drew.heap[_]? = _) := hid HX.out
       replace HL : Hid (RdX 2 (sP tyC) _ w8.drew _ _) := hid HL.out
       replace HB : Hid (Below w.heap.size w w8.drew) := hid HB.out.drew
       replace HO : Hid (w8.drew.heap[_]? = _) := hid HO.out
       replace HOA : Hid (OT w8.drew _ _ _) := hid HOA.out
       replace HOB : Hid (OT w8.drew _ _ _) := hid HOB.out
       have HNE : Hid (gx ≠ go) := hid (by have := HGXB.out; have := HBG.out.1; omega)
       refine wp_region_held_drew (S := fun W => W.cell? ⟨gx,1,none⟩ = some (.slice pz C.2.1.length cz)) (by kernel_rfl) (by first | exact (c3_at HX.out).2.2.1 | exact (c3_at (blk_k HX.out (Kpt.set [go] _ _ _ _ (by simp)) HNE.out)).2.2.1) (fun hh => ?_)
       refine tkA 0 _ hh ?_
       try go_frame
       refine tkA 2 _ hh ?_
       try go_frame
       refine tkA 4 _ hh ?_
       try go_frame
       refine tkB 5 _ hh ?_
       try go_frame
       refine rdH [1] ?_
       refine AllReadyH.cons (o := _) (by simp only [List.getElem?_toArray,List.getElem?_cons_succ,List.getElem?_cons_zero]; rfl) (fun KX hKX => ?_) AllReadyH.nil
       clear hh
       obtain ⟨ul,uc,uf⟩ := boxN HO.out
       have u0 := uc 0 _ rfl
       have u1 := uc 1 _ rfl
       have u2 := uc 2 _ rfl
       simp only [Nat.zero_add] at u0 u1 u2
       clear uc uf
       go_simp
       clear ul u0 u1 u2
       refine hKX.out _ _ (by first | exact (c3_at HX.out).2.2.1 | exact (c3_at (blk_k HX.out (Kpt.set [go] _ _ _ _ (by simp)) HNE.out)).2.2.1) (fun hh => ?_)
       clear hKX KX
       try go_frame
       refine tkA 3 _ hh ?_
       try go_frame
       refine rdH [6] ?_
       refine AllReadyH.cons (o := _) (by simp only [List.getElem?_toArray,List.getElem?_cons_succ,List.getElem?_cons_zero]; rfl) (fun KX hKX => ?_) AllReadyH.nil
       clear hh
       refine step_appA inf_typ shape_typ (by rfl) _ _ (by rfl) B5 _ (S.take sy) (by rfl) (OwnX.frontT HOB.out hsyl) pz _ cz C.2.1 (by rfl) HL.out (by have := HC.out.2.2; rw [List.length_take]; omega) (by have := HBG.out.1; have := (Array.getElem?_eq_some_iff.1 HO.out).1; omega) ?_
       intro v9 w9 ho9 hg9 hl9
       rw [HZE.out] at ho9
       obtain ⟨p9,n9,c9,rfl⟩ := ho9.slice
       obtain ⟨_,_,e9,-⟩ := (ho9.rd (sP.grow _)).len
       simp only [Value.slice.injEq] at e9
       obtain ⟨rfl,rfl,rfl⟩ := e9
       have hk9 : Kpt (Value.slice qb sy cb).ownBlock.toList w8.drew w9 := Kpt.of_grown hg9 (fun b e => .inl (by rw [e]; simp))
       have hm9 : ∀ b,b ∈ (Value.slice qb sy cb).ownBlock.toList -> B5 <= b /\ b < go := fun b hb => HBG.out.2 b (by rw [own_same qb S.length cb sy cb]; simpa using hb)
       have HN9 : Hid (∀ b,(Value.slice p9 Z.length c9).ownBlock = some b -> b ≠ go /\ b ≠ g + 3 /\ B5 <= b) := hid (fun b e => Or.elim hl9 (fun h => by rw [h] at e; have h1 := HGXB.out; have h2 := HGX.out; have := hm9 b (by rw [e]; simp); omega) (fun h => by rw [h] at e; have h1 := HGXB.out; have h2 := HGX.out; have h3 := (Array.getElem?_eq_some_iff.1 HO.out).1; have h4 := HBG.out.1; obtain rfl := Option.some.inj e; omega))
       replace HR := hid (blk_kl HR.out hk9 (fun hb => by have := hm9 _ hb; have := HGXB.out; have := HGX.out; omega))
       replace HX := hid (blk_kl HX.out hk9 (fun hb => by have := hm9 _ hb; have := HGXB.out; omega))
       replace HO := hid (blk_kl HO.out hk9 (fun hb => by have := hm9 _ hb; omega))
       replace HOA := hid (HOA.out.kptS hk9 (fun b e hb => HDJ.out b e (by rw [own_same qb S.length cb sy cb]; simpa using hb)))
       have HO9 := hid ho9
       replace HB := hid (HB.out.trans (hk9.below (fun x hx => by have := hm9 _ hx; have := HWB.out; omega) HB.out.size))
       clear ho9 hg9 hl9 hk9 hm9 HOB HL
       refine hKX.out _ _ (by first | exact (c3_at HX.out).2.2.1 | exact (c3_at (blk_k HX.out (Kpt.set [go] _ _ _ _ (by simp)) HNE.out)).2.2.1) (fun hh => ?_)
       clear hKX KX
       try go_frame
       refine tkA 7 _ hh ?_
       try go_frame
       refine rdH [8] ?_
       refine AllReadyH.cons (o := _) (by simp only [List.getElem?_toArray,List.getElem?_cons_succ,List.getElem?_cons_zero]; rfl) (fun KX hKX => ?_) AllReadyH.nil
       clear hh
       obtain ⟨ul,uc,uf⟩ := boxN HO.out
       have u0 := uc 0 _ rfl
       have u1 := uc 1 _ rfl
       have u2 := uc 2 _ rfl
       have uu0 := uf 0
       have uu1 := uf 1
       have uu2 := uf 2
       simp only [Nat.zero_add] at u0 u1 u2
       clear uc uf
       go_simp
       clear ul u0 u1 u2 uu0 uu1 uu2
       refine hKX.out _ _ (by first | exact (c3_at HX.out).2.2.1 | exact (c3_at (blk_k HX.out (Kpt.set [go] _ _ _ _ (by simp)) HNE.out)).2.2.1) (fun hh => ?_)
       clear hKX KX
       try go_frame
       refine wpAnyH_done (by kernel_rfl) ?_ _
       clear hh
       obtain ⟨w10,hw10⟩ : ∃ z,z = w9.setCell ⟨go,2,none⟩ (.slice p9 Z.length c9) := ⟨_,rfl⟩
       have hk1 : Kpt [go] w9 w10 := by rw [hw10]; exact Kpt.set _ _ _ _ _ (by simp)
       have HO10 : Hid (w10.heap[go]? = some (.cells #[.bool true,.slice (some ⟨ga,0,none⟩) L.length ca,.slice p9 Z.length c9] 61 (0,0))) := hid (by rw [hw10,heap_setCell_same _ _ 2 _ _ _ HO.out]; rfl)
       replace HR := hid (blk_k HR.out hk1 (by have := HGXB.out; have := HGX.out; have := HBG.out.1; omega))
       replace HOA := hid (HOA.out.kptS hk1 (fun b e => by have := HAG.out b e; simp; omega))
       replace HO9 := hid (HO9.out.kptS hk1 (fun b e => by have := HN9.out b e; simp; omega))
       replace HB := hid (HB.out.trans (hk1.below (fun x hx => by simp at hx; have := HWB.out; have := HBG.out.1; omega) HB.out.size))
       rw [<- hw10]
       clear hw10 hk1 HO HX
       obtain ⟨ul,uc,uf⟩ := boxN HO10.out
       have u0 := uc 0 _ rfl
       have u1 := uc 1 _ rfl
       have u2 := uc 2 _ rfl
       simp only [Nat.zero_add] at u0 u1 u2
       clear uc uf
       obtain ⟨rl,rc,rf⟩ := boxN HR.out
       have r0 := rc 0 _ rfl
       have r1 := rc 1 _ rfl
       have r2 := rc 2 _ rfl
       have ru0 := rf 0
       have ru1 := rf 1
       have ru2 := rf 2
       simp only [Nat.zero_add] at r0 r1 r2
       clear rc rf
       go_wp2_with fail
       refine bodyPost_ret (v := .tuple #[.agg #[.bool true,.slice (some ⟨ga,0,none⟩) L.length ca,.slice p9 Z.length c9],.int .i64 0]) (by simp [*,results,Tryz.results92,go_sem]) rfl ?_
       have hk := set3_kpt w10 (g + 3) 0 1 2 (.bool true) (.slice (some ⟨ga,0,none⟩) L.length ca) (.slice p9 Z.length c9)
       have hre := HRE.out.symm.trans HRV.out
       rw [HR5.out,HZE.out] at hre
       subst hre
       exact ⟨_,rfl,⟨some ⟨ga,0,none⟩,ca,p9,c9,by rw [List.length_set],by rw [List.length_set]; exact own_up (HOA.out.kptS hk (fun b e => by have := HAG.out b e; have := HGXB.out; have := HGX.out; simp; omega)) (fun b e => by have := HAG.out b e; have := HGXB.out; have := HGX.out; have := HG.out; omega),own_up (HO9.out.kptS hk (fun b e => by have := HN9.out b e; simp; omega)) (fun b e => by have := HN9.out b e; have := HWB.out; omega)⟩,HB.out.trans (hk.below (fun x hx => by simp at hx; have := HG.out; omega) HB.out.size)⟩
      ·have HR5 : Hid ((if o = 5 then L.set k.toNat (lastT S) else L) = L) := hid (if_neg h5)
       obtain ⟨w8,hw8⟩ : ∃ z,z = w7 := ⟨_,rfl⟩
       go_upto_region 18 with fail
       rw [<- hw8] at HR HX HL HB HO HOA HOB ⊢
       clear hw8
       clear ql q0 q1 q2 q3 q4 q5 q6
       clear HF HI H2
       obtain ⟨_,_,eqb,hqb⟩ := (HOB.out.rd (sP.grow _)).len
       simp only [Value.slice.injEq] at eqb
       obtain ⟨rfl,-,rfl⟩ := eqb
       have hcb : sy <= cb := by omega
       have hcb2 : (sy : Int) <= (cb : Int) := by omega
       clear hqb
       replace HR : Hid (w8.drew.heap[_]? = _) := hid HR.out
       replace HX : Hid (w8.drew.heap[_]? = _) := hid HX.out
       replace HL : Hid (RdX 2 (sP tyC) _ w8.drew _ _) := hid HL.out
       replace HB : Hid (Below w.heap.size w w8.drew) := hid HB.out.drew
       replace HO : Hid (w8.drew.heap[_]? = _) := hid HO.out
       replace HOA : Hid (OT w8.drew _ _ _) := hid HOA.out
       replace HOB : Hid (OT w8.drew _ _ _) := hid HOB.out
       have HNE : Hid (gx ≠ go) := hid (by have := HGXB.out; have := HBG.out.1; omega)
       refine wp_region_held_drew (S := fun W => W.cell? ⟨gx,1,none⟩ = some (.slice pz C.2.1.length cz)) (by kernel_rfl) (by first | exact (c3_at HX.out).2.2.1 | exact (c3_at (blk_k HX.out (Kpt.set [go] _ _ _ _ (by simp)) HNE.out)).2.2.1) (fun hh => ?_)
       refine tkA 0 _ hh ?_
       try go_frame
       refine tkA 2 _ hh ?_
       try go_frame
       refine tkA 4 _ hh ?_
       try go_frame
       refine tkB 5 _ hh ?_
       try go_frame
       refine rdH [1] ?_
       refine AllReadyH.cons (o := _) (by simp only [List.getElem?_toArray,List.getElem?_cons_succ,List.getElem?_cons_zero]; rfl) (fun KX hKX => ?_) AllReadyH.nil
       clear hh
       obtain ⟨ul,uc,uf⟩ := boxN HO.out
       have u0 := uc 0 _ rfl
       have u1 := uc 1 _ rfl
       have u2 := uc 2 _ rfl
       simp only [Nat.zero_add] at u0 u1 u2
       clear uc uf
       go_simp
       clear ul u0 u1 u2
       refine hKX.out _ _ (by first | exact (c3_at HX.out).2.2.1 | exact (c3_at (blk_k HX.out (Kpt.set [go] _ _ _ _ (by simp)) HNE.out)).2.2.1) (fun hh => ?_)
       clear hKX KX
       try go_frame
       refine tkA 3 _ hh ?_
       try go_frame
       refine rdH [6] ?_
       refine AllReadyH.cons (o := _) (by simp only [List.getElem?_toArray,List.getElem?_cons_succ,List.getElem?_cons_zero]; rfl) (fun KX hKX => ?_) AllReadyH.nil
       clear hh
       refine step_appA inf_typ shape_typ (by rfl) _ _ (by rfl) B5 _ (S.take sy) (by rfl) (OwnX.frontT HOB.out hsyl) pz _ cz C.2.1 (by rfl) HL.out (by have := HC.out.2.2; rw [List.length_take]; omega) (by have := HBG.out.1; have := (Array.getElem?_eq_some_iff.1 HO.out).1; omega) ?_
       intro v9 w9 ho9 hg9 hl9
       rw [HZE.out] at ho9
       obtain ⟨p9,n9,c9,rfl⟩ := ho9.slice
       obtain ⟨_,_,e9,-⟩ := (ho9.rd (sP.grow _)).len
       simp only [Value.slice.injEq] at e9
       obtain ⟨rfl,rfl,rfl⟩ := e9
       have hk9 : Kpt (Value.slice qb sy cb).ownBlock.toList w8.drew w9 := Kpt.of_grown hg9 (fun b e => .inl (by rw [e]; simp))
       have hm9 : ∀ b,b ∈ (Value.slice qb sy cb).ownBlock.toList -> B5 <= b /\ b < go := fun b hb => HBG.out.2 b (by rw [own_same qb S.length cb sy cb]; simpa using hb)
       have HN9 : Hid (∀ b,(Value.slice p9 Z.length c9).ownBlock = some b -> b ≠ go /\ b ≠ g + 3 /\ B5 <= b) := hid (fun b e => Or.elim hl9 (fun h => by rw [h] at e; have h1 := HGXB.out; have h2 := HGX.out; have := hm9 b (by rw [e]; simp); omega) (fun h => by rw [h] at e; have h1 := HGXB.out; have h2 := HGX.out; have h3 := (Array.getElem?_eq_some_iff.1 HO.out).1; have h4 := HBG.out.1; obtain rfl := Option.some.inj e; omega))
       replace HR := hid (blk_kl HR.out hk9 (fun hb => by have := hm9 _ hb; have := HGXB.out; have := HGX.out; omega))
       replace HX := hid (blk_kl HX.out hk9 (fun hb => by have := hm9 _ hb; have := HGXB.out; omega))
       replace HO := hid (blk_kl HO.out hk9 (fun hb => by have := hm9 _ hb; omega))
       replace HOA := hid (HOA.out.kptS hk9 (fun b e hb => HDJ.out b e (by rw [own_same qb S.length cb sy cb]; simpa using hb)))
       have HO9 := hid ho9
       replace HB := hid (HB.out.trans (hk9.below (fun x hx => by have := hm9 _ hx; have := HWB.out; omega) HB.out.size))
       clear ho9 hg9 hl9 hk9 hm9 HOB HL
       refine hKX.out _ _ (by first | exact (c3_at HX.out).2.2.1 | exact (c3_at (blk_k HX.out (Kpt.set [go] _ _ _ _ (by simp)) HNE.out)).2.2.1) (fun hh => ?_)
       clear hKX KX
       try go_frame
       refine tkA 7 _ hh ?_
       try go_frame
       refine rdH [8] ?_
       refine AllReadyH.cons (o := _) (by simp only [List.getElem?_toArray,List.getElem?_cons_succ,List.getElem?_cons_zero]; rfl) (fun KX hKX => ?_) AllReadyH.nil
       clear hh
       obtain ⟨ul,uc,uf⟩ := boxN HO.out
       have u0 := uc 0 _ rfl
       have u1 := uc 1 _ rfl
       have u2 := uc 2 _ rfl
       have uu0 := uf 0
       have uu1 := uf 1
       have uu2 := uf 2
       simp only [Nat.zero_add] at u0 u1 u2
       clear uc uf
       go_simp
       clear ul u0 u1 u2 uu0 uu1 uu2
       refine hKX.out _ _ (by first | exact (c3_at HX.out).2.2.1 | exact (c3_at (blk_k HX.out (Kpt.set [go] _ _ _ _ (by simp)) HNE.out)).2.2.1) (fun hh => ?_)
       clear hKX KX
       try go_frame
       refine wpAnyH_done (by kernel_rfl) ?_ _
       clear hh
       obtain ⟨w10,hw10⟩ : ∃ z,z = w9.setCell ⟨go,2,none⟩ (.slice p9 Z.length c9) := ⟨_,rfl⟩
       have hk1 : Kpt [go] w9 w10 := by rw [hw10]; exact Kpt.set _ _ _ _ _ (by simp)
       have HO10 : Hid (w10.heap[go]? = some (.cells #[.bool true,.slice qa L.length ca,.slice p9 Z.length c9] 61 (0,0))) := hid (by rw [hw10,heap_setCell_same _ _ 2 _ _ _ HO.out]; rfl)
       replace HR := hid (blk_k HR.out hk1 (by have := HGXB.out; have := HGX.out; have := HBG.out.1; omega))
       replace HOA := hid (HOA.out.kptS hk1 (fun b e => by have := HAG.out b e; simp; omega))
       replace HO9 := hid (HO9.out.kptS hk1 (fun b e => by have := HN9.out b e; simp; omega))
       replace HB := hid (HB.out.trans (hk1.below (fun x hx => by simp at hx; have := HWB.out; have := HBG.out.1; omega) HB.out.size))
       rw [<- hw10]
       clear hw10 hk1 HO HX
       obtain ⟨ul,uc,uf⟩ := boxN HO10.out
       have u0 := uc 0 _ rfl
       have u1 := uc 1 _ rfl
       have u2 := uc 2 _ rfl
       simp only [Nat.zero_add] at u0 u1 u2
       clear uc uf
       obtain ⟨rl,rc,rf⟩ := boxN HR.out
       have r0 := rc 0 _ rfl
       have r1 := rc 1 _ rfl
       have r2 := rc 2 _ rfl
       have ru0 := rf 0
       have ru1 := rf 1
       have ru2 := rf 2
       simp only [Nat.zero_add] at r0 r1 r2
       clear rc rf
       go_wp2_with fail
       refine bodyPost_ret (v := .tuple #[.agg #[.bool true,.slice qa L.length ca,.slice p9 Z.length c9],.int .i64 0]) (by simp [*,results,Tryz.results92,go_sem]) rfl ?_
       have hk := set3_kpt w10 (g + 3) 0 1 2 (.bool true) (.slice qa L.length ca) (.slice p9 Z.length c9)
       have hre := HRE.out.symm.trans HRV.out
       rw [HR5.out,HZE.out] at hre
       subst hre
       exact ⟨_,rfl,⟨qa,ca,p9,c9,by rw [show L.length = L.length from rfl],by rw [show L.length = L.length from rfl]; exact own_up (HOA.out.kptS hk (fun b e => by have := HAG.out b e; have := HGXB.out; have := HGX.out; simp; omega)) (fun b e => by have := HAG.out b e; have := HGXB.out; have := HGX.out; have := HG.out; omega),own_up (HO9.out.kptS hk (fun b e => by have := HN9.out b e; simp; omega)) (fun b e => by have := HN9.out b e; have := HWB.out; omega)⟩,HB.out.trans (hk.below (fun x hx => by simp at hx; have := HG.out; omega) HB.out.size)⟩
   ·have HRV : Hid (stepC (K.map skOf) (true,L,S) o k C = (noFr,C.2.2)) := hid (by unfold stepC; rw [if_neg (by simp),if_neg (by dsimp only; omega),if_pos hx])
    have hx2 : (C.2.2 != 0) = true := by simpa using hx
    obtain ⟨yl,yc,yf⟩ := boxN HF.out
    have y0 := yc 0 _ rfl
    have y1 := yc 1 _ rfl
    have y2 := yc 2 _ rfl
    simp only [Nat.zero_add] at y0 y1 y2
    clear yc yf
    obtain ⟨xl,xc,xf⟩ := boxN HX.out
    have x0 := xc 0 _ rfl
    have x1 := xc 1 _ rfl
    have x2 := xc 2 _ rfl
    simp only [Nat.zero_add] at x0 x1 x2
    clear xc xf
    go_upto_region 10 with fail
    clear yl y0 y1 y2
    clear xl x0 x1 x2
    have HRW := HR
    replace HF : Hid (w4.drew.heap[_]? = _) := hid HF.out
    replace HI : Hid (w4.drew.heap[_]? = _) := hid HI.out
    replace HR : Hid (w4.drew.heap[_]? = _) := hid HR.out
    replace HX : Hid (w4.drew.heap[_]? = _) := hid HX.out
    replace H1 : Hid (RdX 2 (sP tyC) _ w4.drew _ _) := hid H1.out
    replace H2 : Hid (RdX 2 (sP tyC) _ w4.drew _ _) := hid H2.out
    replace HA : Hid (RdX 2 (sP tyC) _ w4.drew _ _) := hid HA.out
    replace HL : Hid (RdX 2 (sP tyC) _ w4.drew _ _) := hid HL.out
    replace HT : Hid (TrN w4.drew _ _ _) := hid HT.out
    replace HGR : Hid (_ < w4.drew.heap.size) := hid HGR.out
    replace HB : Hid (Below w.heap.size w w4.drew) := hid HB.out.drew
    refine wp_region_held_drew (S := fun W => W.cell? ⟨gx,2,none⟩ = some (.int .i64 C.2.2)) (by kernel_rfl) (by first | exact (c3_at HX.out).2.2.2 | exact (c3_kpt (c3_at HX.out) (set3_kpt _ _ _ _ _ _ _ _) (by have := HGX.out; omega)).2.2.2) (fun hh => ?_)
    refine tkA 0 _ hh ?_
    try go_frame
    refine tkA 1 _ hh ?_
    try go_frame
    refine tkB 2 _ hh ?_
    try go_frame
    refine rdH [3] ?_
    refine AllReadyH.cons (o := _) (by simp only [List.getElem?_toArray,List.getElem?_cons_succ,List.getElem?_cons_zero]; rfl) (fun KX hKX => ?_) AllReadyH.nil
    clear hh
    obtain ⟨rl,rc,rf⟩ := boxN HR.out
    have r0 := rc 0 _ rfl
    have r1 := rc 1 _ rfl
    have r2 := rc 2 _ rfl
    have ru0 := rf 0
    have ru1 := rf 1
    have ru2 := rf 2
    simp only [Nat.zero_add] at r0 r1 r2
    clear rc rf
    obtain ⟨vl,vc,vf⟩ := boxN HRW.out
    have v0 := vc 0 _ rfl
    have v1 := vc 1 _ rfl
    have v2 := vc 2 _ rfl
    have vu0 := vf 0
    have vu1 := vf 1
    have vu2 := vf 2
    simp only [Nat.zero_add] at v0 v1 v2
    clear vc vf
    go_simp
    refine hKX.out _ _ (by first | exact (c3_at HX.out).2.2.2 | exact (c3_kpt (c3_at HX.out) (set3_kpt _ _ _ _ _ _ _ _) (by have := HGX.out; omega)).2.2.2) (fun hh => ?_)
    clear hKX KX
    try go_frame
    refine tkA 4 _ hh ?_
    try go_frame
    refine wpAnyH_done (by kernel_rfl) ?_ _
    clear hh
    go_wp2_with fail
    refine bodyPost_ret (v := .tuple #[.agg #[.bool false,.slice none 0 0,.slice none 0 0],.int .i64 C.2.2]) (by simp [*,results,Tryz.results92,go_sem]) rfl ?_
    have hk := set3_kpt w4.drew (g + 3) 0 1 2 (.bool false) (.slice none 0 0) (.slice none 0 0)
    obtain rfl : R = (noFr,C.2.2) := HRE.out.symm.trans HRV.out
    exact ⟨_,rfl,⟨none,0,none,0,rfl,RdX.nil _ _ _ _,RdX.nil _ _ _ _⟩,HB.out.trans (hk.below (fun x hx => by simp at hx; have := HG.out; omega) HB.out.size)⟩
end Go.Proofs.YtfpeakkbbfnhcaaGreat.R
namespace Go.Proofs.YtfpeakkbbfnhcaaGreat.R
open Go.RowKit Go.Proofs.YtfpeakkbbfnhcaaGreat.D Go.Proofs.YtfpeakkbbfnhcaaGreat.O Go.Proofs.YtfpeakkbbfnhcaaGreat.A
theorem rdT_f {ok : Nat -> Prop} {w : World} {v : Value} {ts : List Ty} (h : RdX 2 (sP tyC) ok w v ts) : RdT w v ts := by
 obtain ⟨p,cap,rfl,h1,h2,h3⟩ := h
 rcases h3 with rfl | ⟨b,off,rfl,hb,hlt,hc⟩
 ·exact ⟨p,cap,rfl,(fun a ha hn => absurd rfl hn),fun _ => rfl,fun a ha i t ht => by simp at ht⟩
 ·refine ⟨_,cap,rfl,(fun a ha _ => by cases ha; rfl),(fun h => by cases h),fun a ha i t ht => ?_⟩
  cases ha
  exact CellsAt.two (sP_at (ok := ok) (hc i t ht))
end Go.Proofs.YtfpeakkbbfnhcaaGreat.R
