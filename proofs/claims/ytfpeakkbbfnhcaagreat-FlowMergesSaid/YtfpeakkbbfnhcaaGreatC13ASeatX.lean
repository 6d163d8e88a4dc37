/- Texts that the proof is made of, joined. No condition. -/
import Derived.Test.YtfpeakkbbfnhcaaGreatC13ASeatF
import Derived.Test.YtfpeakkbbfnhcaaGreatC13ASeatH
import Derived.Deep.DeepCutAuto
import Derived.Test.YtfpeakkbbfnhcaaGreatC13H
set_option linter.unusedVariables false
set_option linter.unusedSimpArgs false
set_option maxRecDepth 100000
set_option maxHeartbeats 16000000
namespace Go.Proofs.YtfpeakkbbfnhcaaGreat.A
open Go.RowKit Go.Proofs.YtfpeakkbbfnhcaaGreat.D Go.Proofs.YtfpeakkbbfnhcaaGreat.O
def fxC : Nat -> List Nat
 | 6 => [5,6]
 | 7 => [6,7]
 | i => [i]
def fxL : Nat -> List (Nat × Nat)
 | 3 => [(83,0),(84,1),(85,2)]
 | 5 => [(87,4)]
 | 6 => [(86,3),(88,5)]
 | 7 => [(89,6)]
 | _ => []
def fxF (k0 k1 k2 k3 : Nat) (pm pj : Option Addr) (nm cm nj cj gM2 gI3 : Nat) (rM rI rJ : Raw 6) : Nat -> (Nat -> Tk) -> World -> Prop
 | 0,g,_ => (g 0).1 = .agg #[.string ⟨#[77,97,105,110]⟩,.string ⟨#[79,98,106,101,99,116]⟩,.slice none 0 0,.int .i64 1,.slice none 0 0,.slice pm nm cm]
 | 1,g,_ => (g 1).1 = .agg #[.string ⟨#[73]⟩,.string ⟨#[79,98,106,101,99,116]⟩,.slice none 0 0,.int .i64 4,.slice none 0 0,.slice (some ⟨gM2,0,none⟩) 1 1]
 | 2,g,_ => (g 2).1 = .agg #[.string ⟨#[74]⟩,.string ⟨#[79,98,106,101,99,116]⟩,.slice (some ⟨gI3,0,none⟩) 1 1,.int .i64 4,.slice none 0 0,.slice pj nj cj]
 | 3,g,w => (g 3).1 = .slice (some ⟨(g 3).2.1,0,none⟩) 3 3 /\ RdX 6 (sP rawC) (inR (g 3)) w (g 3).1 [rM,rI,rJ]
 | 4,g,_ => (g 4).1 = .agg #[.int .u8 (k0 : Int),.int .u8 (k1 : Int),.int .u8 (k2 : Int),.int .u8 (k3 : Int)]
 | 5,g,w => ∃ p,(g 5).1 = .slice (some p) 6 6 /\ RdX 6 cP (inR (g 5)) w (g 5).1 (familyS k0 k1 k2 k3)
 | 6,g,w => ∃ p n c rs6,(g 6).1 = .slice p n c /\ OwnX 6 42 (sP rawC) w (g 6).2.1 (g 6).1 ([rM,rI,rJ] ++ rs6) /\ (∀ x,(g 6).1.ownBlock = some x -> x < (g 6).2.2) /\ All2 (fun r c => cP (inR (g 5)) w (rawC r) c) rs6 (familyS k0 k1 k2 k3)
 | 7,g,_ => (g 7).1 = .agg #[(g 6).1]
 | 8,g,w => (g 8).1 = .pointer (some ⟨(g 8).2.1,0,none⟩) /\ (g 8).2.1 < (g 8).2.2 /\ w.heap[(g 8).2.1]? = some (.cells #[.slice none 0 0] 28 (0,0))
 | _,_,_ => True
theorem fx_mono (k0 k1 k2 k3 : Nat) (pm pj : Option Addr) (nm cm nj cj gM2 gI3 : Nat) (rM rI rJ : Raw 6) : ∀ i,i < 9 -> ∀ g w w',Below w.heap.size w w' -> (∀ k,k ∈ fxC i -> (g k).2.2 <= w.heap.size) -> fxF k0 k1 k2 k3 pm pj nm cm nj cj gM2 gI3 rM rI rJ i (restr (fxC i) g) w -> fxF k0 k1 k2 k3 pm pj nm cm nj cj gM2 gI3 rM rI rJ i (restr (fxC i) g) w' :=
 all9
  (fun _ _ _ _ _ h => h)
  (fun _ _ _ _ _ h => h)
  (fun _ _ _ _ _ h => h)
  (fun _ _ _ hb _ h => ⟨h.1,h.2.step (sP.grow _) (fun _ h _ => h) (.of_below hb) hb.size⟩)
  (fun _ _ _ _ _ h => h)
  (fun _ _ _ hb _ h => by obtain ⟨p,e,h⟩ := h; exact ⟨p,e,h.step cP.grow (fun _ h _ => h) (.of_below hb) hb.size⟩)
  (fun _ _ _ hb _ h => by obtain ⟨p,n,c,rs6,e,ho,hl,h⟩ := h; exact ⟨p,n,c,rs6,e,ho.kptS (.of_below hb : Kpt [] _ _) (fun _ _ => by simp),hl,h.imp (fun r x h => cP.grow _ _ _ _ _ _ h (fun _ h _ => h) (.of_below hb) hb.size)⟩)
  (fun _ _ _ _ _ h => h)
  (fun g w _ hb hs h => ⟨h.1,h.2.1,by have h8 : (g 8).2.2 <= w.heap.size := hs 8 (List.mem_cons_self ..); have h9 : (g 8).2.1 < (g 8).2.2 := h.2.1; exact (hb.block _ (by show (g 8).2.1 < _; omega)).trans h.2.2⟩)
def fyC : Nat -> List Nat
 | 8 => [7,8]
 | i => [i]
def fyL : Nat -> List (Nat × Nat)
 | 1 => [(91,0)]
 | 6 => [(96,5)]
 | 7 => [(97,6)]
 | 8 => [(93,2),(94,3),(95,4),(98,7)]
 | _ => []
def fyF (k3 kb gb gM6 n c : Nat) (p : Option Addr) (rE rE2 rG : Raw 6) : Nat -> (Nat -> Tk) -> World -> Prop
 | 0,g,_ => (g 0).1 = .pointer (some ⟨gb,0,none⟩)
 | 1,g,_ => (g 1).1 = .slice p n c
 | 2,g,_ => (g 2).1 = .agg #[.string ⟨#[69,114,114]⟩,.string ⟨#[70,97,117,108,116]⟩,.slice none 0 0,.int .i64 1,.slice none 0 0,.slice none 0 0]
 | 3,g,_ => (g 3).1 = .agg #[.string ⟨#[69,114,114,50]⟩,.string ⟨#[69,114,114]⟩,.slice none 0 0,.int .i64 1,.slice none 0 0,.slice none 0 0]
 | 4,g,_ => (g 4).1 = .agg #[.string ⟨#[71,111,110,101]⟩,.string ⟨#[65]⟩,.slice none 0 0,.int .i64 1,.slice none 0 0,.slice (some ⟨gM6,0,none⟩) 1 1]
 | 5,g,_ => (g 5).1 = .pointer (some ⟨kb,3,none⟩)
 | 6,g,_ => .int .u8 (k3 : Int) = (g 6).1
 | 7,g,w => ∃ pi ni ci pf nf cf px nx cx,(g 7).1 = .agg #[.string (utilS k3).name,.string (utilS k3).super,.slice pi ni ci,.int .i64 (utilS k3).kind,.slice pf nf cf,.slice px nx cx] /\ cP (inR (g 7)) w [.string (utilS k3).name,.string (utilS k3).super,.slice pi ni ci,.int .i64 (utilS k3).kind,.slice pf nf cf,.slice px nx cx] (utilS k3)
 | 8,g,w => ∃ r,(g 8).1 = .slice (some ⟨(g 8).2.1,0,none⟩) 4 4 /\ (g 8).2.1 < (g 8).2.2 /\ RdX 6 (sP rawC) (inR (g 8)) w (g 8).1 [rE,rE2,rG,r] /\ cP (inR (g 7)) w (rawC r) (utilS k3)
 | _,_,_ => True
theorem fy_mono (k3 kb gb gM6 n c : Nat) (p : Option Addr) (rE rE2 rG : Raw 6) : ∀ i,i < 9 -> ∀ g w w',Below w.heap.size w w' -> (∀ k,k ∈ fyC i -> (g k).2.2 <= w.heap.size) -> fyF k3 kb gb gM6 n c p rE rE2 rG i (restr (fyC i) g) w -> fyF k3 kb gb gM6 n c p rE rE2 rG i (restr (fyC i) g) w' :=
 all9
  (fun _ _ _ _ _ h => h)
  (fun _ _ _ _ _ h => h)
  (fun _ _ _ _ _ h => h)
  (fun _ _ _ _ _ h => h)
  (fun _ _ _ _ _ h => h)
  (fun _ _ _ _ _ h => h)
  (fun _ _ _ _ _ h => h)
  (fun _ _ _ hb _ h => by obtain ⟨a1,a2,a3,a4,a5,a6,a7,a8,a9,e,h⟩ := h; exact ⟨a1,a2,a3,a4,a5,a6,a7,a8,a9,e,cP.grow _ _ _ _ _ _ h (fun _ h _ => h) (.of_below hb) hb.size⟩)
  (fun _ _ _ hb _ h => by obtain ⟨r,e,hl,h,h2⟩ := h; exact ⟨r,e,hl,h.step (sP.grow _) (fun _ h _ => h) (.of_below hb) hb.size,cP.grow _ _ _ _ _ _ h2 (fun _ h _ => h) (.of_below hb) hb.size⟩)
theorem archive_p (k0 k1 k2 k3 : Nat) (bl bm : List UInt8) (vl vm : Value) (w : World) (h0 : k0 < 256) (h1 : k1 < 256) (h2 : k2 < 256) (h3 : k3 < 256) (hl : Rd w vl bl) (hm : Rd w vm bm)
  (hYL : ∀ w' : World,Rd w' vl bl -> Calls Tryz.prog 22 #[vl] w' (bodyAns (bl.map fun b => b.toNat) w')) (hYM : ∀ w' : World,Rd w' vm bm -> Calls Tryz.prog 22 #[vm] w' (bodyAns (bm.map fun b => b.toNat) w'))
  (hpl : bl = [] ∨ ∀ g,vl.ownBlock = some g -> g < w.heap.size) (hpm : bm = [] ∨ ∀ g,vm.ownBlock = some g -> g < w.heap.size) :
  Calls Tryz.prog 8 #[.agg #[.int .u8 (k0 : Int),.int .u8 (k1 : Int),.int .u8 (k2 : Int),.int .u8 (k3 : Int)],vl,vm] w fun e w' => ∃ p n c,e = .returned (.agg #[.slice p n c]) /\ RdX 6 cP (fun b => w.heap.size <= b) w' (.slice p n c) (archS k0 k1 k2 k3 (bl.map fun b => b.toNat) (bm.map fun b => b.toNat)) /\ Below w.heap.size w w' := by
 have HYL := hid hYL
 have HYM := hid hYM
 clear hYL hYM
 obtain ⟨wK,hwK⟩ : ∃ x,x = (w.alloc (.cells #[.int .u8 (k0 : Int),.int .u8 (k1 : Int),.int .u8 (k2 : Int),.int .u8 (k3 : Int)] 22)).alloc (.cells #[.slice none 0 0] 28) := ⟨_,rfl⟩
 have hA : Below w.heap.size w wK := by rw [hwK]; exact (below_alM _ _).trans ((below_alM _ _).mono (below_alM _ _).size)
 have hszK : wK.heap.size = w.heap.size + 2 := by rw [hwK]; simp
 have hltK : w.heap.size < wK.heap.size := by omega
 have hxK : wK.heap[w.heap.size]? = some (.cells #[.int .u8 (k0 : Int),.int .u8 (k1 : Int),.int .u8 (k2 : Int),.int .u8 (k3 : Int)] 22 (0,0)) := by rw [hwK,(below_alM _ _).block _ (by simp)]; exact heap_alloc_new _ _
 have hxR : wK.heap[w.heap.size + 1]? = some (.cells #[.slice none 0 0] 28 (0,0)) := by rw [hwK]; have := heap_alloc_new (w.alloc (.cells #[.int .u8 (k0 : Int),.int .u8 (k1 : Int),.int .u8 (k2 : Int),.int .u8 (k3 : Int)] 22)) (.cells #[.slice none 0 0] 28); rwa [World.size_alloc] at this
 have HLK := hid (hl.kpt (.of_below hA : Kpt [] w wK) (hpl.imp id (fun h g e => ⟨h g e,by simp⟩)))
 have HMK := hid (hm.kpt (.of_below hA : Kpt [] w wK) (hpm.imp id (fun h g e => ⟨h g e,by simp⟩)))
 have HPM := hid hpm
 obtain ⟨pl,cl,rfl,-,-,-⟩ := hl
 obtain ⟨pm,cm,rfl,-,-,-⟩ := hm
 obtain ⟨BL,hBL⟩ : ∃ x,x = bodyS (bl.map fun b => b.toNat) := ⟨_,rfl⟩
 obtain ⟨BM,hBM⟩ : ∃ x,x = bodyS (bm.map fun b => b.toNat) := ⟨_,rfl⟩
 have HBL := hid hBL
 have HBM := hid hBM
 have HXK := hid hxK
 have HXR := hid hxR
 have HA := hid hA
 clear hxK hxR hA hpl hpm hBL hBM
 go_enter Tryz.func8,Tryz.ntmps8
 go_upto_region 1 with fail
 rw [<- hwK]
 clear hwK
 go_wp2_with fail
 refine (HYL.out _ HLK.out).mono ?_
 rintro e w1 ⟨v1,v2,rfl,ho1,ho2,hb1⟩
 rw [<- HBL.out] at ho1 ho2
 obtain ⟨p1,n1,c1,hv1⟩ := ho1.slice
 obtain ⟨p2,n2,c2,hv2⟩ := ho2.slice
 subst hv1 hv2
 have HQ1 := hid (ho1.rd (sP.grow _))
 have HQ2 := hid (ho2.rd (sP.grow _))
 have HMK1 := hid (HMK.out.kpt (.of_below hb1 : Kpt [] wK w1) (HPM.out.imp id (fun h g e => ⟨Nat.lt_trans (h g e) hltK,by simp⟩)))
 have HB := hid hb1
 clear ho1 ho2 hb1
 go_wp2_with fail
 refine (HYM.out _ HMK1.out).mono ?_
 rintro e w2 ⟨v3,v4,rfl,ho1,ho2,hb1⟩
 rw [<- HBM.out] at ho1 ho2
 obtain ⟨p3,n3,c3,hv1⟩ := ho1.slice
 obtain ⟨p4,n4,c4,hv2⟩ := ho2.slice
 subst hv1 hv2
 have HQ3 := hid ((ho1.mono (sP.grow _) HB.out.size).rd (sP.grow _))
 have HQ4 := hid ((ho2.mono (sP.grow _) HB.out.size).rd (sP.grow _))
 replace HQ1 := hid (HQ1.out.any (sP.grow _) hb1)
 replace HQ2 := hid (HQ2.out.any (sP.grow _) hb1)
 replace HB := hid (HB.out.trans (hb1.mono HB.out.size))
 clear ho1 ho2 hb1 HLK HMK HMK1
 have HBS := hid (Below.refl wK.heap.size wK)
 go_upto_region 3 with fail
 go_cut [11] from 30 to 39 (fun s wx => ∃ tb p n c rs,s = .pointer (some ⟨tb,0,none⟩) /\ rs.length <= 2 /\ ClB wx wK.heap.size tb (.slice none 0 0) (.slice none 0 0) (.slice p n c) rs ⟨⟨#[77,97,105,110]⟩,⟨#[79,98,106,101,99,116]⟩,[],1,[],[⟨⟨#[109,97,105,110]⟩,[],tV,true,false,6,BL.1,BL.2⟩,⟨⟨#[97,108,116]⟩,[],tV,true,false,6,BM.1,BM.2⟩]⟩ /\ Below wK.heap.size wK wx)
 case first =>
  go_wp2_with fail
  refine (typ_v _ _).mono ?_
  rintro e wa ⟨rfl,hbb⟩
  replace HQ1 := hid (HQ1.out.any (sP.grow _) hbb)
  replace HQ2 := hid (HQ2.out.any (sP.grow _) hbb)
  replace HQ3 := hid (HQ3.out.any (sP.grow _) hbb)
  replace HQ4 := hid (HQ4.out.any (sP.grow _) hbb)
  replace HB := hid (HB.out.trans (hbb.mono HB.out.size))
  clear hbb
  go_wp2_with fail
  refine (typ_v _ _).mono ?_
  rintro e wb ⟨rfl,hbb⟩
  replace HQ1 := hid (HQ1.out.any (sP.grow _) hbb)
  replace HQ2 := hid (HQ2.out.any (sP.grow _) hbb)
  replace HQ3 := hid (HQ3.out.any (sP.grow _) hbb)
  replace HQ4 := hid (HQ4.out.any (sP.grow _) hbb)
  replace HB := hid (HB.out.trans (hbb.mono HB.out.size))
  clear hbb
  go_wp2_with fail
  go_meet
  have hm1 : mP (fun b => wK.heap.size <= b) wb [.string ⟨#[109,97,105,110]⟩,.slice none 0 0,.int .i64 5,.string ⟨#[]⟩,.bool true,.bool false,.int .i64 6,.slice p1 n1 c1,.slice p2 n2 c2] ⟨⟨#[109,97,105,110]⟩,[],tV,true,false,6,BL.1,BL.2⟩ := ⟨_,_,_,rfl,RdX.nil _ _ _ _,HQ1.out,HQ2.out⟩
  have hm2 : mP (fun b => wK.heap.size <= b) wb [.string ⟨#[97,108,116]⟩,.slice none 0 0,.int .i64 5,.string ⟨#[]⟩,.bool true,.bool false,.int .i64 6,.slice p3 n3 c3,.slice p4 n4 c4] ⟨⟨#[97,108,116]⟩,[],tV,true,false,6,BM.1,BM.2⟩ := ⟨_,_,_,rfl,RdX.nil _ _ _ _,HQ3.out,HQ4.out⟩
  obtain ⟨y1,y2⟩ := ClB.make (n := ⟨#[77,97,105,110]⟩) (s := ⟨#[79,98,106,101,99,116]⟩) (k := 1) (is := []) (fs := []) (ms := [⟨⟨#[109,97,105,110]⟩,[],tV,true,false,6,BL.1,BL.2⟩,⟨⟨#[97,108,116]⟩,[],tV,true,false,6,BM.1,BM.2⟩]) (tb := wb.heap.size + 1) (by simp) (Nat.le_trans HB.out.size (below_alM wb _).size) (RdX.nil _ _ _ _) (RdX.nil _ _ _ _) ((OwnX.lits rawC_len wb [(⟨_,shape_mth _ _ _ _ hm1⟩ : Raw 9),⟨_,shape_mth _ _ _ _ hm2⟩] _ rfl 2 rfl (by decide)).mono (sP.grow _) HB.out.size) ⟨mP.grow _ _ _ _ _ _ hm1 (fun b hb hl => ⟨hb,by simp [Value.ownBlock]; omega⟩) (.of_below (below_alM wb _)) (below_alM wb _).size,mP.grow _ _ _ _ _ _ hm2 (fun b hb hl => ⟨hb,by simp [Value.ownBlock]; omega⟩) (.of_below (below_alM wb _)) (below_alM wb _).size,trivial⟩
  exact ⟨_,_,_,_,_,rfl,by simp,y1,(HB.out.trans ((below_alM wb _).mono HB.out.size)).trans y2⟩
 case rest =>
  clear HB HQ1 HQ2 HQ3 HQ4
  obtain ⟨tb,p,n,c,rs,rfl,hlo,hC,hB⟩ := hcut
  rename World => P0
  have HC := hid hC
  have HB := hid hB
  clear hC hB
  go_upto_region 4 with fail
  go_cut [43] from 40 to 43 (fun s wx => ∃ bv : Bool,s = .bool bv /\ bv = bitS k2 0 /\ wx = P0)
  case first =>
   obtain ⟨-,hkc,-⟩ := boxN (((HBS.out.trans (HB.out.mono HBS.out.size)).block _ hltK).trans HXK.out)
   have hk0 := hkc 2 _ rfl
   simp only [Nat.zero_add] at hk0
   clear hkc
   by_cases hb : k2 / 2 ^ 0 % 2 = 1
   ·have hbb : bits BinOp.and IntKind.u8 (k2 : Int) 1 = 1 := by have := bit_at h2 0 (by decide); rw [if_pos hb] at this; exact this
    have HW := hid (show true = bitS k2 0 by unfold bitS; rw [decide_eq_true hb])
    clear hb
    go_wp2_with fail
    go_meet
    exact ⟨_,rfl,HW.out,rfl⟩
   ·have hbb : bits BinOp.and IntKind.u8 (k2 : Int) 1 = 0 := by have := bit_at h2 0 (by decide); rw [if_neg hb] at this; exact this
    have HW := hid (show false = bitS k2 0 by unfold bitS; rw [decide_eq_false hb])
    clear hb
    go_wp2_with fail
    go_meet
    exact ⟨_,rfl,HW.out,rfl⟩
  case rest =>
   obtain ⟨bv,rfl,hbv,rfl⟩ := hcut
   rename World => P0
   have HV := hid hbv
   clear hbv
   go_upto_if 43 with fail
   go_cut [] from 44 to 49 (fun wx => ∃ p n c rs,rs.length <= 3 /\ ClB wx wK.heap.size tb (.slice none 0 0) (.slice none 0 0) (.slice p n c) rs ⟨⟨#[77,97,105,110]⟩,⟨#[79,98,106,101,99,116]⟩,[],1,[],[⟨⟨#[109,97,105,110]⟩,[],tV,true,false,6,BL.1,BL.2⟩,⟨⟨#[97,108,116]⟩,[],tV,true,false,6,BM.1,BM.2⟩] ++ whenS (bitS k2 0) [clinitS ⟨#[109,97,105,110]⟩]⟩ /\ Below wK.heap.size wK wx)
   case first =>
    cases bv with
    | true =>
     have HW : Hid (whenS (bitS k2 0) [clinitS ⟨#[109,97,105,110]⟩] = [clinitS ⟨#[109,97,105,110]⟩]) := hid (by unfold whenS; rw [<- HV.out]; rfl)
     go_wp2_with fail
     have hCx := HC.out.below (below_drU P0)
     have hBx : Below wK.heap.size wK P0.drew := HB.out.trans ((below_drU P0).mono HB.out.size)
     obtain ⟨t1,t2,t3⟩ := hCx.cells
     go_region_law (first
      | (refine step_appM inf_mth (shape_raw 9) (by rfl) _ _ (by rfl) wK.heap.size _ rs (by rfl) hCc.2.2.2.2.1 _ 0 1 1 [rX] (by rfl) hsrc.out (by simp <;> omega) hBc ?_; intro v3 w3 ho3 hg3 hl3; obtain ⟨e1,e2,e3,hC5,hB5⟩ := hCc.app hBc hmX.out ho3 hg3 hl3; obtain ⟨p3,n3,c3,hv3⟩ := ho3.slice; subst hv3; have HC5 := hid hC5; have HB5 := hid hB5; clear hC5 hB5 ho3 hg3 hl3)
      | (rw [if_pos (by rfl)]; go_simp; go_at_call 24; refine (clinit_v _ _).mono ?_; rintro e wx ⟨pp,np,cp,pc,nc,cc,ph,nh,ch,rfl,g1,g2,g3,hbx⟩; have hm0 : mP (okT wK.heap.size tb (.slice p n c)) wx [.string (clinitS ⟨#[109,97,105,110]⟩).name,.slice pp np cp,.int .i64 (clinitS ⟨#[109,97,105,110]⟩).ret.1,.string (clinitS ⟨#[109,97,105,110]⟩).ret.2,.bool (clinitS ⟨#[109,97,105,110]⟩).st,.bool (clinitS ⟨#[109,97,105,110]⟩).ab,.int .i64 (clinitS ⟨#[109,97,105,110]⟩).locals,.slice pc nc cc,.slice ph nh ch] (clinitS ⟨#[109,97,105,110]⟩) := mP.grow _ _ _ _ _ _ (show mP (fun b => P0.drew.heap.size <= b) wx [.string (clinitS ⟨#[109,97,105,110]⟩).name,.slice pp np cp,.int .i64 (clinitS ⟨#[109,97,105,110]⟩).ret.1,.string (clinitS ⟨#[109,97,105,110]⟩).ret.2,.bool (clinitS ⟨#[109,97,105,110]⟩).st,.bool (clinitS ⟨#[109,97,105,110]⟩).ab,.int .i64 (clinitS ⟨#[109,97,105,110]⟩).locals,.slice pc nc cc,.slice ph nh ch] (clinitS ⟨#[109,97,105,110]⟩) from ⟨_,_,_,rfl,g1,g2,g3⟩) (fun b hb _ => hCx.okNew hBx.size b hb) (fun _ _ _ => rfl) (Nat.le_refl _); have hm := hid hm0; clear g1 g2 g3 hm0; replace hBx := hBx.trans (hbx.mono hBx.size); replace hCx := hCx.below hbx; clear hbx; obtain ⟨t1,t2,t3⟩ := hCx.cells; obtain ⟨rX,hsrc0,hCc,hBc,hmX0,hbl⟩ := hCx.ready hBx.size _ (clinitS ⟨#[109,97,105,110]⟩) hm.out #[.string (clinitS ⟨#[109,97,105,110]⟩).name,.slice pp np cp,.int .i64 (clinitS ⟨#[109,97,105,110]⟩).ret.1,.string (clinitS ⟨#[109,97,105,110]⟩).ret.2,.bool (clinitS ⟨#[109,97,105,110]⟩).st,.bool (clinitS ⟨#[109,97,105,110]⟩).ab,.int .i64 (clinitS ⟨#[109,97,105,110]⟩).locals,.slice pc nc cc,.slice ph nh ch] rfl; have hsrc := hid hsrc0; have hmX := hid hmX0; have HBX2 := hid (hBx.trans hbl); clear hsrc0 hmX0 hbl; obtain ⟨d1,d2,d3⟩ := hCc.cells))
     all_goals
      go_wp2_with fail
      go_meet
      refine ⟨_,_,_,_,?_,by rw [HW.out]; exact HC5.out,HBX2.out.trans HB5.out⟩
      rw [List.length_append]
      simp only [List.length_cons,List.length_nil]
      omega
    | false =>
     have HW : Hid (whenS (bitS k2 0) [clinitS ⟨#[109,97,105,110]⟩] = []) := hid (by unfold whenS; rw [<- HV.out]; rfl)
     go_wp2_with fail
     go_meet
     exact ⟨_,_,_,_,Nat.le_succ_of_le hlo,by rw [HW.out,List.append_nil]; exact HC.out,HB.out⟩
   case rest =>
    clear HC HB hlo
    obtain ⟨p,n,c,rs,hlo,hC,hB⟩ := hcut
    rename World => P1
    have HC := hid hC
    have HB := hid hB
    clear hC hB
    have ZB1 := hid (show wK.heap.size <= wK.heap.size from HBS.out.size)
    have HZ1 := hid (show w.heap.size <= wK.heap.size by have := HBS.out.size; omega)
    have HD1 := HC
    replace HBS := hid (HBS.out.trans (HB.out.mono HBS.out.size))
    clear HB HC hlo
    go_upto_region 6 with fail
    go_cut [12] from 50 to 53 (fun s wx => ∃ tb2 gM r,s = .pointer (some ⟨tb2,0,none⟩) /\ ClB wx P1.heap.size tb2 (.slice none 0 0) (.slice none 0 0) (.slice (some ⟨gM,0,none⟩) 1 1) [r] ⟨⟨#[73]⟩,⟨#[79,98,106,101,99,116]⟩,[],4,[],[absS]⟩ /\ Below P1.heap.size P1 wx)
    case first =>
     go_wp2_with fail
     refine (typ_v _ _).mono ?_
     rintro e wa ⟨rfl,hba⟩
     go_wp2_with fail
     go_meet
     have hm1 : mP (fun b => P1.heap.size <= b) wa [.string ⟨#[114,117,110]⟩,.slice none 0 0,.int .i64 1,.string ⟨#[]⟩,.bool false,.bool true,.int .i64 0,.slice none 0 0,.slice none 0 0] absS := ⟨_,_,_,rfl,RdX.nil _ _ _ _,RdX.nil _ _ _ _,RdX.nil _ _ _ _⟩
     have hsz := hba.size
     obtain ⟨y1,y2⟩ := ClB.make (n := ⟨#[73]⟩) (s := ⟨#[79,98,106,101,99,116]⟩) (k := 4) (is := []) (fs := []) (ms := [absS]) (tb := wa.heap.size + 1) (by simp) (Nat.le_trans hba.size (below_alM wa _).size) (RdX.nil _ _ _ _) (RdX.nil _ _ _ _) ((OwnX.lits rawC_len wa [(⟨_,shape_mth _ _ _ _ hm1⟩ : Raw 9)] _ rfl 1 rfl (by decide)).mono (sP.grow _) hba.size) ⟨mP.grow _ _ _ _ _ _ hm1 (fun b hb hl => ⟨hb,by simp [Value.ownBlock]; omega⟩) (.of_below (below_alM wa _)) (below_alM wa _).size,trivial⟩
     exact ⟨_,_,_,rfl,y1,(hba.trans ((below_alM wa _).mono hba.size)).trans y2⟩
    case rest =>
     obtain ⟨tb2,gM2,r2,rfl,hC,hB⟩ := hcut
     rename World => P2
     have HC := hid hC
     have HB := hid hB
     clear hC hB
     have hlo : True := trivial
     have ZB2 := hid (show wK.heap.size <= P1.heap.size from HBS.out.size)
     replace HD1 := hid (HD1.out.below HB.out)
     have HZ2 := hid (show w.heap.size <= P1.heap.size by have := HBS.out.size; omega)
     have HD2 := HC
     replace HBS := hid (HBS.out.trans (HB.out.mono HBS.out.size))
     clear HB HC hlo
     go_upto_region 7 with fail
     go_cut [13] from 54 to 55 (fun s wx => ∃ tb3 gI3,s = .pointer (some ⟨tb3,0,none⟩) /\ ClB wx P2.heap.size tb3 (.slice (some ⟨gI3,0,none⟩) 1 1) (.slice none 0 0) (.slice none 0 0) [] ⟨⟨#[74]⟩,⟨#[79,98,106,101,99,116]⟩,[⟨#[73]⟩],4,[],[]⟩ /\ Below P2.heap.size P2 wx)
     case first =>
      go_wp2_with fail
      go_meet
      have hI := rd_lit_next (c := strC) (sz := 1) (w := P2) (T := 9) (cs := #[.string ⟨#[73]⟩]) (Below.refl _ _) [⟨#[73]⟩] rfl (fun _ => rfl) (fun b => P2.heap.size <= b /\ (Value.slice none 0 0).ownBlock ≠ some b) ⟨Nat.le_refl _,by simp [Value.ownBlock]⟩ 1 rfl
      obtain ⟨y1,y2⟩ := ClB.make (n := ⟨#[74]⟩) (s := ⟨#[79,98,106,101,99,116]⟩) (k := 4) (fs := []) (ms := []) (tb := P2.heap.size + 1) (by simp) (below_alM P2 _).size hI (RdX.nil _ _ _ _) (OwnX.nil _ _ _ _ _) trivial
      exact ⟨_,_,rfl,y1,(below_alM P2 _).trans y2⟩
     case rest =>
      obtain ⟨tb3,gI3,rfl,hC,hB⟩ := hcut
      rename World => P4
      have HC := hid hC
      have HB := hid hB
      clear hC hB
      go_upto_region 8 with fail
      go_cut [59] from 56 to 59 (fun s wx => ∃ bv : Bool,s = .bool bv /\ bv = bitS k2 1 /\ wx = P4)
      case first =>
       obtain ⟨-,hkc,-⟩ := boxN (((HBS.out.trans (HB.out.mono HBS.out.size)).block _ hltK).trans HXK.out)
       have hk0 := hkc 2 _ rfl
       simp only [Nat.zero_add] at hk0
       clear hkc
       by_cases hb : k2 / 2 ^ 1 % 2 = 1
       ·have hbb : bits BinOp.and IntKind.u8 (k2 : Int) 2 = 2 := by have := bit_at h2 1 (by decide); rw [if_pos hb] at this; exact this
        have HW := hid (show true = bitS k2 1 by unfold bitS; rw [decide_eq_true hb])
        clear hb
        go_wp2_with fail
        go_meet
        exact ⟨_,rfl,HW.out,rfl⟩
       ·have hbb : bits BinOp.and IntKind.u8 (k2 : Int) 2 = 0 := by have := bit_at h2 1 (by decide); rw [if_neg hb] at this; exact this
        have HW := hid (show false = bitS k2 1 by unfold bitS; rw [decide_eq_false hb])
        clear hb
        go_wp2_with fail
        go_meet
        exact ⟨_,rfl,HW.out,rfl⟩
      case rest =>
       obtain ⟨bv,rfl,hbv,rfl⟩ := hcut
       rename World => P4
       have HV := hid hbv
       clear hbv
       go_upto_if 59 with fail
       go_cut [] from 60 to 63 (fun wx => ∃ p n c rs,ClB wx P2.heap.size tb3 (.slice (some ⟨gI3,0,none⟩) 1 1) (.slice none 0 0) (.slice p n c) rs ⟨⟨#[74]⟩,⟨#[79,98,106,101,99,116]⟩,[⟨#[73]⟩],4,[],whenS (bitS k2 1) [absS]⟩ /\ Below P2.heap.size P2 wx)
       case first =>
        cases bv with
        | true =>
         have HW : Hid (whenS (bitS k2 1) [absS] = [absS]) := hid (by unfold whenS; rw [<- HV.out]; rfl)
         go_wp2_with fail
         refine (typ_v _ _).mono ?_
         rintro e wa ⟨rfl,hbb⟩
         replace HC := hid (HC.out.below hbb)
         replace HB := hid (HB.out.trans (hbb.mono HB.out.size))
         clear hbb
         obtain ⟨q1,q2,q3⟩ := HC.out.cells
         go_wp2_with fail
         go_meet
         have hm1 : mP (okT P2.heap.size tb3 (.slice none 0 0)) wa [.string ⟨#[114,117,110]⟩,.slice none 0 0,.int .i64 1,.string ⟨#[]⟩,.bool false,.bool true,.int .i64 0,.slice none 0 0,.slice none 0 0] absS := ⟨_,_,_,rfl,RdX.nil _ _ _ _,RdX.nil _ _ _ _,RdX.nil _ _ _ _⟩
         obtain ⟨y1,y2⟩ := HC.out.lits HB.out.size (rs := [(⟨_,shape_mth _ _ _ _ hm1⟩ : Raw 9)]) (ms := [absS]) ⟨hm1,trivial⟩ _ rfl 1 rfl (by decide)
         exact ⟨_,_,_,_,by rw [HW.out]; exact y1,HB.out.trans y2⟩
        | false =>
         have HW : Hid (whenS (bitS k2 1) [absS] = []) := hid (by unfold whenS; rw [<- HV.out]; rfl)
         go_wp2_with fail
         go_meet
         exact ⟨_,_,_,_,by rw [HW.out]; exact HC.out,HB.out⟩
       case rest =>
        clear HC HB
        obtain ⟨p,n,c,rs,hC,hB⟩ := hcut
        rename World => P5
        have HC := hid hC
        have HB := hid hB
        clear hC hB
        have hlo : True := trivial
        have ZB3 := hid (show wK.heap.size <= P2.heap.size from HBS.out.size)
        replace HD1 := hid (HD1.out.below HB.out)
        replace HD2 := hid (HD2.out.below HB.out)
        have HZ3 := hid (show w.heap.size <= P2.heap.size by have := HBS.out.size; omega)
        have HD3 := HC
        replace HBS := hid (HBS.out.trans (HB.out.mono HBS.out.size))
        clear HB HC hlo
        go_upto_region 10 with fail
        go_cut [14] from 64 to 70 (fun s wx => ∃ tb4,s = .pointer (some ⟨tb4,0,none⟩) /\ ClB wx P5.heap.size tb4 (.slice none 0 0) (.slice none 0 0) (.slice none 0 0) [] ⟨⟨#[69,114,114]⟩,⟨#[70,97,117,108,116]⟩,[],1,[],[]⟩ /\ Below P5.heap.size P5 wx)
        case first =>
         obtain ⟨-,hkc,-⟩ := boxN ((HBS.out.block _ hltK).trans HXK.out)
         have hk0 := hkc 3 _ rfl
         simp only [Nat.zero_add] at hk0
         clear hkc
         obtain ⟨-,hkc,-⟩ := boxN ((((HBS.out.trans ((below_alM P5 (.cells #[.int .i64 1,.int .i64 1,.int .i64 1] 3)).mono HBS.out.size)).block _ hltK).trans HXK.out))
         have hk1 := hkc 3 _ rfl
         simp only [Nat.zero_add] at hk1
         clear hkc
         rcases (show (k3 : Int) % 3 = 0 ∨ (k3 : Int) % 3 = 1 ∨ (k3 : Int) % 3 = 2 by omega) with hi | hi | hi
         all_goals
          go_wp2_with fail
          go_meet
          obtain ⟨y1,y2⟩ := ClB.make (n := ⟨#[69,114,114]⟩) (s := ⟨#[70,97,117,108,116]⟩) (k := 1) (is := []) (fs := []) (ms := []) (w := P5.alloc (.cells #[.int .i64 1,.int .i64 1,.int .i64 1] 3)) (tb := P5.heap.size + 1) (by simp) (below_alM P5 _).size (RdX.nil _ _ _ _) (RdX.nil _ _ _ _) (OwnX.nil _ _ _ _ _) trivial
          exact ⟨_,rfl,y1,(below_alM P5 _).trans y2⟩
        case rest =>
         obtain ⟨tb4,rfl,hC,hB⟩ := hcut
         rename World => P6
         have HC := hid hC
         have HB := hid hB
         clear hC hB
         have hlo : True := trivial
         have ZB4 := hid (show wK.heap.size <= P5.heap.size from HBS.out.size)
         replace HD1 := hid (HD1.out.below HB.out)
         replace HD2 := hid (HD2.out.below HB.out)
         replace HD3 := hid (HD3.out.below HB.out)
         have HZ4 := hid (show w.heap.size <= P5.heap.size by have := HBS.out.size; omega)
         have HD4 := HC
         replace HBS := hid (HBS.out.trans (HB.out.mono HBS.out.size))
         clear HB HC hlo
         go_upto_region 11 with fail
         go_cut [15] from 71 to 71 (fun s wx => ∃ tb5,s = .pointer (some ⟨tb5,0,none⟩) /\ ClB wx P6.heap.size tb5 (.slice none 0 0) (.slice none 0 0) (.slice none 0 0) [] ⟨⟨#[69,114,114,50]⟩,⟨#[69,114,114]⟩,[],1,[],[]⟩ /\ Below P6.heap.size P6 wx)
         case first =>
          go_wp2_with fail
          go_meet
          obtain ⟨y1,y2⟩ := ClB.make (n := ⟨#[69,114,114,50]⟩) (s := ⟨#[69,114,114]⟩) (k := 1) (is := []) (fs := []) (ms := []) (w := P6) (tb := P6.heap.size) rfl (Nat.le_refl _) (RdX.nil _ _ _ _) (RdX.nil _ _ _ _) (OwnX.nil _ _ _ _ _) trivial
          exact ⟨_,rfl,y1,y2⟩
         case rest =>
          obtain ⟨tb5,rfl,hC,hB⟩ := hcut
          rename World => P7
          have HC := hid hC
          have HB := hid hB
          clear hC hB
          have hlo : True := trivial
          have ZB5 := hid (show wK.heap.size <= P6.heap.size from HBS.out.size)
          replace HD1 := hid (HD1.out.below HB.out)
          replace HD2 := hid (HD2.out.below HB.out)
          replace HD3 := hid (HD3.out.below HB.out)
          replace HD4 := hid (HD4.out.below HB.out)
          have HZ5 := hid (show w.heap.size <= P6.heap.size by have := HBS.out.size; omega)
          have HD5 := HC
          replace HBS := hid (HBS.out.trans (HB.out.mono HBS.out.size))
          clear HB HC hlo
          go_upto_region 12 with fail
          go_cut [16] from 72 to 82 (fun s wx => ∃ tb6 gM6 r6,s = .pointer (some ⟨tb6,0,none⟩) /\ ClB wx P7.heap.size tb6 (.slice none 0 0) (.slice none 0 0) (.slice (some ⟨gM6,0,none⟩) 1 1) [r6] ⟨⟨#[71,111,110,101]⟩,⟨#[65]⟩,[],1,[],[mthS ⟨#[102]⟩ [tI] tI true 1 [iOf 25 ⟨#[71,111,110,101]⟩,iOne 6,iAt 4 0,iOne 39]]⟩ /\ Below P7.heap.size P7 wx)
          case first =>
           go_wp2_with fail
           refine (typ_v _ _).mono ?_
           rintro e wa ⟨rfl,hba⟩
           have HB := hid hba
           clear hba
           go_wp2_with fail
           refine (typ_v _ _).mono ?_
           rintro e wb ⟨rfl,hbb⟩
           have HT := hid (rd_lit_next (c := tyC) (sz := 2) hbb [tI] rfl tyC_len (fun b => P7.heap.size <= b) HB.out.size 1 rfl)
           have hbx := (below_alM wa _).trans (hbb.mono (below_alM wa _).size)
           replace HB := hid (HB.out.trans (hbx.mono HB.out.size))
           clear hbb hbx
           go_wp2_with fail
           refine (of_x _ _ _).mono ?_
           rintro e wz0 ⟨rfl,hbb⟩
           replace HT := hid (HT.out.any (sP.grow _) hbb)
           replace HB := hid (HB.out.trans (hbb.mono HB.out.size))
           clear hbb
           go_wp2_with fail
           refine (one_x _ _).mono ?_
           rintro e wz1 ⟨rfl,hbb⟩
           replace HT := hid (HT.out.any (sP.grow _) hbb)
           replace HB := hid (HB.out.trans (hbb.mono HB.out.size))
           clear hbb
           go_wp2_with fail
           refine (at_x _ _ _).mono ?_
           rintro e wz2 ⟨rfl,hbb⟩
           replace HT := hid (HT.out.any (sP.grow _) hbb)
           replace HB := hid (HB.out.trans (hbb.mono HB.out.size))
           clear hbb
           go_wp2_with fail
           refine (one_x _ _).mono ?_
           rintro e wz3 ⟨rfl,hbb⟩
           replace HT := hid (HT.out.any (sP.grow _) hbb)
           replace HB := hid (HB.out.trans (hbb.mono HB.out.size))
           clear hbb
           go_wp2_with fail
           refine (method_v _ (some ⟨wa.heap.size,0,none⟩) _ 1 1 _ _ _ _ _ _ _).mono ?_
           rintro e wm ⟨rfl,hbm⟩
           have HQ := hid (rd_lit_next (c := insC) hbm [iOf 25 ⟨#[71,111,110,101]⟩,iOne 6,iAt 4 0,iOne 39] rfl insC_len (fun b => P7.heap.size <= b) HB.out.size 4 rfl)
           have hbx := (below_alM wz3 _).trans (hbm.mono (below_alM wz3 _).size)
           replace HT := hid (HT.out.any (sP.grow _) hbx)
           replace HB := hid (HB.out.trans (hbx.mono HB.out.size))
           clear hbx hbm
           go_wp2_with fail
           go_meet
           have hm1 : mP (fun b => P7.heap.size <= b) wm [.string ⟨#[102]⟩,.slice (some ⟨wa.heap.size,0,none⟩) 1 1,.int .i64 1,.string ⟨#[]⟩,.bool true,.bool false,.int .i64 1,.slice (some ⟨wz3.heap.size,0,none⟩) 4 4,.slice none 0 0] (mthS ⟨#[102]⟩ [tI] tI true 1 [iOf 25 ⟨#[71,111,110,101]⟩,iOne 6,iAt 4 0,iOne 39]) := ⟨_,_,_,rfl,HT.out,HQ.out,RdX.nil _ _ _ _⟩
           obtain ⟨y1,y2⟩ := ClB.make (n := ⟨#[71,111,110,101]⟩) (s := ⟨#[65]⟩) (k := 1) (is := []) (fs := []) (ms := [mthS ⟨#[102]⟩ [tI] tI true 1 [iOf 25 ⟨#[71,111,110,101]⟩,iOne 6,iAt 4 0,iOne 39]]) (tb := wm.heap.size + 1) (by simp) (Nat.le_trans HB.out.size (below_alM wm _).size) (RdX.nil _ _ _ _) (RdX.nil _ _ _ _) ((OwnX.lits rawC_len wm [(⟨_,shape_mth _ _ _ _ hm1⟩ : Raw 9)] _ rfl 1 rfl (by decide)).mono (sP.grow _) HB.out.size) ⟨mP.grow _ _ _ _ _ _ hm1 (fun b hb hl => ⟨hb,by simp [Value.ownBlock]; omega⟩) (.of_below (below_alM wm _)) (below_alM wm _).size,trivial⟩
           exact ⟨_,_,_,rfl,y1,(HB.out.trans ((below_alM wm _).mono HB.out.size)).trans y2⟩
          case rest =>
           obtain ⟨tb6,gM6,r6,rfl,hC,hB⟩ := hcut
           rename World => P8
           have HC := hid hC
           have HB := hid hB
           clear hC hB
           have hlo : True := trivial
           have ZB6 := hid (show wK.heap.size <= P7.heap.size from HBS.out.size)
           replace HD1 := hid (HD1.out.below HB.out)
           replace HD2 := hid (HD2.out.below HB.out)
           replace HD3 := hid (HD3.out.below HB.out)
           replace HD4 := hid (HD4.out.below HB.out)
           replace HD5 := hid (HD5.out.below HB.out)
           have HZ6 := hid (show w.heap.size <= P7.heap.size by have := HBS.out.size; omega)
           have HD6 := HC
           replace HBS := hid (HBS.out.trans (HB.out.mono HBS.out.size))
           clear HB HC hlo
           obtain ⟨pm,nm,cm,hv1⟩ := HD1.out.2.2.2.2.1.slice
           rw [hv1] at HD1
           clear hv1
           obtain ⟨pj,nj,cj,hv1⟩ := HD3.out.2.2.2.2.1.slice
           rw [hv1] at HD3
           clear hv1
           obtain ⟨rM,erM⟩ : ∃ r : Raw 6,rawC r = [.string ⟨#[77,97,105,110]⟩,.string ⟨#[79,98,106,101,99,116]⟩,.slice none 0 0,.int .i64 1,.slice none 0 0,.slice pm nm cm] := ⟨⟨_,shape_cls _ _ _ _ HD1.out.done⟩,rfl⟩
           have ErM := hid erM
           clear erM
           obtain ⟨rI,erI⟩ : ∃ r : Raw 6,rawC r = [.string ⟨#[73]⟩,.string ⟨#[79,98,106,101,99,116]⟩,.slice none 0 0,.int .i64 4,.slice none 0 0,.slice (some ⟨gM2,0,none⟩) 1 1] := ⟨⟨_,shape_cls _ _ _ _ HD2.out.done⟩,rfl⟩
           have ErI := hid erI
           clear erI
           obtain ⟨rJ,erJ⟩ : ∃ r : Raw 6,rawC r = [.string ⟨#[74]⟩,.string ⟨#[79,98,106,101,99,116]⟩,.slice (some ⟨gI3,0,none⟩) 1 1,.int .i64 4,.slice none 0 0,.slice pj nj cj] := ⟨⟨_,shape_cls _ _ _ _ HD3.out.done⟩,rfl⟩
           have ErJ := hid erJ
           clear erJ
           obtain ⟨rE,erE⟩ : ∃ r : Raw 6,rawC r = [.string ⟨#[69,114,114]⟩,.string ⟨#[70,97,117,108,116]⟩,.slice none 0 0,.int .i64 1,.slice none 0 0,.slice none 0 0] := ⟨⟨_,shape_cls _ _ _ _ HD4.out.done⟩,rfl⟩
           have ErE := hid erE
           clear erE
           obtain ⟨rE2,erE2⟩ : ∃ r : Raw 6,rawC r = [.string ⟨#[69,114,114,50]⟩,.string ⟨#[69,114,114]⟩,.slice none 0 0,.int .i64 1,.slice none 0 0,.slice none 0 0] := ⟨⟨_,shape_cls _ _ _ _ HD5.out.done⟩,rfl⟩
           have ErE2 := hid erE2
           clear erE2
           obtain ⟨rG,erG⟩ : ∃ r : Raw 6,rawC r = [.string ⟨#[71,111,110,101]⟩,.string ⟨#[65]⟩,.slice none 0 0,.int .i64 1,.slice none 0 0,.slice (some ⟨gM6,0,none⟩) 1 1] := ⟨⟨_,shape_cls _ _ _ _ HD6.out.done⟩,rfl⟩
           have ErG := hid erG
           clear erG
           go_upto_region 13 with fail
           go_cut [17] from 83 to 90 (fun s wx => ∃ gb p n c rs6,s = .pointer (some ⟨gb,0,none⟩) /\ rs6.length <= 10 /\ P8.heap.size <= gb /\ (∀ x,(Value.slice p n c).ownBlock = some x -> P8.heap.size <= x) /\ ArB wx wK.heap.size gb (.slice p n c) ([rM,rI,rJ] ++ rs6) ([⟨⟨#[77,97,105,110]⟩,⟨#[79,98,106,101,99,116]⟩,[],1,[],[⟨⟨#[109,97,105,110]⟩,[],tV,true,false,6,BL.1,BL.2⟩,⟨⟨#[97,108,116]⟩,[],tV,true,false,6,BM.1,BM.2⟩] ++ whenS (bitS k2 0) [clinitS ⟨#[109,97,105,110]⟩]⟩,⟨⟨#[73]⟩,⟨#[79,98,106,101,99,116]⟩,[],4,[],[absS]⟩,⟨⟨#[74]⟩,⟨#[79,98,106,101,99,116]⟩,[⟨#[73]⟩],4,[],whenS (bitS k2 1) [absS]⟩] ++ familyS k0 k1 k2 k3) /\ Below P8.heap.size P8 wx)
           case first =>
            refine wp_region_grow (by kernel_rfl) 9 0 [83,84,85,86,87,88,89,90,17] [(11,.pointer (some ⟨tb,0,none⟩)),(12,.pointer (some ⟨tb2,0,none⟩)),(13,.pointer (some ⟨tb3,0,none⟩)),(3,.pointer (some ⟨w.heap.size,0,none⟩))] fxL fxC (fxF k0 k1 k2 k3 pm pj nm cm nj cj gM2 gI3 rM rI rJ) _ rfl (by kernel_rfl) (by intro x hx; simp only [List.mem_cons,List.not_mem_nil,or_false] at hx; rcases hx with rfl | rfl | rfl | rfl <;> rfl) (fx_mono k0 k1 k2 k3 pm pj nm cm nj cj gM2 gI3 rM rI rJ) (all9 ?_ ?_ ?_ ?_ ?_ ?_ ?_ ?_ ?_) ?_
            ·intro o ho g w2 hb hf hr hd
             simp only [List.getElem?_toArray,List.getElem?_cons_succ,List.getElem?_cons_zero,Option.some.injEq] at ho
             subst ho
             have x11 : evL [(11,.pointer (some ⟨tb,0,none⟩)),(12,.pointer (some ⟨tb2,0,none⟩)),(13,.pointer (some ⟨tb3,0,none⟩)),(3,.pointer (some ⟨w.heap.size,0,none⟩))] (fxL 0) g (.tmp 11) = .pointer (some ⟨tb,0,none⟩) := rfl
             have ec : ∀ v,evL [(11,.pointer (some ⟨tb,0,none⟩)),(12,.pointer (some ⟨tb2,0,none⟩)),(13,.pointer (some ⟨tb3,0,none⟩)),(3,.pointer (some ⟨w.heap.size,0,none⟩))] (fxL 0) g (.const v) = v := fun _ => rfl
             unfold Yld
             obtain ⟨-,hx,-⟩ := boxN (HD1.out.below ((below_drU P8).trans hb)).1
             have u0 := hx 0 _ rfl
             have u1 := hx 1 _ rfl
             have u2 := hx 2 _ rfl
             have u3 := hx 3 _ rfl
             have u4 := hx 4 _ rfl
             have u5 := hx 5 _ rfl
             simp only [Nat.zero_add] at u0 u1 u2 u3 u4 u5
             clear hx
             go_simp
             exact ⟨Below.refl _ _,rfl⟩
            ·intro o ho g w2 hb hf hr hd
             simp only [List.getElem?_toArray,List.getElem?_cons_succ,List.getElem?_cons_zero,Option.some.injEq] at ho
             subst ho
             have x12 : evL [(11,.pointer (some ⟨tb,0,none⟩)),(12,.pointer (some ⟨tb2,0,none⟩)),(13,.pointer (some ⟨tb3,0,none⟩)),(3,.pointer (some ⟨w.heap.size,0,none⟩))] (fxL 1) g (.tmp 12) = .pointer (some ⟨tb2,0,none⟩) := rfl
             have ec : ∀ v,evL [(11,.pointer (some ⟨tb,0,none⟩)),(12,.pointer (some ⟨tb2,0,none⟩)),(13,.pointer (some ⟨tb3,0,none⟩)),(3,.pointer (some ⟨w.heap.size,0,none⟩))] (fxL 1) g (.const v) = v := fun _ => rfl
             unfold Yld
             obtain ⟨-,hx,-⟩ := boxN (HD2.out.below ((below_drU P8).trans hb)).1
             have u0 := hx 0 _ rfl
             have u1 := hx 1 _ rfl
             have u2 := hx 2 _ rfl
             have u3 := hx 3 _ rfl
             have u4 := hx 4 _ rfl
             have u5 := hx 5 _ rfl
             simp only [Nat.zero_add] at u0 u1 u2 u3 u4 u5
             clear hx
             go_simp
             exact ⟨Below.refl _ _,rfl⟩
            ·intro o ho g w2 hb hf hr hd
             simp only [List.getElem?_toArray,List.getElem?_cons_succ,List.getElem?_cons_zero,Option.some.injEq] at ho
             subst ho
             have x13 : evL [(11,.pointer (some ⟨tb,0,none⟩)),(12,.pointer (some ⟨tb2,0,none⟩)),(13,.pointer (some ⟨tb3,0,none⟩)),(3,.pointer (some ⟨w.heap.size,0,none⟩))] (fxL 2) g (.tmp 13) = .pointer (some ⟨tb3,0,none⟩) := rfl
             have ec : ∀ v,evL [(11,.pointer (some ⟨tb,0,none⟩)),(12,.pointer (some ⟨tb2,0,none⟩)),(13,.pointer (some ⟨tb3,0,none⟩)),(3,.pointer (some ⟨w.heap.size,0,none⟩))] (fxL 2) g (.const v) = v := fun _ => rfl
             unfold Yld
             obtain ⟨-,hx,-⟩ := boxN (HD3.out.below ((below_drU P8).trans hb)).1
             have u0 := hx 0 _ rfl
             have u1 := hx 1 _ rfl
             have u2 := hx 2 _ rfl
             have u3 := hx 3 _ rfl
             have u4 := hx 4 _ rfl
             have u5 := hx 5 _ rfl
             simp only [Nat.zero_add] at u0 u1 u2 u3 u4 u5
             clear hx
             go_simp
             exact ⟨Below.refl _ _,rfl⟩
            ·intro o ho g w2 hb hf hr hd
             simp only [List.getElem?_toArray,List.getElem?_cons_succ,List.getElem?_cons_zero,Option.some.injEq] at ho
             subst ho
             have f0 := hf 0 (by decide) (by rfl)
             replace f0 : (g 0).1 = .agg #[.string ⟨#[77,97,105,110]⟩,.string ⟨#[79,98,106,101,99,116]⟩,.slice none 0 0,.int .i64 1,.slice none 0 0,.slice pm nm cm] := f0
             have f1 := hf 1 (by decide) (by rfl)
             replace f1 : (g 1).1 = .agg #[.string ⟨#[73]⟩,.string ⟨#[79,98,106,101,99,116]⟩,.slice none 0 0,.int .i64 4,.slice none 0 0,.slice (some ⟨gM2,0,none⟩) 1 1] := f1
             have f2 := hf 2 (by decide) (by rfl)
             replace f2 : (g 2).1 = .agg #[.string ⟨#[74]⟩,.string ⟨#[79,98,106,101,99,116]⟩,.slice (some ⟨gI3,0,none⟩) 1 1,.int .i64 4,.slice none 0 0,.slice pj nj cj] := f2
             have e0 : evL [(11,.pointer (some ⟨tb,0,none⟩)),(12,.pointer (some ⟨tb2,0,none⟩)),(13,.pointer (some ⟨tb3,0,none⟩)),(3,.pointer (some ⟨w.heap.size,0,none⟩))] (fxL 3) g (.tmp 83) = (g 0).1 := rfl
             rw [f0] at e0
             have e1 : evL [(11,.pointer (some ⟨tb,0,none⟩)),(12,.pointer (some ⟨tb2,0,none⟩)),(13,.pointer (some ⟨tb3,0,none⟩)),(3,.pointer (some ⟨w.heap.size,0,none⟩))] (fxL 3) g (.tmp 84) = (g 1).1 := rfl
             rw [f1] at e1
             have e2 : evL [(11,.pointer (some ⟨tb,0,none⟩)),(12,.pointer (some ⟨tb2,0,none⟩)),(13,.pointer (some ⟨tb3,0,none⟩)),(3,.pointer (some ⟨w.heap.size,0,none⟩))] (fxL 3) g (.tmp 85) = (g 2).1 := rfl
             rw [f2] at e2
             have ec : ∀ v,evL [(11,.pointer (some ⟨tb,0,none⟩)),(12,.pointer (some ⟨tb2,0,none⟩)),(13,.pointer (some ⟨tb3,0,none⟩)),(3,.pointer (some ⟨w.heap.size,0,none⟩))] (fxL 3) g (.const v) = v := fun _ => rfl
             unfold Yld
             go_simp
             refine ⟨below_alM _ _,rfl,?_⟩
             refine (show RdX 6 (sP rawC) (inR (undef,w2.heap.size,w2.heap.size + 1)) (w2.alloc (.cells _ 42)) (.slice (some ⟨w2.heap.size,0,none⟩) 3 3) [rM,rI,rJ] from ?_)
             exact rd_lit_next (c := rawC) (Below.refl _ _) _ (by simp only [List.flatMap_cons,List.flatMap_nil,ErM.out,ErI.out,ErJ.out]; rfl) rawC_len _ ⟨Nat.le_refl _,by (show w2.heap.size < w2.heap.size + 1; omega)⟩ 3 rfl
            ·intro o ho g w2 hb hf hr hd
             simp only [List.getElem?_toArray,List.getElem?_cons_succ,List.getElem?_cons_zero,Option.some.injEq] at ho
             subst ho
             have x3 : evL [(11,.pointer (some ⟨tb,0,none⟩)),(12,.pointer (some ⟨tb2,0,none⟩)),(13,.pointer (some ⟨tb3,0,none⟩)),(3,.pointer (some ⟨w.heap.size,0,none⟩))] (fxL 4) g (.tmp 3) = .pointer (some ⟨w.heap.size,0,none⟩) := rfl
             have ec : ∀ v,evL [(11,.pointer (some ⟨tb,0,none⟩)),(12,.pointer (some ⟨tb2,0,none⟩)),(13,.pointer (some ⟨tb3,0,none⟩)),(3,.pointer (some ⟨w.heap.size,0,none⟩))] (fxL 4) g (.const v) = v := fun _ => rfl
             unfold Yld
             obtain ⟨-,hx,-⟩ := boxN (((HBS.out.trans ((below_drU _).mono HBS.out.size)).trans (hb.mono (by have := HBS.out.size; simpa using this)) |>.block _ hltK).trans HXK.out)
             have u0 := hx 0 _ rfl
             have u1 := hx 1 _ rfl
             have u2 := hx 2 _ rfl
             have u3 := hx 3 _ rfl
             simp only [Nat.zero_add] at u0 u1 u2 u3
             clear hx
             go_simp
             exact ⟨Below.refl _ _,rfl⟩
            ·intro o ho g w2 hb hf hr hd
             simp only [List.getElem?_toArray,List.getElem?_cons_succ,List.getElem?_cons_zero,Option.some.injEq] at ho
             subst ho
             have f4 := hf 4 (by decide) (by rfl)
             replace f4 : (g 4).1 = .agg #[.int .u8 (k0 : Int),.int .u8 (k1 : Int),.int .u8 (k2 : Int),.int .u8 (k3 : Int)] := f4
             have e4 : evL [(11,.pointer (some ⟨tb,0,none⟩)),(12,.pointer (some ⟨tb2,0,none⟩)),(13,.pointer (some ⟨tb3,0,none⟩)),(3,.pointer (some ⟨w.heap.size,0,none⟩))] (fxL 5) g (.tmp 87) = (g 4).1 := rfl
             rw [f4] at e4
             have ec : ∀ v,evL [(11,.pointer (some ⟨tb,0,none⟩)),(12,.pointer (some ⟨tb2,0,none⟩)),(13,.pointer (some ⟨tb3,0,none⟩)),(3,.pointer (some ⟨w.heap.size,0,none⟩))] (fxL 5) g (.const v) = v := fun _ => rfl
             unfold Yld
             go_simp
             refine (family_v k0 k1 k2 k3 _ h0 h1 h2 h3).mono ?_
             rintro e w' ⟨p,rfl,hr5,hbx⟩
             exact ⟨_,rfl,hbx,p,rfl,hr5.step cP.grow (fun b h1 h2 => ⟨h1,h2⟩) (fun _ _ _ => rfl) (Nat.le_refl _)⟩
            ·intro o ho g w2 hb hf hr hd
             simp only [List.getElem?_toArray,List.getElem?_cons_succ,List.getElem?_cons_zero,Option.some.injEq] at ho
             subst ho
             have f3 := hf 3 (by decide) (by rfl)
             replace f3 : (g 3).1 = .slice (some ⟨(g 3).2.1,0,none⟩) 3 3 /\ RdX 6 (sP rawC) (inR (g 3)) w2 (g 3).1 [rM,rI,rJ] := f3
             obtain ⟨f3,j3⟩ := f3
             rw [f3] at j3
             have f5 := hf 5 (by decide) (by rfl)
             replace f5 : ∃ p,(g 5).1 = .slice (some p) 6 6 /\ RdX 6 cP (inR (g 5)) w2 (g 5).1 (familyS k0 k1 k2 k3) := f5
             obtain ⟨p5,f5,j5⟩ := f5
             rw [f5] at j5
             have e3 : evL [(11,.pointer (some ⟨tb,0,none⟩)),(12,.pointer (some ⟨tb2,0,none⟩)),(13,.pointer (some ⟨tb3,0,none⟩)),(3,.pointer (some ⟨w.heap.size,0,none⟩))] (fxL 6) g (.tmp 86) = (g 3).1 := rfl
             rw [f3] at e3
             have e5 : evL [(11,.pointer (some ⟨tb,0,none⟩)),(12,.pointer (some ⟨tb2,0,none⟩)),(13,.pointer (some ⟨tb3,0,none⟩)),(3,.pointer (some ⟨w.heap.size,0,none⟩))] (fxL 6) g (.tmp 88) = (g 5).1 := rfl
             rw [f5] at e5
             have ec : ∀ v,evL [(11,.pointer (some ⟨tb,0,none⟩)),(12,.pointer (some ⟨tb2,0,none⟩)),(13,.pointer (some ⟨tb3,0,none⟩)),(3,.pointer (some ⟨w.heap.size,0,none⟩))] (fxL 6) g (.const v) = v := fun _ => rfl
             unfold Yld
             obtain ⟨b5,o5,hp5,-,-,-,-,-⟩ := j5.place (by unfold familyS; simp)
             simp only [Option.some.injEq] at hp5
             subst hp5
             obtain ⟨rs6,q1,q2⟩ := j5.unraw shape_cls
             obtain ⟨v',w',hrun,ho6,hb6⟩ := run_growR inf_cls w2 [rM,rI,rJ] rs6 (g 3).2.1 3 3 b5 o5 6 6 j3 q1 (by decide) (by decide) 26
             obtain ⟨p6,n6,c6,hv6⟩ := ho6.slice
             subst hv6
             unfold execOp
             simp only [resolve,invoke,builtin,Sem.run_bind,Sem.run_pure,Result.andThen_ok,List.map_toArray,List.map_cons,List.map_nil,e3,e5,hrun]
             exact ⟨hb6,p6,n6,c6,rs6,rfl,ho6,fun x e => (ho6.lt x e).2,q2.imp (fun r x h => cP.grow _ _ _ _ _ _ h (fun _ h _ => h) (.of_below hb6) hb6.size)⟩
            ·intro o ho g w2 hb hf hr hd
             simp only [List.getElem?_toArray,List.getElem?_cons_succ,List.getElem?_cons_zero,Option.some.injEq] at ho
             subst ho
             have f6 := hf 6 (by decide) (by rfl)
             replace f6 : ∃ p n c rs6,(g 6).1 = .slice p n c /\ OwnX 6 42 (sP rawC) w2 (g 6).2.1 (g 6).1 ([rM,rI,rJ] ++ rs6) /\ (∀ x,(g 6).1.ownBlock = some x -> x < (g 6).2.2) /\ All2 (fun r c => cP (inR (g 5)) w2 (rawC r) c) rs6 (familyS k0 k1 k2 k3) := f6
             obtain ⟨p6,n6,c6,rs6,f6,-,-,-⟩ := f6
             have e6 : evL [(11,.pointer (some ⟨tb,0,none⟩)),(12,.pointer (some ⟨tb2,0,none⟩)),(13,.pointer (some ⟨tb3,0,none⟩)),(3,.pointer (some ⟨w.heap.size,0,none⟩))] (fxL 7) g (.tmp 89) = (g 6).1 := rfl
             rw [f6] at e6
             have ec : ∀ v,evL [(11,.pointer (some ⟨tb,0,none⟩)),(12,.pointer (some ⟨tb2,0,none⟩)),(13,.pointer (some ⟨tb3,0,none⟩)),(3,.pointer (some ⟨w.heap.size,0,none⟩))] (fxL 7) g (.const v) = v := fun _ => rfl
             unfold Yld
             go_simp
             refine ⟨Below.refl _ _,?_⟩
             show _ = Value.agg #[(g 6).1]
             rw [f6]
             rfl
            ·intro o ho g w2 hb hf hr hd
             simp only [List.getElem?_toArray,List.getElem?_cons_succ,List.getElem?_cons_zero,Option.some.injEq] at ho
             subst ho
             have ec : ∀ v,evL [(11,.pointer (some ⟨tb,0,none⟩)),(12,.pointer (some ⟨tb2,0,none⟩)),(13,.pointer (some ⟨tb3,0,none⟩)),(3,.pointer (some ⟨w.heap.size,0,none⟩))] (fxL 8) g (.const v) = v := fun _ => rfl
             unfold Yld
             go_simp
             exact ⟨below_alM _ _,rfl,by (show w2.heap.size < w2.heap.size + 1; omega),heap_alloc_new _ _⟩
            ·intro fuel g w2 hb hf hr hd
             have f6 : ∃ p n c rs6,(g 6).1 = .slice p n c /\ OwnX 6 42 (sP rawC) w2 (g 6).2.1 (g 6).1 ([rM,rI,rJ] ++ rs6) /\ (∀ x,(g 6).1.ownBlock = some x -> x < (g 6).2.2) /\ All2 (fun r c => cP (inR (g 5)) w2 (rawC r) c) rs6 (familyS k0 k1 k2 k3) := hf 6 (by decide)
             have f7 : (g 7).1 = .agg #[(g 6).1] := hf 7 (by decide)
             have f8 : (g 8).1 = .pointer (some ⟨(g 8).2.1,0,none⟩) /\ (g 8).2.1 < (g 8).2.2 /\ w2.heap[(g 8).2.1]? = some (.cells #[.slice none 0 0] 28 (0,0)) := hf 8 (by decide)
             obtain ⟨p6,n6,c6,rs6,f6,ho6,hl6,ha6⟩ := f6
             obtain ⟨f8,a2,a3⟩ := f8
             rw [f6] at f7 ho6 hl6
             have q5 := hr 5 (by decide)
             have q6 := hr 6 (by decide)
             have q8 := hr 8 (by decide)
             have d56 := hd 5 6 (by decide) (by decide) (by decide)
             have d58 := hd 5 8 (by decide) (by decide) (by decide)
             have d68 := hd 6 8 (by decide) (by decide) (by decide)
             clear hf hr hd
             have HO := hid ho6
             have HL := hid hl6
             have HA6 := hid ha6
             clear ho6 hl6 ha6
             obtain ⟨g1,g2,g3⟩ := boxN a3
             have u0 := g2 0 _ rfl
             have z0 := g3 0
             simp only [Nat.zero_add] at u0
             clear g2 g3
             refine wpAny_of_held (S := fun _ => True) _ _ _ _ ?_
             refine rdH [9] ?_
             refine rcH (fun K hK => ?_) AllReadyH.nil
             simp only [fillT,f7,f8]
             try go_frame
             go_simp
             refine hK.out _ _ trivial (fun _ => ?_)
             clear hK K
             try go_frame
             refine wpAnyH_done (by kernel_rfl) ?_ _
             go_wp2_with fail
             go_meet
             have hsW := HBS.out.size
             have hsB : P8.heap.size <= w2.heap.size := by simpa using hb.size
             have HBD : Below P8.heap.size P8 w2 := (below_drU P8).trans hb
             have hown : ∀ x,(Value.slice p6 n6 c6).ownBlock = some x -> (g 6).2.1 <= x /\ x < (g 6).2.2 := fun x e => ⟨(HO.out.lt x e).1,HL.out x e⟩
             have hne : (Value.slice p6 n6 c6).ownBlock ≠ some (g 8).2.1 := fun e => by have := hown _ e; omega
             have okD : ∀ b,wK.heap.size <= b -> b < P8.heap.size -> okT wK.heap.size (g 8).2.1 (.slice p6 n6 c6) b := fun b h1 h2 => ⟨h1,by omega,fun e => by have := hown _ e; omega⟩
             have okF : ∀ b,inR (g 5) b -> okT wK.heap.size (g 8).2.1 (.slice p6 n6 c6) b := fun b h => by have h1 : (g 5).2.1 <= b := h.1; have h2 : b < (g 5).2.2 := h.2; exact ⟨by omega,by omega,fun e => by have := hown _ e; omega⟩
             have hall : All2 (fun r c => cP (okT wK.heap.size (g 8).2.1 (.slice p6 n6 c6)) w2 (rawC r) c) ([rM,rI,rJ] ++ rs6) ([⟨⟨#[77,97,105,110]⟩,⟨#[79,98,106,101,99,116]⟩,[],1,[],[⟨⟨#[109,97,105,110]⟩,[],tV,true,false,6,BL.1,BL.2⟩,⟨⟨#[97,108,116]⟩,[],tV,true,false,6,BM.1,BM.2⟩] ++ whenS (bitS k2 0) [clinitS ⟨#[109,97,105,110]⟩]⟩,⟨⟨#[73]⟩,⟨#[79,98,106,101,99,116]⟩,[],4,[],[absS]⟩,⟨⟨#[74]⟩,⟨#[79,98,106,101,99,116]⟩,[⟨#[73]⟩],4,[],whenS (bitS k2 1) [absS]⟩] ++ familyS k0 k1 k2 k3) := by
              refine All2.app (All2.cons ?_ (All2.cons ?_ (All2.cons ?_ All2.nil))) (HA6.out.imp (fun r x h => cP.grow _ _ _ _ _ _ h (fun b hb _ => okF b hb) (fun _ _ _ => rfl) (Nat.le_refl _)))
              ·rw [ErM.out]; exact cP.grow _ _ _ _ _ _ HD1.out.done (fun b h1 h2 => okD b (Nat.le_trans ZB1.out h1) h2) (.of_below HBD) HBD.size
              ·rw [ErI.out]; exact cP.grow _ _ _ _ _ _ HD2.out.done (fun b h1 h2 => okD b (Nat.le_trans ZB2.out h1) h2) (.of_below HBD) HBD.size
              ·rw [ErJ.out]; exact cP.grow _ _ _ _ _ _ HD3.out.done (fun b h1 h2 => okD b (Nat.le_trans ZB3.out h1) h2) (.of_below HBD) HBD.size
             obtain ⟨y1,y2⟩ := ArB.make (B := wK.heap.size) a3 (by omega) HO.out (by omega) hall hne
             have hl6 := HA6.out.len
             exact ⟨_,_,_,_,rs6,rfl,by rw [hl6]; unfold familyS; simp,by omega,fun x e => by have := hown x e; omega,y1,HBD.trans (Kpt.below y2 (fun x hx => by simp at hx; omega) hsB)⟩
           case rest =>
            obtain ⟨gb,p,n,c,rs6,rfl,hlo,hgb,hgv,hC,hB⟩ := hcut
            rename World => P9
            have HC := hid hC
            have HB := hid hB
            have HGV := hid hgv
            clear hC hB hgv
            go_upto_region 14 with fail
            go_cut [] from 91 to 101 (fun wx => ∃ p n c rs,rs.length = 13 /\ ArB wx wK.heap.size gb (.slice p n c) rs (([⟨⟨#[77,97,105,110]⟩,⟨#[79,98,106,101,99,116]⟩,[],1,[],[⟨⟨#[109,97,105,110]⟩,[],tV,true,false,6,BL.1,BL.2⟩,⟨⟨#[97,108,116]⟩,[],tV,true,false,6,BM.1,BM.2⟩] ++ whenS (bitS k2 0) [clinitS ⟨#[109,97,105,110]⟩]⟩,⟨⟨#[73]⟩,⟨#[79,98,106,101,99,116]⟩,[],4,[],[absS]⟩,⟨⟨#[74]⟩,⟨#[79,98,106,101,99,116]⟩,[⟨#[73]⟩],4,[],whenS (bitS k2 1) [absS]⟩] ++ familyS k0 k1 k2 k3) ++ [⟨⟨#[69,114,114]⟩,⟨#[70,97,117,108,116]⟩,[],1,[],[]⟩,⟨⟨#[69,114,114,50]⟩,⟨#[69,114,114]⟩,[],1,[],[]⟩,⟨⟨#[71,111,110,101]⟩,⟨#[65]⟩,[],1,[],[mthS ⟨#[102]⟩ [tI] tI true 1 [iOf 25 ⟨#[71,111,110,101]⟩,iOne 6,iAt 4 0,iOne 39]]⟩,utilS k3]) /\ Below wK.heap.size wK wx)
            case first =>
             refine wp_region_grow (by kernel_rfl) 9 2 [91,92,93,94,95,96,97,98,99] [(17,.pointer (some ⟨gb,0,none⟩)),(14,.pointer (some ⟨tb4,0,none⟩)),(15,.pointer (some ⟨tb5,0,none⟩)),(16,.pointer (some ⟨tb6,0,none⟩)),(3,.pointer (some ⟨w.heap.size,0,none⟩))] fyL fyC (fyF k3 w.heap.size gb gM6 n c p rE rE2 rG) _ rfl (by kernel_rfl) (by intro x hx; simp only [List.mem_cons,List.not_mem_nil,or_false] at hx; rcases hx with rfl | rfl | rfl | rfl | rfl <;> rfl) (fy_mono k3 w.heap.size gb gM6 n c p rE rE2 rG) (all9 ?_ ?_ ?_ ?_ ?_ ?_ ?_ ?_ ?_) ?_
             ·intro o ho g w2 hb hf hr hd
              simp only [List.getElem?_toArray,List.getElem?_cons_succ,List.getElem?_cons_zero,Option.some.injEq] at ho
              subst ho
              have x17 : evL [(17,.pointer (some ⟨gb,0,none⟩)),(14,.pointer (some ⟨tb4,0,none⟩)),(15,.pointer (some ⟨tb5,0,none⟩)),(16,.pointer (some ⟨tb6,0,none⟩)),(3,.pointer (some ⟨w.heap.size,0,none⟩))] (fyL 0) g (.tmp 17) = .pointer (some ⟨gb,0,none⟩) := rfl
              have ec : ∀ v,evL [(17,.pointer (some ⟨gb,0,none⟩)),(14,.pointer (some ⟨tb4,0,none⟩)),(15,.pointer (some ⟨tb5,0,none⟩)),(16,.pointer (some ⟨tb6,0,none⟩)),(3,.pointer (some ⟨w.heap.size,0,none⟩))] (fyL 0) g (.const v) = v := fun _ => rfl
              unfold Yld
              go_simp
              exact ⟨Below.refl _ _,rfl⟩
             ·intro o ho g w2 hb hf hr hd
              simp only [List.getElem?_toArray,List.getElem?_cons_succ,List.getElem?_cons_zero,Option.some.injEq] at ho
              subst ho
              have f0 := hf 0 (by decide) (by rfl)
              replace f0 : (g 0).1 = .pointer (some ⟨gb,0,none⟩) := f0
              have e0 : evL [(17,.pointer (some ⟨gb,0,none⟩)),(14,.pointer (some ⟨tb4,0,none⟩)),(15,.pointer (some ⟨tb5,0,none⟩)),(16,.pointer (some ⟨tb6,0,none⟩)),(3,.pointer (some ⟨w.heap.size,0,none⟩))] (fyL 1) g (.tmp 91) = (g 0).1 := rfl
              rw [f0] at e0
              have ec : ∀ v,evL [(17,.pointer (some ⟨gb,0,none⟩)),(14,.pointer (some ⟨tb4,0,none⟩)),(15,.pointer (some ⟨tb5,0,none⟩)),(16,.pointer (some ⟨tb6,0,none⟩)),(3,.pointer (some ⟨w.heap.size,0,none⟩))] (fyL 1) g (.const v) = v := fun _ => rfl
              unfold Yld
              obtain ⟨-,u0,-⟩ := (HC.out.below ((below_drU P9).trans hb)).cells
              go_simp
              exact ⟨Below.refl _ _,rfl⟩
             ·intro o ho g w2 hb hf hr hd
              simp only [List.getElem?_toArray,List.getElem?_cons_succ,List.getElem?_cons_zero,Option.some.injEq] at ho
              subst ho
              have x14 : evL [(17,.pointer (some ⟨gb,0,none⟩)),(14,.pointer (some ⟨tb4,0,none⟩)),(15,.pointer (some ⟨tb5,0,none⟩)),(16,.pointer (some ⟨tb6,0,none⟩)),(3,.pointer (some ⟨w.heap.size,0,none⟩))] (fyL 2) g (.tmp 14) = .pointer (some ⟨tb4,0,none⟩) := rfl
              have ec : ∀ v,evL [(17,.pointer (some ⟨gb,0,none⟩)),(14,.pointer (some ⟨tb4,0,none⟩)),(15,.pointer (some ⟨tb5,0,none⟩)),(16,.pointer (some ⟨tb6,0,none⟩)),(3,.pointer (some ⟨w.heap.size,0,none⟩))] (fyL 2) g (.const v) = v := fun _ => rfl
              unfold Yld
              obtain ⟨-,hx,-⟩ := boxN ((HD4.out.below HB.out).below ((below_drU P9).trans hb)).1
              have u0 := hx 0 _ rfl
              have u1 := hx 1 _ rfl
              have u2 := hx 2 _ rfl
              have u3 := hx 3 _ rfl
              have u4 := hx 4 _ rfl
              have u5 := hx 5 _ rfl
              simp only [Nat.zero_add] at u0 u1 u2 u3 u4 u5
              clear hx
              go_simp
              exact ⟨Below.refl _ _,rfl⟩
             ·intro o ho g w2 hb hf hr hd
              simp only [List.getElem?_toArray,List.getElem?_cons_succ,List.getElem?_cons_zero,Option.some.injEq] at ho
              subst ho
              have x15 : evL [(17,.pointer (some ⟨gb,0,none⟩)),(14,.pointer (some ⟨tb4,0,none⟩)),(15,.pointer (some ⟨tb5,0,none⟩)),(16,.pointer (some ⟨tb6,0,none⟩)),(3,.pointer (some ⟨w.heap.size,0,none⟩))] (fyL 3) g (.tmp 15) = .pointer (some ⟨tb5,0,none⟩) := rfl
              have ec : ∀ v,evL [(17,.pointer (some ⟨gb,0,none⟩)),(14,.pointer (some ⟨tb4,0,none⟩)),(15,.pointer (some ⟨tb5,0,none⟩)),(16,.pointer (some ⟨tb6,0,none⟩)),(3,.pointer (some ⟨w.heap.size,0,none⟩))] (fyL 3) g (.const v) = v := fun _ => rfl
              unfold Yld
              obtain ⟨-,hx,-⟩ := boxN ((HD5.out.below HB.out).below ((below_drU P9).trans hb)).1
              have u0 := hx 0 _ rfl
              have u1 := hx 1 _ rfl
              have u2 := hx 2 _ rfl
              have u3 := hx 3 _ rfl
              have u4 := hx 4 _ rfl
              have u5 := hx 5 _ rfl
              simp only [Nat.zero_add] at u0 u1 u2 u3 u4 u5
              clear hx
              go_simp
              exact ⟨Below.refl _ _,rfl⟩
             ·intro o ho g w2 hb hf hr hd
              simp only [List.getElem?_toArray,List.getElem?_cons_succ,List.getElem?_cons_zero,Option.some.injEq] at ho
              subst ho
              have x16 : evL [(17,.pointer (some ⟨gb,0,none⟩)),(14,.pointer (some ⟨tb4,0,none⟩)),(15,.pointer (some ⟨tb5,0,none⟩)),(16,.pointer (some ⟨tb6,0,none⟩)),(3,.pointer (some ⟨w.heap.size,0,none⟩))] (fyL 4) g (.tmp 16) = .pointer (some ⟨tb6,0,none⟩) := rfl
              have ec : ∀ v,evL [(17,.pointer (some ⟨gb,0,none⟩)),(14,.pointer (some ⟨tb4,0,none⟩)),(15,.pointer (some ⟨tb5,0,none⟩)),(16,.pointer (some ⟨tb6,0,none⟩)),(3,.pointer (some ⟨w.heap.size,0,none⟩))] (fyL 4) g (.const v) = v := fun _ => rfl
              unfold Yld
              obtain ⟨-,hx,-⟩ := boxN ((HD6.out.below HB.out).below ((below_drU P9).trans hb)).1
              have u0 := hx 0 _ rfl
              have u1 := hx 1 _ rfl
              have u2 := hx 2 _ rfl
              have u3 := hx 3 _ rfl
              have u4 := hx 4 _ rfl
              have u5 := hx 5 _ rfl
              simp only [Nat.zero_add] at u0 u1 u2 u3 u4 u5
              clear hx
              go_simp
              exact ⟨Below.refl _ _,rfl⟩
             ·intro o ho g w2 hb hf hr hd
              simp only [List.getElem?_toArray,List.getElem?_cons_succ,List.getElem?_cons_zero,Option.some.injEq] at ho
              subst ho
              have x3 : evL [(17,.pointer (some ⟨gb,0,none⟩)),(14,.pointer (some ⟨tb4,0,none⟩)),(15,.pointer (some ⟨tb5,0,none⟩)),(16,.pointer (some ⟨tb6,0,none⟩)),(3,.pointer (some ⟨w.heap.size,0,none⟩))] (fyL 5) g (.tmp 3) = .pointer (some ⟨w.heap.size,0,none⟩) := rfl
              have ec : ∀ v,evL [(17,.pointer (some ⟨gb,0,none⟩)),(14,.pointer (some ⟨tb4,0,none⟩)),(15,.pointer (some ⟨tb5,0,none⟩)),(16,.pointer (some ⟨tb6,0,none⟩)),(3,.pointer (some ⟨w.heap.size,0,none⟩))] (fyL 5) g (.const v) = v := fun _ => rfl
              unfold Yld
              go_simp
              exact ⟨Below.refl _ _,rfl⟩
             ·intro o ho g w2 hb hf hr hd
              simp only [List.getElem?_toArray,List.getElem?_cons_succ,List.getElem?_cons_zero,Option.some.injEq] at ho
              subst ho
              have f5 := hf 5 (by decide) (by rfl)
              replace f5 : (g 5).1 = .pointer (some ⟨w.heap.size,3,none⟩) := f5
              have e5 : evL [(17,.pointer (some ⟨gb,0,none⟩)),(14,.pointer (some ⟨tb4,0,none⟩)),(15,.pointer (some ⟨tb5,0,none⟩)),(16,.pointer (some ⟨tb6,0,none⟩)),(3,.pointer (some ⟨w.heap.size,0,none⟩))] (fyL 6) g (.tmp 96) = (g 5).1 := rfl
              rw [f5] at e5
              have ec : ∀ v,evL [(17,.pointer (some ⟨gb,0,none⟩)),(14,.pointer (some ⟨tb4,0,none⟩)),(15,.pointer (some ⟨tb5,0,none⟩)),(16,.pointer (some ⟨tb6,0,none⟩)),(3,.pointer (some ⟨w.heap.size,0,none⟩))] (fyL 6) g (.const v) = v := fun _ => rfl
              unfold Yld
              obtain ⟨-,hkc,-⟩ := boxN ((((HBS.out.trans (HB.out.mono HBS.out.size)).trans ((below_drU _).mono (Nat.le_trans HBS.out.size HB.out.size))).trans (hb.mono (Nat.le_trans HBS.out.size HB.out.size)) |>.block _ hltK).trans HXK.out)
              have hk0 := hkc 3 _ rfl
              simp only [Nat.zero_add] at hk0
              clear hkc
              go_simp
              exact ⟨Below.refl _ _,rfl⟩
             ·intro o ho g w2 hb hf hr hd
              simp only [List.getElem?_toArray,List.getElem?_cons_succ,List.getElem?_cons_zero,Option.some.injEq] at ho
              subst ho
              have f6 := hf 6 (by decide) (by rfl)
              replace f6 : .int .u8 (k3 : Int) = (g 6).1 := f6
              replace f6 := f6.symm
              have e6 : evL [(17,.pointer (some ⟨gb,0,none⟩)),(14,.pointer (some ⟨tb4,0,none⟩)),(15,.pointer (some ⟨tb5,0,none⟩)),(16,.pointer (some ⟨tb6,0,none⟩)),(3,.pointer (some ⟨w.heap.size,0,none⟩))] (fyL 7) g (.tmp 97) = (g 6).1 := rfl
              rw [f6] at e6
              have ec : ∀ v,evL [(17,.pointer (some ⟨gb,0,none⟩)),(14,.pointer (some ⟨tb4,0,none⟩)),(15,.pointer (some ⟨tb5,0,none⟩)),(16,.pointer (some ⟨tb6,0,none⟩)),(3,.pointer (some ⟨w.heap.size,0,none⟩))] (fyL 7) g (.const v) = v := fun _ => rfl
              unfold Yld
              go_simp
              refine (util_v k3 _ h3).mono ?_
              rintro e w' ⟨pi,ni,ci,pf,nf,cf,px,nx,cx,rfl,hc7,hbx⟩
              exact ⟨_,rfl,hbx,pi,ni,ci,pf,nf,cf,px,nx,cx,rfl,cP.grow _ _ _ _ _ _ hc7 (fun b h1 h2 => ⟨h1,h2⟩) (fun _ _ _ => rfl) (Nat.le_refl _)⟩
             ·intro o ho g w2 hb hf hr hd
              simp only [List.getElem?_toArray,List.getElem?_cons_succ,List.getElem?_cons_zero,Option.some.injEq] at ho
              subst ho
              have f2 := hf 2 (by decide) (by rfl)
              replace f2 : (g 2).1 = .agg #[.string ⟨#[69,114,114]⟩,.string ⟨#[70,97,117,108,116]⟩,.slice none 0 0,.int .i64 1,.slice none 0 0,.slice none 0 0] := f2
              have f3 := hf 3 (by decide) (by rfl)
              replace f3 : (g 3).1 = .agg #[.string ⟨#[69,114,114,50]⟩,.string ⟨#[69,114,114]⟩,.slice none 0 0,.int .i64 1,.slice none 0 0,.slice none 0 0] := f3
              have f4 := hf 4 (by decide) (by rfl)
              replace f4 : (g 4).1 = .agg #[.string ⟨#[71,111,110,101]⟩,.string ⟨#[65]⟩,.slice none 0 0,.int .i64 1,.slice none 0 0,.slice (some ⟨gM6,0,none⟩) 1 1] := f4
              have f7 := hf 7 (by decide) (by rfl)
              replace f7 : ∃ pi ni ci pf nf cf px nx cx,(g 7).1 = .agg #[.string (utilS k3).name,.string (utilS k3).super,.slice pi ni ci,.int .i64 (utilS k3).kind,.slice pf nf cf,.slice px nx cx] /\ cP (inR (g 7)) w2 [.string (utilS k3).name,.string (utilS k3).super,.slice pi ni ci,.int .i64 (utilS k3).kind,.slice pf nf cf,.slice px nx cx] (utilS k3) := f7
              obtain ⟨pi,ni,ci,pf,nf,cf,px,nx,cx,f7,j7⟩ := f7
              have e2 : evL [(17,.pointer (some ⟨gb,0,none⟩)),(14,.pointer (some ⟨tb4,0,none⟩)),(15,.pointer (some ⟨tb5,0,none⟩)),(16,.pointer (some ⟨tb6,0,none⟩)),(3,.pointer (some ⟨w.heap.size,0,none⟩))] (fyL 8) g (.tmp 93) = (g 2).1 := rfl
              rw [f2] at e2
              have e3 : evL [(17,.pointer (some ⟨gb,0,none⟩)),(14,.pointer (some ⟨tb4,0,none⟩)),(15,.pointer (some ⟨tb5,0,none⟩)),(16,.pointer (some ⟨tb6,0,none⟩)),(3,.pointer (some ⟨w.heap.size,0,none⟩))] (fyL 8) g (.tmp 94) = (g 3).1 := rfl
              rw [f3] at e3
              have e4 : evL [(17,.pointer (some ⟨gb,0,none⟩)),(14,.pointer (some ⟨tb4,0,none⟩)),(15,.pointer (some ⟨tb5,0,none⟩)),(16,.pointer (some ⟨tb6,0,none⟩)),(3,.pointer (some ⟨w.heap.size,0,none⟩))] (fyL 8) g (.tmp 95) = (g 4).1 := rfl
              rw [f4] at e4
              have e7 : evL [(17,.pointer (some ⟨gb,0,none⟩)),(14,.pointer (some ⟨tb4,0,none⟩)),(15,.pointer (some ⟨tb5,0,none⟩)),(16,.pointer (some ⟨tb6,0,none⟩)),(3,.pointer (some ⟨w.heap.size,0,none⟩))] (fyL 8) g (.tmp 98) = (g 7).1 := rfl
              rw [f7] at e7
              have ec : ∀ v,evL [(17,.pointer (some ⟨gb,0,none⟩)),(14,.pointer (some ⟨tb4,0,none⟩)),(15,.pointer (some ⟨tb5,0,none⟩)),(16,.pointer (some ⟨tb6,0,none⟩)),(3,.pointer (some ⟨w.heap.size,0,none⟩))] (fyL 8) g (.const v) = v := fun _ => rfl
              unfold Yld
              go_simp
              refine ⟨below_alM _ _,⟨_,shape_cls _ _ _ _ j7⟩,rfl,by (show w2.heap.size < w2.heap.size + 1; omega),?_,cP.grow _ _ _ _ _ _ j7 (fun _ h _ => h) (.of_below (below_alM w2 _)) (below_alM w2 _).size⟩
              refine (show RdX 6 (sP rawC) (inR (undef,w2.heap.size,w2.heap.size + 1)) (w2.alloc (.cells _ 42)) (.slice (some ⟨w2.heap.size,0,none⟩) 4 4) [rE,rE2,rG,_] from ?_)
              exact rd_lit_next (c := rawC) (Below.refl _ _) _ (by simp only [List.flatMap_cons,List.flatMap_nil,ErE.out,ErE2.out,ErG.out]; rfl) rawC_len _ ⟨Nat.le_refl _,by (show w2.heap.size < w2.heap.size + 1; omega)⟩ 4 rfl
             ·intro fuel g w2 hb hf hr hd
              have f1 : (g 1).1 = .slice p n c := hf 1 (by decide)
              have f8 : ∃ r,(g 8).1 = .slice (some ⟨(g 8).2.1,0,none⟩) 4 4 /\ (g 8).2.1 < (g 8).2.2 /\ RdX 6 (sP rawC) (inR (g 8)) w2 (g 8).1 [rE,rE2,rG,r] /\ cP (inR (g 7)) w2 (rawC r) (utilS k3) := hf 8 (by decide)
              obtain ⟨r,f8,l8,j8,m8⟩ := f8
              rw [f8] at j8
              have q7 := hr 7 (by decide)
              have q8 := hr 8 (by decide)
              have d78 := hd 7 8 (by decide) (by decide) (by decide)
              clear hf hr hd
              have hl6 := HC.out.2.2.2.1.len
              have HJ := hid (j8.step (ok' := anyB) (sP.grow _) (fun _ _ _ => trivial) (fun _ _ _ => rfl) (Nat.le_refl _))
              have HM := hid m8
              clear m8
              have hcw := HC.out.below ((below_drU P9).trans hb)
              obtain ⟨t1,t2,t3⟩ := hcw.cells
              have HBD : Below P8.heap.size P8 w2 := HB.out.trans (((below_drU P9).trans hb).mono HB.out.size)
              have hsz9 : P9.heap.size <= w2.heap.size := by simpa using hb.size
              have hs8 := HB.out.size
              have hsW := HBS.out.size
              have hglt := HC.out.lt
              have hall : All2 (fun r q => cP (okT wK.heap.size gb (.slice p n c)) w2 (rawC r) q) [rE,rE2,rG,r] [⟨⟨#[69,114,114]⟩,⟨#[70,97,117,108,116]⟩,[],1,[],[]⟩,⟨⟨#[69,114,114,50]⟩,⟨#[69,114,114]⟩,[],1,[],[]⟩,⟨⟨#[71,111,110,101]⟩,⟨#[65]⟩,[],1,[],[mthS ⟨#[102]⟩ [tI] tI true 1 [iOf 25 ⟨#[71,111,110,101]⟩,iOne 6,iAt 4 0,iOne 39]]⟩,utilS k3] := by
               have okD : ∀ b,wK.heap.size <= b -> b < P8.heap.size -> okT wK.heap.size gb (.slice p n c) b := fun b h1 h2 => ⟨h1,by omega,fun e => by have := HGV.out _ e; omega⟩
               have okU : ∀ b,inR (g 7) b -> okT wK.heap.size gb (.slice p n c) b := fun b h => by have h1 : (g 7).2.1 <= b := h.1; exact ⟨by omega,by omega,fun e => by have := (HC.out.2.2.1.lt _ e).2; omega⟩
               refine All2.cons ?_ (All2.cons ?_ (All2.cons ?_ (All2.cons (cP.grow _ _ _ _ _ _ HM.out (fun b hb _ => okU b hb) (fun _ _ _ => rfl) (Nat.le_refl _)) All2.nil)))
               ·rw [ErE.out]; exact cP.grow _ _ _ _ _ _ HD4.out.done (fun b h1 h2 => okD b (Nat.le_trans ZB4.out h1) h2) (.of_below HBD) HBD.size
               ·rw [ErE2.out]; exact cP.grow _ _ _ _ _ _ HD5.out.done (fun b h1 h2 => okD b (Nat.le_trans ZB5.out h1) h2) (.of_below HBD) HBD.size
               ·rw [ErG.out]; exact cP.grow _ _ _ _ _ _ HD6.out.done (fun b h1 h2 => okD b (Nat.le_trans ZB6.out h1) h2) (.of_below HBD) HBD.size
              have HALL := hid hall
              have HCW := hid hcw
              clear hall hcw
              refine wpAny_of_held (S := fun _ => True) _ _ _ _ ?_
              refine rdH [9] ?_
              refine rcH (fun K hK => ?_) AllReadyH.nil
              simp only [fillT,f1,f8]
              try go_frame
              rw [if_pos (by rfl)]
              refine oper_appM inf_cls (shape_raw 6) rfl _ _ rfl wK.heap.size _ ([rM,rI,rJ] ++ rs6) rfl HCW.out.2.2.1 _ 0 4 4 [rE,rE2,rG,r] rfl HJ.out (by simp; omega) (by omega) ?_
              intro v3 w3 ho3 hg3 hl3
              obtain ⟨s1,s2,s3,hA5,hB5⟩ := HCW.out.app (by omega) HALL.out ho3 hg3 hl3
              obtain ⟨pv,nv,cv,hv3⟩ := ho3.slice
              subst hv3
              have HA5 := hid hA5
              have HB5 := hid hB5
              clear hA5 hB5 ho3 hg3 hl3
              refine hK.out _ _ trivial (fun _ => ?_)
              clear hK K
              try go_frame
              refine rdH [10] ?_
              refine rcH (fun K hK => ?_) AllReadyH.nil
              go_simp
              refine hK.out _ _ trivial (fun _ => ?_)
              clear hK K
              try go_frame
              refine rdH [11] ?_
              refine rcH (fun K hK => ?_) AllReadyH.nil
              go_simp
              refine hK.out _ _ trivial (fun _ => ?_)
              clear hK K
              try go_frame
              refine wpAnyH_done (by kernel_rfl) ?_ _
              go_wp2_with fail
              go_meet
              have hlen := HA5.out.2.2.2.1.len
              exact ⟨_,_,_,_,by rw [hlen]; unfold familyS; simp,HA5.out,((HBS.out.trans (HB.out.mono HBS.out.size)).trans (((below_drU P9).trans hb).mono (Nat.le_trans HBS.out.size HB.out.size))).trans HB5.out⟩
            case rest =>
             obtain ⟨p,n,c,rs,hlen,hC,hB⟩ := hcut
             rename World => P10
             obtain ⟨CS,hCS⟩ : ∃ x,x = (([⟨⟨#[77,97,105,110]⟩,⟨#[79,98,106,101,99,116]⟩,[],1,[],[⟨⟨#[109,97,105,110]⟩,[],tV,true,false,6,BL.1,BL.2⟩,⟨⟨#[97,108,116]⟩,[],tV,true,false,6,BM.1,BM.2⟩] ++ whenS (bitS k2 0) [clinitS ⟨#[109,97,105,110]⟩]⟩,⟨⟨#[73]⟩,⟨#[79,98,106,101,99,116]⟩,[],4,[],[absS]⟩,⟨⟨#[74]⟩,⟨#[79,98,106,101,99,116]⟩,[⟨#[73]⟩],4,[],whenS (bitS k2 1) [absS]⟩] ++ familyS k0 k1 k2 k3) ++ [⟨⟨#[69,114,114]⟩,⟨#[70,97,117,108,116]⟩,[],1,[],[]⟩,⟨⟨#[69,114,114,50]⟩,⟨#[69,114,114]⟩,[],1,[],[]⟩,⟨⟨#[71,111,110,101]⟩,⟨#[65]⟩,[],1,[],[mthS ⟨#[102]⟩ [tI] tI true 1 [iOf 25 ⟨#[71,111,110,101]⟩,iOne 6,iAt 4 0,iOne 39]]⟩,utilS k3]) := ⟨_,rfl⟩
             rw [<- hCS] at hC
             have HCS := hid hCS
             have HLN := hid hlen
             clear hCS hlen HC HB HBS HD1 HD2 HD3 HD4 HD5 HD6 HGV ErM ErI ErJ ErE ErE2 ErG hgb hlo
             have HC := hid hC
             have HB := hid hB
             clear hC hB
             have HBS := hid (Below.refl wK.heap.size wK)
             go_upto_region 15 with fail
             go_cut [105] from 102 to 105 (fun s wx => ∃ bv : Bool,s = .bool bv /\ bv = bitS k2 2 /\ wx = P10)
             case first =>
              obtain ⟨-,hkc,-⟩ := boxN (((HBS.out.trans (HB.out.mono HBS.out.size)).block _ hltK).trans HXK.out)
              have hk0 := hkc 2 _ rfl
              simp only [Nat.zero_add] at hk0
              clear hkc
              by_cases hb : k2 / 2 ^ 2 % 2 = 1
              ·have hbb : bits BinOp.and IntKind.u8 (k2 : Int) 4 = 4 := by have := bit_at h2 2 (by decide); rw [if_pos hb] at this; exact this
               have HW := hid (show true = bitS k2 2 by unfold bitS; rw [decide_eq_true hb])
               clear hb
               go_wp2_with fail
               go_meet
               exact ⟨_,rfl,HW.out,rfl⟩
              ·have hbb : bits BinOp.and IntKind.u8 (k2 : Int) 4 = 0 := by have := bit_at h2 2 (by decide); rw [if_neg hb] at this; exact this
               have HW := hid (show false = bitS k2 2 by unfold bitS; rw [decide_eq_false hb])
               clear hb
               go_wp2_with fail
               go_meet
               exact ⟨_,rfl,HW.out,rfl⟩
             case rest =>
              obtain ⟨bv,rfl,hbv,rfl⟩ := hcut
              rename World => P10
              have HV := hid hbv
              clear hbv
              go_upto_if 105 with fail
              go_cut [18,19] from 106 to 136 (fun _ _ wx => ∃ p n c rs,ArB wx wK.heap.size gb (.slice p n c) rs (if bitS k2 2 = true then CS.reverse else CS) /\ Below wK.heap.size wK wx)
              case first =>
               cases bv with
               | true =>
                have HW : Hid ((if bitS k2 2 = true then CS.reverse else CS) = CS.reverse) := hid (by rw [<- HV.out]; rfl)
                obtain ⟨g,cap,hv,hcap,hBg,hglt⟩ := HC.out.2.2.1.row (by rw [HLN.out]; decide)
                rw [HLN.out] at hv hcap
                cases hv
                obtain ⟨t1,t2,t3⟩ := HC.out.cells
                go_wp2_with fail
                go_loopw [19] (fun v wr => ∃ (x : Nat) (rs' : List (Raw 6)),v = .int .i64 (x : Int) /\ x <= 6 /\ Hid (Prog x rs rs') /\ Hid (OwnX 6 42 (sP rawC) wr wK.heap.size (.slice (some ⟨g,0,none⟩) 13 c) rs') /\ Hid (Kpt [g] P10 wr)) (fun v _ => 6 - (intOf v).toNat)
                case atStart => exact ⟨0,rs,rfl,by omega,hid (.start HLN.out),hid HC.out.2.2.1,hid (Kpt.refl _ _)⟩
                case round =>
                 obtain ⟨x,rs',rfl,hx6,HP,HO,HK⟩ := hrel
                 by_cases hlt : x < 6
                 ·have hl13 := HP.out.1
                  obtain ⟨ra,hra⟩ : ∃ r,rs'[x]? = some r := ⟨_,List.getElem?_eq_getElem (by omega)⟩
                  obtain ⟨rb,hrb⟩ : ∃ r,rs'[12 - x]? = some r := ⟨_,List.getElem?_eq_getElem (by omega)⟩
                  have hqa := HP.out.2 x (by omega)
                  rw [if_neg (by omega),hra] at hqa
                  have hqb := HP.out.2 (12 - x) (by omega)
                  rw [if_neg (by omega),hrb] at hqb
                  obtain ⟨ua,sa,qa1,ma1,da1,ka,qa2,ma2,da2,qa3,ma3,da3,ea⟩ := cls_at HC.out.2.2.2.1 x ra hqa.symm
                  obtain ⟨ub,sb,qb1,mb1,db1,kb,qb2,mb2,db2,qb3,mb3,db3,eb⟩ := cls_at HC.out.2.2.2.1 (12 - x) rb hqb.symm
                  clear hqa hqb
                  obtain ⟨g',cap',hv',-,-,hgl,hfz,hca,-⟩ := HO.out.put6 hra ea
                  simp only [Value.slice.injEq,Option.some.injEq,Addr.mk.injEq,and_true] at hv'
                  obtain ⟨rfl,-,rfl⟩ := hv'
                  obtain ⟨g',cap',hv',-,-,-,-,hcb,-⟩ := HO.out.put6 hrb eb
                  simp only [Value.slice.injEq,Option.some.injEq,Addr.mk.injEq,and_true] at hv'
                  obtain ⟨rfl,-,rfl⟩ := hv'
                  rw [ea] at hca
                  rw [eb] at hcb
                  have u0 := hca 0 _ rfl
                  have w0 := hcb 0 _ rfl
                  have u1 := hca 1 _ rfl
                  have w1 := hcb 1 _ rfl
                  have u2 := hca 2 _ rfl
                  have w2 := hcb 2 _ rfl
                  have u3 := hca 3 _ rfl
                  have w3 := hcb 3 _ rfl
                  have u4 := hca 4 _ rfl
                  have w4 := hcb 4 _ rfl
                  have u5 := hca 5 _ rfl
                  have w5 := hcb 5 _ rfl
                  simp only [Nat.add_zero] at u0 w0
                  clear hca hcb
                  have z0 := hfz (x * 6)
                  have y0 := hfz ((12 - x) * 6)
                  have z1 := hfz (x * 6 + 1)
                  have y1 := hfz ((12 - x) * 6 + 1)
                  have z2 := hfz (x * 6 + 2)
                  have y2 := hfz ((12 - x) * 6 + 2)
                  have z3 := hfz (x * 6 + 3)
                  have y3 := hfz ((12 - x) * 6 + 3)
                  have z4 := hfz (x * 6 + 4)
                  have y4 := hfz ((12 - x) * 6 + 4)
                  have z5 := hfz (x * 6 + 5)
                  have y5 := hfz ((12 - x) * 6 + 5)
                  clear hfz
                  go_wp2_with fail
                  have e1 : IntKind.i64.wrap (12 : Int) = 12 := IntWalk.i64_in _ (by omega)
                  have e2 : IntKind.i64.wrap ((12 : Int) - (x : Int)) = 12 - (x : Int) := IntWalk.i64_in _ (by omega)
                  have e3 : (0 : Int) <= 12 - (x : Int) := by omega
                  have e4 : (12 : Int) - (x : Int) < 13 := by omega
                  have e5 : (x : Int) < 13 := by omega
                  have e7 : (x : Int) <= 12 := by omega
                  have e6 : ((12 : Int) - (x : Int)).toNat = 12 - x := by omega
                  refine wp_region_held_drew (S := fun _ => True) (by kernel_rfl) trivial (fun hh => ?_)
                  refine tkA 0 _ hh ?_
                  try go_frame
                  refine tkA 1 _ hh ?_
                  try go_frame
                  refine tkA 2 _ hh ?_
                  try go_frame
                  refine tkA 3 _ hh ?_
                  try go_frame
                  refine tkA 4 _ hh ?_
                  try go_frame
                  refine tkA 5 _ hh ?_
                  try go_frame
                  refine tkA 6 _ hh ?_
                  try go_frame
                  refine tkA 7 _ hh ?_
                  try go_frame
                  refine tkA 8 _ hh ?_
                  try go_frame
                  refine tkA 9 _ hh ?_
                  try go_frame
                  refine tkA 10 _ hh ?_
                  try go_frame
                  refine tkA 11 _ hh ?_
                  try go_frame
                  refine tkA 12 _ hh ?_
                  try go_frame
                  refine tkA 13 _ hh ?_
                  try go_frame
                  refine tkA 14 _ hh ?_
                  try go_frame
                  refine tkA 16 _ hh ?_
                  try go_frame
                  refine tkA 17 _ hh ?_
                  try go_frame
                  refine tkA 18 _ hh ?_
                  try go_frame
                  refine rdH [15,19] ?_
                  refine rcH (fun K hK => ?_) ?_
                  ·clear hh
                   go_simp
                   refine hK.out _ _ trivial (fun hh => ?_)
                   clear hK K
                   try go_frame
                   refine rdH [19] ?_
                   refine rcH (fun K hK => ?_) AllReadyH.nil
                   clear hh
                   go_simp
                   refine hK.out _ _ trivial (fun hh => ?_)
                   clear hK K
                   try go_frame
                   refine tkA 20 _ hh ?_
                   try go_frame
                   refine rdH [21] ?_
                   refine rcH (fun K hK => ?_) AllReadyH.nil
                   clear hh
                   go_simp
                   refine hK.out _ _ trivial (fun hh => ?_)
                   clear hK K
                   try go_frame
                   refine tkA 22 _ hh ?_
                   try go_frame
                   refine rdH [23] ?_
                   refine rcH (fun K hK => ?_) AllReadyH.nil
                   clear hh
                   go_simp
                   refine hK.out _ _ trivial (fun hh => ?_)
                   clear hK K
                   try go_frame
                   refine wpAnyH_done (by kernel_rfl) ?_ _
                   go_wp2_with fail
                   go_roundw
                   case rel =>
                    obtain ⟨g',k',hv',-,-,-,-,-,hO1⟩ := HO.out.put6 hra eb
                    simp only [Value.slice.injEq,Option.some.injEq,Addr.mk.injEq,and_true] at hv'
                    obtain ⟨rfl,-,rfl⟩ := hv'
                    have hr2 : (rs'.set x rb)[12 - x]? = some rb := by rw [List.getElem?_set_ne (by omega)]; exact hrb
                    obtain ⟨g',k',hv',-,-,-,-,-,hO2⟩ := hO1.put6 hr2 ea
                    simp only [Value.slice.injEq,Option.some.injEq,Addr.mk.injEq,and_true] at hv'
                    obtain ⟨rfl,-,rfl⟩ := hv'
                    simp only [Nat.add_zero] at hO2
                    refine ⟨x + 1,(rs'.set x rb).set (12 - x) ra,by go_num,by omega,hid (HP.out.next hlt hra hrb),hid (hO2.kptS (.of_below (below_drU _) : Kpt [] _ _) (fun _ _ => by simp)),hid ?_⟩
                    exact Kpt.drew ((HK.out.trans (kset6 _ _ _ _ _ _ _ _ _ _ _ _ _ _) (fun _ h => .inl h)).trans (kset6 _ _ _ _ _ _ _ _ _ _ _ _ _ _) (fun _ h => .inl h))
                   case measure => simp [intOf]; omega
                  refine rcH (fun K hK => ?_) AllReadyH.nil
                  clear hh
                  go_simp
                  refine hK.out _ _ trivial (fun hh => ?_)
                  clear hK K
                  try go_frame
                  refine rdH [15] ?_
                  refine rcH (fun K hK => ?_) AllReadyH.nil
                  clear hh
                  go_simp
                  refine hK.out _ _ trivial (fun hh => ?_)
                  clear hK K
                  try go_frame
                  refine tkA 20 _ hh ?_
                  try go_frame
                  refine rdH [21] ?_
                  refine rcH (fun K hK => ?_) AllReadyH.nil
                  clear hh
                  go_simp
                  refine hK.out _ _ trivial (fun hh => ?_)
                  clear hK K
                  try go_frame
                  refine tkA 22 _ hh ?_
                  try go_frame
                  refine rdH [23] ?_
                  refine rcH (fun K hK => ?_) AllReadyH.nil
                  clear hh
                  go_simp
                  refine hK.out _ _ trivial (fun hh => ?_)
                  clear hK K
                  try go_frame
                  refine wpAnyH_done (by kernel_rfl) ?_ _
                  go_wp2_with fail
                  go_roundw
                  case rel =>
                   obtain ⟨g',k',hv',-,-,-,-,-,hO1⟩ := HO.out.put6 hra eb
                   simp only [Value.slice.injEq,Option.some.injEq,Addr.mk.injEq,and_true] at hv'
                   obtain ⟨rfl,-,rfl⟩ := hv'
                   have hr2 : (rs'.set x rb)[12 - x]? = some rb := by rw [List.getElem?_set_ne (by omega)]; exact hrb
                   obtain ⟨g',k',hv',-,-,-,-,-,hO2⟩ := hO1.put6 hr2 ea
                   simp only [Value.slice.injEq,Option.some.injEq,Addr.mk.injEq,and_true] at hv'
                   obtain ⟨rfl,-,rfl⟩ := hv'
                   simp only [Nat.add_zero] at hO2
                   refine ⟨x + 1,(rs'.set x rb).set (12 - x) ra,by go_num,by omega,hid (HP.out.next hlt hra hrb),hid (hO2.kptS (.of_below (below_drU _) : Kpt [] _ _) (fun _ _ => by simp)),hid ?_⟩
                   exact Kpt.drew ((HK.out.trans (kset6 _ _ _ _ _ _ _ _ _ _ _ _ _ _) (fun _ h => .inl h)).trans (kset6 _ _ _ _ _ _ _ _ _ _ _ _ _ _) (fun _ h => .inl h))
                  case measure => simp [intOf]; omega
                 ·obtain rfl : x = 6 := by omega
                  have hrv := HP.out.done HLN.out
                  subst hrv
                  have hne := HC.out.2.2.2.2
                  have hgg : gb ≠ g := fun e => hne (by rw [e]; rfl)
                  go_wp2_with fail
                  go_meet
                  refine ⟨_,_,_,rs.reverse,by rw [HW.out]; exact ⟨(HK.out.2 gb HC.out.lt (by simpa using hgg)).trans HC.out.1,HC.out.2.1,HO.out,HC.out.2.2.2.1.rev.imp (fun r q h => cP.grow _ _ _ _ _ _ h (fun _ h _ => h) (.of_kpt HK.out (fun b hb => by simp; rintro rfl; exact hb.2.2 rfl)) HK.out.size),hne⟩,HB.out.trans (Kpt.below HK.out (fun x hx => by simp at hx; omega) HB.out.size)⟩
               | false =>
                have HW : Hid ((if bitS k2 2 = true then CS.reverse else CS) = CS) := hid (by rw [<- HV.out]; rfl)
                go_wp2_with fail
                go_meet
                exact ⟨_,_,_,rs,by rw [HW.out]; exact HC.out,HB.out⟩
              case rest =>
               clear HC HB
               obtain ⟨p,n,c,rs,hC,hB⟩ := hcut
               rename World => P11
               obtain ⟨t1,t2,t3⟩ := hC.cells
               obtain ⟨t4,x0,y0⟩ := boxN ((hB.block _ (by omega)).trans HXR.out)
               have x1 := x0 0 _ rfl
               have y1 := y0 0
               simp only [Nat.zero_add] at x1
               clear x0 y0
               have HC := hid hC
               have HB := hid hB
               clear hC hB
               go_wp2_with fail
               have har : archS k0 k1 k2 k3 (bl.map fun b => b.toNat) (bm.map fun b => b.toNat) = (if bitS k2 2 = true then CS.reverse else CS) := by rw [HCS.out,HBL.out,HBM.out]; rfl
               have kS : Kpt [w.heap.size + 1] P11 (P11.setCell ⟨w.heap.size + 1,0,none⟩ (.slice p n c)) := Kpt.set _ _ _ _ _ (by simp)
               have hs := HB.out.size
               refine bodyPost_ret (v := .agg #[.slice p n c]) (by simp [results,Tryz.results8,go_sem,x1]) rfl ⟨_,_,_,rfl,by rw [har]; exact HC.out.done.step cP.grow (fun b (hb : wK.heap.size <= b) _ => (show w.heap.size <= b by omega)) (.of_kpt kS (fun b (hb : wK.heap.size <= b) => by simp; omega)) kS.size,?_⟩
               exact (HA.out.trans (HB.out.mono (by omega))).trans (Kpt.below kS (fun x hx => by simp at hx; omega) (by omega))
theorem archive_0 (k0 k1 k2 k3 : Nat) (w : World) (h0 : k0 < 256) (h1 : k1 < 256) (h2 : k2 < 256) (h3 : k3 < 256) :
  Calls Tryz.prog 8 #[.agg #[.int .u8 (k0 : Int),.int .u8 (k1 : Int),.int .u8 (k2 : Int),.int .u8 (k3 : Int)],.slice none 0 0,.slice none 0 0] w fun e w' => ∃ p n c,e = .returned (.agg #[.slice p n c]) /\ RdX 6 cP (fun b => w.heap.size <= b) w' (.slice p n c) (archS k0 k1 k2 k3 [] []) /\ Below w.heap.size w w' :=
 archive_p k0 k1 k2 k3 [] [] _ _ w h0 h1 h2 h3 (rd_nil _) (rd_nil _) (fun w' h => body_0 _ w' h) (fun w' h => body_0 _ w' h) (.inl rfl) (.inl rfl)
end Go.Proofs.YtfpeakkbbfnhcaaGreat.A
