/- Texts that the proof is made of, joined. No condition. -/
import Derived.Test.YtpkjlgdbaajpoaaGreatC1222
import Derived.Test.YtpkjlgdbaajpoaaGreatC12FHelp
import Derived.Test.YtpkjlgdbaajpoaaGreatC12FRefJ
import Derived.Test.YtpkjlgdbaajpoaaGreatC12FRefE
import Derived.Deep.DeepCutAuto
import Derived.Deep.CutBlock
import Derived.Test.YtpkjlgdbaajpoaaGreatC12H
set_option linter.unusedVariables false
set_option linter.unusedSimpArgs false
set_option maxRecDepth 100000
set_option maxHeartbeats 16000000
namespace Go.Proofs.YtpkjlgdbaajpoaaGreat.R
open Go.RowKit Go.Proofs.YtpkjlgdbaajpoaaGreat.D Go.Proofs.YtpkjlgdbaajpoaaGreat.O Go.Proofs.YtpkjlgdbaajpoaaGreat.A
theorem allT_le {T : List Sk} : ∀ {a b : List Ty},(allT T a b).length <= a.length
 | [],_ => Nat.zero_le _
 | _ :: _,[] => Nat.zero_le _
 | x :: a,y :: b => by
  show (joinT T x y :: allT T a b).length <= _
  have := allT_le (T := T) (a := a) (b := b)
  simp only [List.length_cons]
  omega
theorem joinF_len (T : List Sk) (a b : Fr) (ha : a.2.1.length <= 100000 /\ a.2.2.length <= 100000) (hb : b.2.1.length <= 100000 /\ b.2.2.length <= 100000) : (joinF T a b).1.2.1.length <= 100000 /\ (joinF T a b).1.2.2.length <= 100000 := by
 unfold joinF
 split
 ·exact hb
 split
 ·exact ha
 split
 ·exact ⟨Nat.zero_le _,Nat.zero_le _⟩
 split
 ·exact ⟨Nat.zero_le _,Nat.zero_le _⟩
 ·exact ⟨Nat.le_trans allT_le ha.1,Nat.le_trans allT_le ha.2⟩
theorem entryP_len (c : ByteArray) (P : List Ty) (st : Bool) (loc : Int) (h : loc <= 1000) : (entryP c P st loc).2.1.length <= 100000 /\ (entryP c P st loc).2.2.length <= 100000 := by
 unfold entryP
 dsimp only
 rw [List.length_take]
 refine ⟨?_,Nat.zero_le _⟩
 omega
def Fr3 (W : World) (g : Nat) : Prop := g < W.heap.size /\ ∀ i : Nat,i < 3 -> ∃ (f : Fr) (pl : Option Addr) (cl : Nat) (ps : Option Addr) (cs : Nat),W.cell? ⟨g,i * 3,none⟩ = some (.bool f.1) /\ W.cell? ⟨g,i * 3 + 1,none⟩ = some (.slice pl f.2.1.length cl) /\ W.cell? ⟨g,i * 3 + 2,none⟩ = some (.slice ps f.2.2.length cs) /\ RdX 2 (sP tyC) anyB W (.slice pl f.2.1.length cl) f.2.1 /\ RdX 2 (sP tyC) anyB W (.slice ps f.2.2.length cs) f.2.2 /\ SzF f
theorem Fr3.below {W W' : World} {g : Nat} (h : Fr3 W g) (hb : Below W.heap.size W W') : Fr3 W' g := by
 refine ⟨Nat.lt_of_lt_of_le h.1 hb.size,fun i hi => ?_⟩
 obtain ⟨f,pl,cl,ps,cs,h0,h1,h2,h3,h4,h5⟩ := h.2 i hi
 exact ⟨f,pl,cl,ps,cs,(hb.cell (p := ⟨g,i * 3,none⟩) h.1).trans h0,(hb.cell (p := ⟨g,i * 3 + 1,none⟩) h.1).trans h1,(hb.cell (p := ⟨g,i * 3 + 2,none⟩) h.1).trans h2,h3.any (sP.grow _) hb,h4.any (sP.grow _) hb,h5⟩
theorem fr3_mk {W : World} {g : Nat} {fa fb fc : Fr} {p0 p1 p2 p3 p4 p5 : Option Addr} {c0 c1 c2 c3 c4 c5 : Nat} {T : TypeId} (h : W.heap[g]? = some (.cells #[.bool fa.1,.slice p0 fa.2.1.length c0,.slice p1 fa.2.2.length c1,.bool fb.1,.slice p2 fb.2.1.length c2,.slice p3 fb.2.2.length c3,.bool fc.1,.slice p4 fc.2.1.length c4,.slice p5 fc.2.2.length c5] T (0,0)))
  (a0 : RdX 2 (sP tyC) anyB W (.slice p0 fa.2.1.length c0) fa.2.1) (a1 : RdX 2 (sP tyC) anyB W (.slice p1 fa.2.2.length c1) fa.2.2) (b0 : RdX 2 (sP tyC) anyB W (.slice p2 fb.2.1.length c2) fb.2.1) (b1 : RdX 2 (sP tyC) anyB W (.slice p3 fb.2.2.length c3) fb.2.2) (d0 : RdX 2 (sP tyC) anyB W (.slice p4 fc.2.1.length c4) fc.2.1) (d1 : RdX 2 (sP tyC) anyB W (.slice p5 fc.2.2.length c5) fc.2.2) (za : SzF fa) (zb : SzF fb) (zc : SzF fc) : Fr3 W g := by
 refine ⟨(Array.getElem?_eq_some_iff.1 h).1,fun i hi => ?_⟩
 match i,hi with
 | 0,_ => exact ⟨fa,p0,c0,p1,c1,by simp [World.cell?,h],by simp [World.cell?,h],by simp [World.cell?,h],a0,a1,za⟩
 | 1,_ => exact ⟨fb,p2,c2,p3,c3,by simp [World.cell?,h],by simp [World.cell?,h],by simp [World.cell?,h],b0,b1,zb⟩
 | 2,_ => exact ⟨fc,p4,c4,p5,c5,by simp [World.cell?,h],by simp [World.cell?,h],by simp [World.cell?,h],d0,d1,zc⟩
theorem m9x_at {W : World} {g : Nat} {v0 v1 v2 v3 v4 v5 v6 v7 v8 : Value} {T : TypeId} (h : W.heap[g]? = some (.cells #[v0,v1,v2,v3,v4,v5,v6,v7,v8] T (0,0))) : W.cell? ⟨g,0,none⟩ = some v0 /\ W.cell? ⟨g,1,none⟩ = some v1 /\ W.cell? ⟨g,2,none⟩ = some v2 /\ W.cell? ⟨g,3,none⟩ = some v3 /\ W.cell? ⟨g,4,none⟩ = some v4 /\ W.cell? ⟨g,5,none⟩ = some v5 /\ W.cell? ⟨g,6,none⟩ = some v6 /\ W.cell? ⟨g,7,none⟩ = some v7 /\ W.cell? ⟨g,8,none⟩ = some v8 := ⟨by simp [World.cell?,h],by simp [World.cell?,h],by simp [World.cell?,h],by simp [World.cell?,h],by simp [World.cell?,h],by simp [World.cell?,h],by simp [World.cell?,h],by simp [World.cell?,h],by simp [World.cell?,h]⟩
theorem szf_tyF (b : Bool) (l s : List UInt8) (h1 : l.length <= 8) (h2 : s.length <= 8) : SzF (b,tyF l,tyF s) := ⟨fun t ht => Nat.le_trans (tyF_sz l t ht) (by decide),fun t ht => Nat.le_trans (tyF_sz s t ht) (by decide),by show (tyF l).length <= _; rw [tyF_len]; omega,by show (tyF s).length <= _; rw [tyF_len]; omega⟩
theorem own_ty {w : World} {B : Nat} {p : Option Addr} {c : Nat} {l : List UInt8} (h : OT w B (.slice p l.length c) (tyF l)) : RdX 2 (sP tyC) anyB w (.slice p (tyF l).length c) (tyF l) := by rw [tyF_len]; exact rd_any (h.rd (sP.grow _))
theorem hpl_up {w w' : World} {v : Value} {l : List UInt8} (h : l = [] ∨ ∀ g,v.ownBlock = some g -> g < w.heap.size) (hb : w.heap.size <= w'.heap.size) : l = [] ∨ ∀ g,v.ownBlock = some g -> g < w'.heap.size := h.imp_right (fun k g e => Nat.lt_of_lt_of_le (k g e) hb)
theorem joins_l (k0 k1 k2 k3 : Nat) (l m s u : List UInt8) (pl pm ps pu : Option Addr) (cl cm cs cu : Nat) (one two : Bool) (cls : ByteArray) (xv : Value) (mth : Mth) (w : World) (h0 : k0 < 256) (h1 : k1 < 256) (h2 : k2 < 256) (h3 : k3 < 256) (hcls : cls.size <= maxLen)
  (hl : Rd w (.slice pl l.length cl) l) (hpl : l = [] ∨ ∀ g,(Value.slice pl l.length cl).ownBlock = some g -> g < w.heap.size) (hm : Rd w (.slice pm m.length cm) m) (hpm : m = [] ∨ ∀ g,(Value.slice pm m.length cm).ownBlock = some g -> g < w.heap.size) (hs : Rd w (.slice ps s.length cs) s) (hps : s = [] ∨ ∀ g,(Value.slice ps s.length cs).ownBlock = some g -> g < w.heap.size) (hu : Rd w (.slice pu u.length cu) u) (hpu : u = [] ∨ ∀ g,(Value.slice pu u.length cu).ownBlock = some g -> g < w.heap.size) (hx : RdM w xv mth) :
  Calls Tryz.prog 3 #[.agg #[.int .u8 (k0 : Int),.int .u8 (k1 : Int),.int .u8 (k2 : Int),.int .u8 (k3 : Int)],.slice pl l.length cl,.slice pm m.length cm,.slice ps s.length cs,.slice pu u.length cu,.bool one,.bool two,.string cls,xv] w fun e w' => e = .returned (.bool true) /\ Below w.heap.size w w' := by
 obtain ⟨vp,vc,vh,rfl,hxp,hxc,hxh⟩ := hx
 obtain ⟨pp,cp,rfl,-⟩ := hxp.len
 obtain ⟨pc,cc,rfl,-⟩ := hxc.len
 obtain ⟨ph,ch,rfl,-⟩ := hxh.len
 obtain ⟨nm,P,⟨r1,r2⟩,st,ab,loc,C,H⟩ := mth
 dsimp only at hxp hxc hxh ⊢
 obtain ⟨w0,hwn⟩ : ∃ x,x = (w.alloc (.cells #[.int .u8 (k0 : Int),.int .u8 (k1 : Int),.int .u8 (k2 : Int),.int .u8 (k3 : Int)] 22)).alloc (.cells #[.string nm,.slice pp P.length cp,.int .i64 r1,.string r2,.bool st,.bool ab,.int .i64 loc,.slice pc C.length cc,.slice ph H.length ch] 30) := ⟨_,rfl⟩
 have HB : Hid (Below w.heap.size w w0) := hid (by rw [hwn]; exact jbl2 _ _ _)
 have HK : Hid (w0.heap[w.heap.size]? = some (.cells #[.int .u8 (k0 : Int),.int .u8 (k1 : Int),.int .u8 (k2 : Int),.int .u8 (k3 : Int)] 22 (0,0))) := hid (by rw [hwn]; simp only [al_heap,Array.getElem?_push,Array.size_push]; repeat (first | rw [if_pos (by first | trivial | omega)] | rw [if_neg (by omega)]))
 have HX : Hid (w0.heap[w.heap.size + 1]? = some (.cells #[.string nm,.slice pp P.length cp,.int .i64 r1,.string r2,.bool st,.bool ab,.int .i64 loc,.slice pc C.length cc,.slice ph H.length ch] 30 (0,0))) := hid (by rw [hwn]; simp only [al_heap,Array.getElem?_push,Array.size_push]; repeat (first | rw [if_pos (by first | trivial | omega)] | rw [if_neg (by omega)]))
 have HGS : Hid (w.heap.size + 2 = w0.heap.size) := hid (by rw [hwn]; simp)
 have HP := hid (hxp.any (sP.grow _) HB.out)
 have HXC := hid (hxc.any (sP.grow _) HB.out)
 have HXH := hid (hxh.any (sP.grow _) HB.out)
 have HLl := hid hl
 have HPl := hid hpl
 have HLm := hid hm
 have HPm := hid hpm
 have HLs := hid hs
 have HPs := hid hps
 have HLu := hid hu
 have HPu := hid hpu
 have HCL := hid hcls
 clear hxp hxc hxh hl hm hs hu hpl hpm hps hpu hcls
 go_enter Tryz.func3,Tryz.ntmps3
 try simp only [List.append_eq,List.cons_append,List.nil_append]
 go_upto_region 1 with fail
 rw [<- hwn]
 clear hwn
 obtain ⟨g,hg⟩ : ∃ z,w.heap.size = z := ⟨_,rfl⟩
 rw [hg] at HK HX ⊢
 clear hg HGS
 go_wp2_with fail
 refine (known_12 w0).mono ?_
 rintro e w1 ⟨rfl,hbn⟩
 replace HK := hid (blk_b HK.out hbn)
 replace HX := hid (blk_b HX.out hbn)
 replace HP := hid (HP.out.any (sP.grow _) hbn)
 replace HXC := hid (HXC.out.any (sP.grow _) hbn)
 replace HXH := hid (HXH.out.any (sP.grow _) hbn)
 have HB1 := hid (HB.out.trans (hbn.mono HB.out.size))
 clear hbn HB
 by_cases h8l : 8 < l.length
 ·have h9l : (8 : Int) < (l.length : Int) := by omega
  go_wp2_with fail
  go_ret
  exact ⟨rfl,HB1.out⟩
 have h9l : decide ((8 : Int) < (l.length : Int)) = false := by rw [decide_eq_false_iff_not]; omega
 by_cases h8m : 8 < m.length
 ·have h9m : (8 : Int) < (m.length : Int) := by omega
  go_wp2_with fail
  go_ret
  exact ⟨rfl,HB1.out⟩
 have h9m : decide ((8 : Int) < (m.length : Int)) = false := by rw [decide_eq_false_iff_not]; omega
 by_cases h8s : 8 < s.length
 ·have h9s : (8 : Int) < (s.length : Int) := by omega
  go_wp2_with fail
  go_ret
  exact ⟨rfl,HB1.out⟩
 have h9s : decide ((8 : Int) < (s.length : Int)) = false := by rw [decide_eq_false_iff_not]; omega
 by_cases h8u : 8 < u.length
 ·have h9u : (8 : Int) < (u.length : Int) := by omega
  go_wp2_with fail
  go_ret
  exact ⟨rfl,HB1.out⟩
 have h9u : decide ((8 : Int) < (u.length : Int)) = false := by rw [decide_eq_false_iff_not]; omega
 by_cases hc6 : 60 < cls.size
 ·have hc7 : (60 : Int) < (cls.size : Int) := by omega
  go_wp2_with fail
  go_ret
  exact ⟨rfl,HB1.out⟩
 have hc7 : decide ((60 : Int) < (cls.size : Int)) = false := by rw [decide_eq_false_iff_not]; omega
 obtain ⟨zl,zc,zf⟩ := boxN HX.out
 have z0 := zc 0 _ rfl
 have z1 := zc 1 _ rfl
 have z2 := zc 2 _ rfl
 have z3 := zc 3 _ rfl
 have z4 := zc 4 _ rfl
 have z5 := zc 5 _ rfl
 have z6 := zc 6 _ rfl
 have z7 := zc 7 _ rfl
 have z8 := zc 8 _ rfl
 simp only [Nat.zero_add] at z0 z1 z2 z3 z4 z5 z6 z7 z8
 clear zc zf
 have H8 : Hid (l.length <= 8 /\ m.length <= 8 /\ s.length <= 8 /\ u.length <= 8) := hid (by omega)
 clear hc6 h8l h8m h8s h8u
 go_wp2_with fail
 clear zl z0 z1 z2 z3 z4 z5 z6 z7 z8
 refine (help_12 _ ⟨nm,P,(r1,r2),st,ab,loc,C,H⟩ _ ⟨_,_,_,rfl,HP.out,HXC.out,HXH.out⟩).mono ?_
 rintro e w1b ⟨hv,rfl,hok,hbn⟩
 replace HK := hid (blk_b HK.out hbn)
 replace HX := hid (blk_b HX.out hbn)
 replace HP := hid (HP.out.any (sP.grow _) hbn)
 replace HB1 := hid (HB1.out.trans (hbn.mono HB1.out.size))
 have HOK := hid hok
 clear hok hbn HXC HXH
 cases hv with
 | false =>
  go_wp2_with fail
  go_ret
  exact ⟨rfl,HB1.out⟩
 | true =>
  obtain ⟨hP10,hloc,hPs⟩ := HOK.out rfl
  dsimp only at hP10 hloc hPs
  have HPM : Hid (P.length <= 1000 /\ loc <= 1000 /\ ∀ t ∈ P,t.2.size <= maxLen) := hid ⟨by omega,hloc,fun t ht => Nat.le_trans (hPs t ht) (by decide)⟩
  clear hP10 hloc hPs HOK hc7 h9l h9m h9s h9u
  obtain ⟨xl,xc,-⟩ := boxN HK.out
  have x0 := xc 0 _ rfl
  have x1 := xc 1 _ rfl
  have x2 := xc 2 _ rfl
  have x3 := xc 3 _ rfl
  simp only [Nat.zero_add] at x0 x1 x2 x3
  clear xc
  go_wp2_with fail
  clear xl x0 x1 x2 x3
  refine (archive_0 k0 k1 k2 k3 _ h0 h1 h2 h3).mono ?_
  rintro e w2 ⟨p1,n1,c1',rfl,hr1,hb2⟩
  obtain ⟨_,_,e1,-⟩ := hr1.len
  simp only [Value.slice.injEq] at e1
  obtain ⟨rfl,rfl,rfl⟩ := e1
  have HR1 := hid hr1
  replace HX := hid (blk_b HX.out hb2)
  replace HP := hid (HP.out.any (sP.grow _) hb2)
  have HB2 := hid (HB1.out.trans (hb2.mono HB1.out.size))
  clear hr1 hb2 HB1 HK h0 h1 h2 h3
  go_upto_region 6 with fail
  have HR0 := HR1
  have HSZ0 := hid (seat_sz8 k0 k1 k2 k3)
  have HFW0 := hid (seat_few k0 k1 k2 k3)
  have HKT0 := hid (seat_kept k0 k1 k2 k3)
  have HAT0 := hid (seat_sk k0 k1 k2 k3)
  obtain ⟨T,hT⟩ : ∃ t,(tabT (bitS k0 3) (bitS k0 6) (bitS k2 2)) = t := ⟨_,rfl⟩
  obtain ⟨AR,hAR⟩ : ∃ t,archS k0 k1 k2 k3 [] [] = t := ⟨_,rfl⟩
  rw [hAR] at HR0 HSZ0 HFW0 HKT0 HAT0 ⊢
  rw [hT] at HKT0 HAT0
  have HKT := HKT0
  have HAT := HAT0
  have HSZ := HSZ0
  have HFW := HFW0
  have HIF : Hid (∀ s,(ifsT T s).length <= 1000) := hid (fun s => by rw [<- HAT.out]; exact Nat.le_trans (HSZ.out.ifs s).1 (by omega))
  have HLE : Hid (AR.length <= 1000) := hid (by have := HSZ.out.1; rwa [List.length_map] at this)
  obtain ⟨wz,hwz⟩ : ∃ x,x = w2.alloc (.cells #[.slice p1 AR.length c1'] 35) := ⟨_,rfl⟩
  have hbz := below_alR w2 (.cells #[.slice p1 AR.length c1'] 35)
  have HZ : Hid (wz.heap[w2.heap.size]? = some (.cells #[.slice p1 AR.length c1'] 35 (0,0))) := hid (by rw [hwz]; exact heap_alloc_new _ _)
  rw [<- hwz] at hbz ⊢
  replace HX := hid (blk_b HX.out hbz)
  replace HP := hid (HP.out.any (sP.grow _) hbz)
  have HR := hid (HR0.out.any cP.grow hbz)
  have HB := hid (HB2.out.trans (hbz.mono HB2.out.size))
  have HBZ : Hid (Below wz.heap.size wz wz.drew) := hid (Below.refl wz.heap.size wz).drew
  obtain ⟨gz,hgz⟩ : ∃ z,w2.heap.size = z := ⟨_,rfl⟩
  rw [hgz] at HZ ⊢
  replace HZ : Hid (wz.drew.heap[gz]? = _) := hid HZ.out
  clear hbz hwz hgz hT hAR HR0 HR1 HSZ0 HFW0 HKT0 HAT0 HB2
  go_cut [20,21] from 65 to 70 (fun s12 s13 wx => ∃ (tb rb : Nat) (ok1 ok2 : Nat -> Prop) (K : List Cls),s12 = .pointer (some ⟨tb,0,none⟩) /\ s13 = .pointer (some ⟨rb,0,none⟩) /\ Hid (TwoW wx ok1 ok2 (.pointer (some ⟨tb,0,none⟩)) K rb p1 c1' AR T) /\ Hid (Below wz.heap.size wz wx))
  case first =>
   refine wp_region_held_drew (S := fun W => gz < W.heap.size /\ W.cell? ⟨gz,0,none⟩ = some (.slice p1 AR.length c1')) (by kernel_rfl) (c1_at HZ.out) (fun hh => ?_)
   refine tkB 0 _ hh ?_
   try go_frame
   refine tkB 2 _ hh ?_
   try go_frame
   refine tkA 3 _ hh ?_
   try go_frame
   refine rdH [1,4] ?_
   refine AllReadyH.cons (o := _) (by simp only [List.getElem?_toArray,List.getElem?_cons_succ,List.getElem?_cons_zero]; rfl) (fun KX hKX => ?_) ?_
   ·clear hh
    go_simp
    refine (New_t AR p1 c1' _ _ (HR.out.any cP.grow HBZ.out) HSZ.out HFW.out).mono ?_
    rintro e wn ⟨tb,mb,vs,rfl,ht,hbn⟩
    replace HZ := hid (blk_below HZ.out hbn)
    replace HBZ := hid (HBZ.out.trans (hbn.mono HBZ.out.size))
    have HTR := hid ht
    clear hbn ht
    refine hKX.out _ _ (c1_at HZ.out) (fun hh => ?_)
    clear hKX KX
    try go_frame
    refine tkA 5 _ hh ?_
    try go_frame
    refine rdH [4] ?_
    refine AllReadyH.cons (o := _) (by simp only [List.getElem?_toArray,List.getElem?_cons_succ,List.getElem?_cons_zero]; rfl) (fun KX hKX => ?_) AllReadyH.nil
    clear hh
    go_simp
    have hbn := below_alR wn (.cells #[.slice p1 AR.length c1'] 41)
    have HRB := hid (heap_alloc_new wn (.cells #[.slice p1 AR.length c1'] 41))
    replace HZ := hid (blk_below HZ.out hbn)
    replace HBZ := hid (HBZ.out.trans (hbn.mono HBZ.out.size))
    replace HTR := hid (HTR.out.below hbn)
    clear hbn
    refine hKX.out _ _ (c1_at HZ.out) (fun hh => ?_)
    clear hKX KX
    try go_frame
    refine tkA 6 _ hh ?_
    try go_frame
    refine wpAnyH_done (by kernel_rfl) ?_ _
    clear hh
    go_wp2_with fail
    go_meet
    case rel => exact ⟨tb,_,_,_,_,rfl,rfl,hid ⟨.inl ⟨tb,mb,vs,rfl,HTR.out⟩,⟨HRB.out,HR.out.any cP.grow HBZ.out,HLE.out⟩,HKT.out,HAT.out,HIF.out⟩,HBZ⟩
   refine AllReadyH.cons (o := _) (by simp only [List.getElem?_toArray,List.getElem?_cons_succ,List.getElem?_cons_zero]; rfl) (fun KX hKX => ?_) AllReadyH.nil
   clear hh
   go_simp
   have hbn := below_alR wz.drew (.cells #[.slice p1 AR.length c1'] 41)
   have HRB := hid (heap_alloc_new wz.drew (.cells #[.slice p1 AR.length c1'] 41))
   replace HZ := hid (blk_below HZ.out hbn)
   replace HBZ := hid (HBZ.out.trans (hbn.mono HBZ.out.size))
   clear hbn
   refine hKX.out _ _ (c1_at HZ.out) (fun hh => ?_)
   clear hKX KX
   try go_frame
   refine rdH [1] ?_
   refine AllReadyH.cons (o := _) (by simp only [List.getElem?_toArray,List.getElem?_cons_succ,List.getElem?_cons_zero]; rfl) (fun KX hKX => ?_) AllReadyH.nil
   clear hh
   go_simp
   refine (New_t AR p1 c1' _ _ (HR.out.any cP.grow HBZ.out) HSZ.out HFW.out).mono ?_
   rintro e wn ⟨tb,mb,vs,rfl,ht,hbn⟩
   replace HZ := hid (blk_below HZ.out hbn)
   replace HBZ := hid (HBZ.out.trans (hbn.mono HBZ.out.size))
   have HTR := hid ht
   replace HRB := hid (blk_below HRB.out hbn)
   clear hbn ht
   refine hKX.out _ _ (c1_at HZ.out) (fun hh => ?_)
   clear hKX KX
   try go_frame
   refine tkA 5 _ hh ?_
   try go_frame
   refine tkA 6 _ hh ?_
   try go_frame
   refine wpAnyH_done (by kernel_rfl) ?_ _
   clear hh
   go_wp2_with fail
   go_meet
   case rel => exact ⟨tb,_,_,_,_,rfl,rfl,hid ⟨.inl ⟨tb,mb,vs,rfl,HTR.out⟩,⟨HRB.out,HR.out.any cP.grow HBZ.out,HLE.out⟩,HKT.out,HAT.out,HIF.out⟩,HBZ⟩
  case rest =>
   obtain ⟨tb,rb,ok1,ok2,K,rfl,rfl,HT,hbz⟩ := hcut
   replace HX := hid (blk_b HX.out hbz.out)
   replace HP := hid (HP.out.any (sP.grow _) hbz.out)
   replace HB := hid (HB.out.trans (hbz.out.mono HB.out.size))
   obtain ⟨w4,hw4⟩ : ∃ z,z = wc := ⟨_,rfl⟩
   rw [<- hw4] at HT HB HX HP ⊢
   clear hw4 hbz HR HZ HBZ HKT HAT HSZ HFW HIF HLE
   go_wp2_with fail
   refine (types_12 l pl cl _ (HLl.out.below HB.out HPl.out) (hpl_up HPl.out HB.out.size) (by have := H8.out; omega)).mono ?_
   rintro e w5 ⟨qal,dal,rfl,ho,hbn⟩
   replace HX := hid (blk_b HX.out hbn)
   replace HP := hid (HP.out.any (sP.grow _) hbn)
   replace HT := hid (HT.out.below hbn)
   replace HB := hid (HB.out.trans (hbn.mono HB.out.size))
   have Tal := hid (own_ty ho)
   clear ho hbn
   go_wp2_with fail
   refine (types_12 s ps cs _ (HLs.out.below HB.out HPs.out) (hpl_up HPs.out HB.out.size) (by have := H8.out; omega)).mono ?_
   rintro e w6 ⟨qas,das,rfl,ho,hbn⟩
   replace HX := hid (blk_b HX.out hbn)
   replace HP := hid (HP.out.any (sP.grow _) hbn)
   replace HT := hid (HT.out.below hbn)
   replace HB := hid (HB.out.trans (hbn.mono HB.out.size))
   replace Tal := hid (Tal.out.any (sP.grow _) hbn)
   have Tas := hid (own_ty ho)
   clear ho hbn
   go_wp2_with fail
   refine (types_12 m pm cm _ (HLm.out.below HB.out HPm.out) (hpl_up HPm.out HB.out.size) (by have := H8.out; omega)).mono ?_
   rintro e w7 ⟨qbl,dbl,rfl,ho,hbn⟩
   replace HX := hid (blk_b HX.out hbn)
   replace HP := hid (HP.out.any (sP.grow _) hbn)
   replace HT := hid (HT.out.below hbn)
   replace HB := hid (HB.out.trans (hbn.mono HB.out.size))
   replace Tal := hid (Tal.out.any (sP.grow _) hbn)
   replace Tas := hid (Tas.out.any (sP.grow _) hbn)
   have Tbl := hid (own_ty ho)
   clear ho hbn
   go_wp2_with fail
   refine (types_12 u pu cu _ (HLu.out.below HB.out HPu.out) (hpl_up HPu.out HB.out.size) (by have := H8.out; omega)).mono ?_
   rintro e w8 ⟨qbs,dbs,rfl,ho,hbn⟩
   replace HX := hid (blk_b HX.out hbn)
   replace HP := hid (HP.out.any (sP.grow _) hbn)
   replace HT := hid (HT.out.below hbn)
   replace HB := hid (HB.out.trans (hbn.mono HB.out.size))
   replace Tal := hid (Tal.out.any (sP.grow _) hbn)
   replace Tas := hid (Tas.out.any (sP.grow _) hbn)
   replace Tbl := hid (Tbl.out.any (sP.grow _) hbn)
   have Tbs := hid (own_ty ho)
   clear ho hbn
   go_upto_region 8 with fail
   have hbn := jbl2 w8 (.cells #[.bool (!one),.slice qal l.length dal,.slice qas s.length das] 44) (.cells #[.bool (!two),.slice qbl m.length dbl,.slice qbs u.length dbs] 44)
   have HA : Hid (((w8.alloc (.cells #[.bool (!one),.slice qal l.length dal,.slice qas s.length das] 44)).alloc (.cells #[.bool (!two),.slice qbl m.length dbl,.slice qbs u.length dbs] 44)).heap[w8.heap.size]? = _) := hid (((below_alR _ _).block _ (by simp)).trans (heap_alloc_new w8 (.cells #[.bool (!one),.slice qal l.length dal,.slice qas s.length das] 44)))
   have HBX := hid (jal2 w8 (.cells #[.bool (!one),.slice qal l.length dal,.slice qas s.length das] 44) #[.bool (!two),.slice qbl m.length dbl,.slice qbs u.length dbs] 44)
   replace HX := hid (blk_b HX.out hbn)
   replace HP := hid (HP.out.any (sP.grow _) hbn)
   replace HT := hid (HT.out.below hbn)
   replace HB := hid (HB.out.trans (hbn.mono HB.out.size))
   replace Tal := hid (Tal.out.any (sP.grow _) hbn)
   replace Tas := hid (Tas.out.any (sP.grow _) hbn)
   replace Tbl := hid (Tbl.out.any (sP.grow _) hbn)
   replace Tbs := hid (Tbs.out.any (sP.grow _) hbn)
   obtain ⟨w9,hw9⟩ : ∃ z,z = (w8.alloc (.cells #[.bool (!one),.slice qal l.length dal,.slice qas s.length das] 44)).alloc (.cells #[.bool (!two),.slice qbl m.length dbl,.slice qbs u.length dbs] 44) := ⟨_,rfl⟩
   obtain ⟨ga,hga⟩ : ∃ z,w8.heap.size = z := ⟨_,rfl⟩
   rw [<- hw9] at HA HBX HX HP HT HB Tal Tas Tbl Tbs ⊢
   rw [hga] at HA HBX ⊢
   clear hbn hw9 hga
   go_wp2_with fail
   refine (types_12 l pl cl _ (HLl.out.below HB.out HPl.out) (hpl_up HPl.out HB.out.size) (by have := H8.out; omega)).mono ?_
   rintro e wa ⟨qcl,dcl,rfl,ho,hbn⟩
   replace HX := hid (blk_b HX.out hbn)
   replace HP := hid (HP.out.any (sP.grow _) hbn)
   replace HT := hid (HT.out.below hbn)
   replace HB := hid (HB.out.trans (hbn.mono HB.out.size))
   replace Tal := hid (Tal.out.any (sP.grow _) hbn)
   replace Tas := hid (Tas.out.any (sP.grow _) hbn)
   replace Tbl := hid (Tbl.out.any (sP.grow _) hbn)
   replace Tbs := hid (Tbs.out.any (sP.grow _) hbn)
   replace HA := hid (blk_b HA.out hbn)
   replace HBX := hid (blk_b HBX.out hbn)
   have Tcl := hid (own_ty ho)
   clear ho hbn
   go_wp2_with fail
   refine (types_12 u pu cu _ (HLu.out.below HB.out HPu.out) (hpl_up HPu.out HB.out.size) (by have := H8.out; omega)).mono ?_
   rintro e wb ⟨qcs,dcs,rfl,ho,hbn⟩
   replace HX := hid (blk_b HX.out hbn)
   replace HP := hid (HP.out.any (sP.grow _) hbn)
   replace HT := hid (HT.out.below hbn)
   replace HB := hid (HB.out.trans (hbn.mono HB.out.size))
   replace Tal := hid (Tal.out.any (sP.grow _) hbn)
   replace Tas := hid (Tas.out.any (sP.grow _) hbn)
   replace Tbl := hid (Tbl.out.any (sP.grow _) hbn)
   replace Tbs := hid (Tbs.out.any (sP.grow _) hbn)
   replace Tcl := hid (Tcl.out.any (sP.grow _) hbn)
   replace HA := hid (blk_b HA.out hbn)
   replace HBX := hid (blk_b HBX.out hbn)
   have Tcs := hid (own_ty ho)
   clear ho hbn
   go_upto_region 9 with fail
   have hbn := below_alR wb (.cells #[.bool true,.slice qcl l.length dcl,.slice qcs u.length dcs] 44)
   have HCX := hid (heap_alloc_new wb (.cells #[.bool true,.slice qcl l.length dcl,.slice qcs u.length dcs] 44))
   replace HX := hid (blk_b HX.out hbn)
   replace HP := hid (HP.out.any (sP.grow _) hbn)
   replace HT := hid (HT.out.below hbn)
   replace HB := hid (HB.out.trans (hbn.mono HB.out.size))
   replace Tal := hid (Tal.out.any (sP.grow _) hbn)
   replace Tas := hid (Tas.out.any (sP.grow _) hbn)
   replace Tbl := hid (Tbl.out.any (sP.grow _) hbn)
   replace Tbs := hid (Tbs.out.any (sP.grow _) hbn)
   replace Tcl := hid (Tcl.out.any (sP.grow _) hbn)
   replace Tcs := hid (Tcs.out.any (sP.grow _) hbn)
   replace HA := hid (blk_b HA.out hbn)
   replace HBX := hid (blk_b HBX.out hbn)
   obtain ⟨wd,hwd⟩ : ∃ z,z = wb.alloc (.cells #[.bool true,.slice qcl l.length dcl,.slice qcs u.length dcs] 44) := ⟨_,rfl⟩
   obtain ⟨gc,hgc⟩ : ∃ z,wb.heap.size = z := ⟨_,rfl⟩
   rw [<- hwd] at HA HBX HCX HX HP HT HB Tal Tas Tbl Tbs Tcl Tcs ⊢
   rw [hgc] at HCX ⊢
   clear hbn hwd hgc
   obtain ⟨al_,a0_,a1_,a2_⟩ := c3_at HA.out
   obtain ⟨bl_,b0_,b1_,b2_⟩ := c3_at HBX.out
   obtain ⟨cl_,c0_,c1_,c2_⟩ := c3_at HCX.out
   go_wp2_with fail
   clear al_ a0_ a1_ a2_ bl_ b0_ b1_ b2_ cl_ c0_ c1_ c2_
   have hbn := below_alR wd (.cells #[.bool (!one),.slice qal l.length dal,.slice qas s.length das,.bool (!two),.slice qbl m.length dbl,.slice qbs u.length dbs,.bool true,.slice qcl l.length dcl,.slice qcs u.length dcs] 44)
   have hx9 := heap_alloc_new wd (.cells #[.bool (!one),.slice qal l.length dal,.slice qas s.length das,.bool (!two),.slice qbl m.length dbl,.slice qbs u.length dbs,.bool true,.slice qcl l.length dcl,.slice qcs u.length dcs] 44)
   obtain ⟨we,hwe⟩ : ∃ z,z = wd.alloc (.cells #[.bool (!one),.slice qal l.length dal,.slice qas s.length das,.bool (!two),.slice qbl m.length dbl,.slice qbs u.length dbs,.bool true,.slice qcl l.length dcl,.slice qcs u.length dcs] 44) := ⟨_,rfl⟩
   obtain ⟨gx,hgx⟩ : ∃ z,wd.heap.size = z := ⟨_,rfl⟩
   replace HX := hid (blk_b HX.out hbn)
   replace HP := hid (HP.out.any (sP.grow _) hbn)
   replace HT := hid (HT.out.below hbn)
   replace HB := hid (HB.out.trans (hbn.mono HB.out.size))
   replace Tal := hid (Tal.out.any (sP.grow _) hbn)
   replace Tas := hid (Tas.out.any (sP.grow _) hbn)
   replace Tbl := hid (Tbl.out.any (sP.grow _) hbn)
   replace Tbs := hid (Tbs.out.any (sP.grow _) hbn)
   replace Tcl := hid (Tcl.out.any (sP.grow _) hbn)
   replace Tcs := hid (Tcs.out.any (sP.grow _) hbn)
   replace HA := hid (blk_b HA.out hbn)
   replace HBX := hid (blk_b HBX.out hbn)
   replace HCX := hid (blk_b HCX.out hbn)
   rw [<- hwe] at hx9 HA HBX HCX HX HP HT HB Tal Tas Tbl Tbs Tcl Tcs ⊢
   rw [hgx] at hx9 ⊢
   have HX3 : Hid (Fr3 we gx) := hid (by have h8 := H8.out; exact fr3_mk (fa := (!one,tyF l,tyF s)) (fb := (!two,tyF m,tyF u)) (fc := (true,tyF l,tyF u)) (by dsimp only; simp only [tyF_len]; exact hx9) Tal.out Tas.out Tbl.out Tbs.out Tcl.out Tcs.out (szf_tyF _ _ _ h8.1 h8.2.2.1) (szf_tyF _ _ _ h8.2.1 h8.2.2.2) (szf_tyF _ _ _ h8.1 h8.2.2.2))
   clear hbn hwe hgx hx9
   have HBR : Hid (Below we.heap.size we we) := hid (Below.refl _ _)
   go_wp2_with fail
   go_loopw [94] (fun v94 wr => ∃ i : Nat,v94 = .int .i64 (i : Int) /\ i <= 3 /\ Hid (Below we.heap.size we wr)) (fun x _ => 3 - (intOf x).toNat)
   case atStart => exact ⟨0,rfl,by omega,HBR⟩
   case round =>
    clear HBR
    obtain ⟨i,rfl,hin,HBR⟩ := hrel
    by_cases hlt : i < 3
    ·have hlt' : (i : Int) < 3 := by omega
     obtain ⟨p,pl',cl',ps',cs',e0,e1,e2,r1',r2',zp⟩ := (HX3.out.below HBR.out).2 i hlt
     have HRP : Hid (RdF wr (.agg #[.bool p.1,.slice pl' p.2.1.length cl',.slice ps' p.2.2.length cs']) p) := hid ⟨pl',cl',ps',cs',rfl,r1',r2'⟩
     have ZP := hid zp
     clear r1' r2' zp
     go_upto_region 12 with fail
     clear e0 e1 e2
     have hbn := below_alR wr (.cells #[.bool p.1,.slice pl' p.2.1.length cl',.slice ps' p.2.2.length cs'] 44)
     have HPB := hid (heap_alloc_new wr (.cells #[.bool p.1,.slice pl' p.2.1.length cl',.slice ps' p.2.2.length cs'] 44))
     obtain ⟨wp,hwp⟩ : ∃ z,z = wr.alloc (.cells #[.bool p.1,.slice pl' p.2.1.length cl',.slice ps' p.2.2.length cs'] 44) := ⟨_,rfl⟩
     obtain ⟨gp,hgp⟩ : ∃ z,wr.heap.size = z := ⟨_,rfl⟩
     replace HRP := hid (HRP.out.below hbn)
     replace HBR := hid (HBR.out.trans (hbn.mono HBR.out.size))
     rw [<- hwp] at HPB HRP HBR ⊢
     rw [hgp] at HPB ⊢
     clear hbn hwp hgp
     have HA2 := hid (blk_b HA.out HBR.out)
     have HB2x := hid (blk_b HBX.out HBR.out)
     have HC2 := hid (blk_b HCX.out HBR.out)
     obtain ⟨al_,a0_,a1_,a2_⟩ := c3_at HA2.out
     obtain ⟨bl_,b0_,b1_,b2_⟩ := c3_at HB2x.out
     obtain ⟨cl_,c0_,c1_,c2_⟩ := c3_at HC2.out
     go_wp2_with fail
     clear al_ a0_ a1_ a2_ bl_ b0_ b1_ b2_ cl_ c0_ c1_ c2_
     clear HA2 HB2x HC2
     have hbn := below_alR wp (.cells #[.bool (!one),.slice qal l.length dal,.slice qas s.length das,.bool (!two),.slice qbl m.length dbl,.slice qbs u.length dbs,.bool true,.slice qcl l.length dcl,.slice qcs u.length dcs] 44)
     have hx9 := heap_alloc_new wp (.cells #[.bool (!one),.slice qal l.length dal,.slice qas s.length das,.bool (!two),.slice qbl m.length dbl,.slice qbs u.length dbs,.bool true,.slice qcl l.length dcl,.slice qcs u.length dcs] 44)
     obtain ⟨wy,hwy⟩ : ∃ z,z = wp.alloc (.cells #[.bool (!one),.slice qal l.length dal,.slice qas s.length das,.bool (!two),.slice qbl m.length dbl,.slice qbs u.length dbs,.bool true,.slice qcl l.length dcl,.slice qcs u.length dcs] 44) := ⟨_,rfl⟩
     obtain ⟨gy,hgy⟩ : ∃ z,wp.heap.size = z := ⟨_,rfl⟩
     replace HRP := hid (HRP.out.below hbn)
     replace HPB := hid (blk_b HPB.out hbn)
     replace HBR := hid (HBR.out.trans (hbn.mono HBR.out.size))
     rw [<- hwy] at hx9 HPB HRP HBR ⊢
     rw [hgy] at hx9 ⊢
     have HY3 : Hid (Fr3 wy gy) := hid (by have h8 := H8.out; exact fr3_mk (fa := (!one,tyF l,tyF s)) (fb := (!two,tyF m,tyF u)) (fc := (true,tyF l,tyF u)) (by dsimp only; simp only [tyF_len]; exact hx9) (Tal.out.any (sP.grow _) HBR.out) (Tas.out.any (sP.grow _) HBR.out) (Tbl.out.any (sP.grow _) HBR.out) (Tbs.out.any (sP.grow _) HBR.out) (Tcl.out.any (sP.grow _) HBR.out) (Tcs.out.any (sP.grow _) HBR.out) (szf_tyF _ _ _ h8.1 h8.2.2.1) (szf_tyF _ _ _ h8.2.1 h8.2.2.2) (szf_tyF _ _ _ h8.1 h8.2.2.2))
     have HTY := hid (HT.out.below HBR.out)
     clear hbn hwy hgy hx9
     have HY : Hid (Below wy.heap.size wy wy) := hid (Below.refl _ _)
     go_wp2_with fail
     go_loopw [103] (fun v103 wr => ∃ j : Nat,v103 = .int .i64 (j : Int) /\ j <= 3 /\ Hid (Below wy.heap.size wy wr)) (fun x _ => 3 - (intOf x).toNat)
     case atStart => exact ⟨0,rfl,by omega,HY⟩
     case round =>
      clear HY
      obtain ⟨j,rfl,hjn,HY⟩ := hrel
      by_cases hltj : j < 3
      ·have hltj' : (j : Int) < 3 := by omega
       obtain ⟨q,ql',dl',qs',ds',e0,e1,e2,r1',r2',zq⟩ := (HY3.out.below HY.out).2 j hltj
       have HRQ : Hid (RdF wr (.agg #[.bool q.1,.slice ql' q.2.1.length dl',.slice qs' q.2.2.length ds']) q) := hid ⟨ql',dl',qs',ds',rfl,r1',r2'⟩
       have ZQ := hid zq
       clear r1' r2' zq
       go_upto_region 15 with fail
       clear e0 e1 e2
       have hbn := below_alR wr (.cells #[.bool q.1,.slice ql' q.2.1.length dl',.slice qs' q.2.2.length ds'] 44)
       have HQB := hid (heap_alloc_new wr (.cells #[.bool q.1,.slice ql' q.2.1.length dl',.slice qs' q.2.2.length ds'] 44))
       obtain ⟨wq,hwq⟩ : ∃ z,z = wr.alloc (.cells #[.bool q.1,.slice ql' q.2.1.length dl',.slice qs' q.2.2.length ds'] 44) := ⟨_,rfl⟩
       obtain ⟨gq,hgq⟩ : ∃ z,wr.heap.size = z := ⟨_,rfl⟩
       replace HRQ := hid (HRQ.out.below hbn)
       replace HY := hid (HY.out.trans (hbn.mono HY.out.size))
       rw [<- hwq] at HQB HRQ HY ⊢
       rw [hgq] at HQB ⊢
       clear hbn hwq hgq
       have HRP2 := hid (HRP.out.below HY.out)
       have HPB2 := hid (blk_b HPB.out HY.out)
       obtain ⟨JJ,hJ⟩ : ∃ z,joinF T p q = z := ⟨_,rfl⟩
       have HJ := hid hJ
       have HJL : Hid (JJ.1.2.1.length <= 100000 /\ JJ.1.2.2.length <= 100000) := hid (by rw [<- hJ]; exact joinF_len T p q ⟨ZP.out.2.2.1,ZP.out.2.2.2⟩ ⟨ZQ.out.2.2.1,ZQ.out.2.2.2⟩)
       clear hJ
       obtain ⟨pl_,pa_,pb_,pc_⟩ := c3_at HPB2.out
       obtain ⟨ql_,qa_,qb_,qc_⟩ := c3_at HQB.out
       go_wp2_with fail
       clear pl_ pa_ pb_ pc_ ql_ qa_ qb_ qc_
       refine (FJoin_f ok1 _ K _ _ p q _ (HTY.out.below HY.out).1 HRP2.out HRQ.out ZP.out ZQ.out).mono ?_
       rw [HTY.out.2.2.1,HJ.out]
       rintro e wj ⟨vg,rfl,hf,hbn⟩
       obtain ⟨fa,ga1,fb,gb1,rfl,f1,f2⟩ := hf
       replace HY := hid (HY.out.trans (hbn.mono HY.out.size))
       replace HRP2 := hid (HRP2.out.below hbn)
       replace HRQ := hid (HRQ.out.below hbn)
       replace HPB2 := hid (blk_b HPB2.out hbn)
       replace HQB := hid (blk_b HQB.out hbn)
       have HRF : Hid (RdF wj (.agg #[.bool JJ.1.1,.slice fa JJ.1.2.1.length ga1,.slice fb JJ.1.2.2.length gb1]) JJ.1) := hid ⟨fa,ga1,fb,gb1,rfl,f1,f2⟩
       clear f1 f2 hbn
       go_upto_region 16 with fail
       have hbn := below_alR wj (.cells #[.bool JJ.1.1,.slice fa JJ.1.2.1.length ga1,.slice fb JJ.1.2.2.length gb1] 44)
       have HFB := hid (heap_alloc_new wj (.cells #[.bool JJ.1.1,.slice fa JJ.1.2.1.length ga1,.slice fb JJ.1.2.2.length gb1] 44))
       replace HY := hid (HY.out.trans (hbn.mono HY.out.size))
       replace HRP2 := hid (HRP2.out.below hbn)
       replace HRQ := hid (HRQ.out.below hbn)
       replace HPB2 := hid (blk_b HPB2.out hbn)
       replace HQB := hid (blk_b HQB.out hbn)
       replace HRF := hid (HRF.out.below hbn)
       obtain ⟨wf,hwf⟩ : ∃ z,z = wj.alloc (.cells #[.bool JJ.1.1,.slice fa JJ.1.2.1.length ga1,.slice fb JJ.1.2.2.length gb1] 44) := ⟨_,rfl⟩
       obtain ⟨gf,hgf⟩ : ∃ z,wj.heap.size = z := ⟨_,rfl⟩
       rw [<- hwf] at HFB HRF HY HRP2 HRQ HPB2 HQB ⊢
       rw [hgf] at HFB ⊢
       clear hbn hwf hgf
       obtain ⟨pl_,pa_,pb_,pc_⟩ := c3_at HPB2.out
       obtain ⟨ql_,qa_,qb_,qc_⟩ := c3_at HQB.out
       go_wp2_with fail
       clear pl_ pa_ pb_ pc_ ql_ qa_ qb_ qc_
       refine (Join_12 rb p1 c1' AR _ _ p q _ (HTY.out.below HY.out).2.1 HRP2.out HRQ.out ZP.out).mono ?_
       rw [HTY.out.2.2.2.1,HJ.out]
       rintro e wk ⟨vg,rfl,hf,hbn⟩
       obtain ⟨ha,ga2,hb,gb2,rfl,f1,f2⟩ := hf
       replace HY := hid (HY.out.trans (hbn.mono HY.out.size))
       replace HRP2 := hid (HRP2.out.below hbn)
       replace HRQ := hid (HRQ.out.below hbn)
       replace HPB2 := hid (blk_b HPB2.out hbn)
       replace HQB := hid (blk_b HQB.out hbn)
       replace HRF := hid (HRF.out.below hbn)
       replace HFB := hid (blk_b HFB.out hbn)
       have HRG : Hid (RdF wk (.agg #[.bool JJ.1.1,.slice ha JJ.1.2.1.length ga2,.slice hb JJ.1.2.2.length gb2]) JJ.1) := hid ⟨ha,ga2,hb,gb2,rfl,f1,f2⟩
       clear f1 f2 hbn
       go_upto_region 17 with fail
       have hbn := below_alR wk (.cells #[.bool JJ.1.1,.slice ha JJ.1.2.1.length ga2,.slice hb JJ.1.2.2.length gb2] 44)
       have HGB := hid (heap_alloc_new wk (.cells #[.bool JJ.1.1,.slice ha JJ.1.2.1.length ga2,.slice hb JJ.1.2.2.length gb2] 44))
       replace HY := hid (HY.out.trans (hbn.mono HY.out.size))
       replace HRP2 := hid (HRP2.out.below hbn)
       replace HRQ := hid (HRQ.out.below hbn)
       replace HPB2 := hid (blk_b HPB2.out hbn)
       replace HQB := hid (blk_b HQB.out hbn)
       replace HRF := hid (HRF.out.below hbn)
       replace HFB := hid (blk_b HFB.out hbn)
       replace HRG := hid (HRG.out.below hbn)
       obtain ⟨wg,hwg⟩ : ∃ z,z = wk.alloc (.cells #[.bool JJ.1.1,.slice ha JJ.1.2.1.length ga2,.slice hb JJ.1.2.2.length gb2] 44) := ⟨_,rfl⟩
       obtain ⟨gg,hgg⟩ : ∃ z,wk.heap.size = z := ⟨_,rfl⟩
       rw [<- hwg] at HGB HFB HRF HRG HY HRP2 HRQ HPB2 HQB ⊢
       rw [hgg] at HGB ⊢
       clear hbn hwg hgg
       replace HY := hid HY.out.drew
       replace HPB2 : Hid (wg.drew.heap[gp]? = _) := hid HPB2.out
       replace HQB : Hid (wg.drew.heap[gq]? = _) := hid HQB.out
       replace HFB : Hid (wg.drew.heap[gf]? = _) := hid HFB.out
       replace HGB : Hid (wg.drew.heap[gg]? = _) := hid HGB.out
       replace HRP2 : Hid (RdF wg.drew _ _) := hid HRP2.out
       replace HRQ : Hid (RdF wg.drew _ _) := hid HRQ.out
       replace HRF : Hid (RdF wg.drew _ _) := hid HRF.out
       replace HRG : Hid (RdF wg.drew _ _) := hid HRG.out
       refine wp_region_held_drew (S := fun W => (gp < W.heap.size /\ W.cell? ⟨gp,0,none⟩ = some (.bool p.1) /\ W.cell? ⟨gp,1,none⟩ = some (.slice pl' p.2.1.length cl') /\ W.cell? ⟨gp,2,none⟩ = some (.slice ps' p.2.2.length cs')) /\ (gq < W.heap.size /\ W.cell? ⟨gq,0,none⟩ = some (.bool q.1) /\ W.cell? ⟨gq,1,none⟩ = some (.slice ql' q.2.1.length dl') /\ W.cell? ⟨gq,2,none⟩ = some (.slice qs' q.2.2.length ds')) /\ (gf < W.heap.size /\ W.cell? ⟨gf,0,none⟩ = some (.bool JJ.1.1) /\ W.cell? ⟨gf,1,none⟩ = some (.slice fa JJ.1.2.1.length ga1) /\ W.cell? ⟨gf,2,none⟩ = some (.slice fb JJ.1.2.2.length gb1)) /\ (gg < W.heap.size /\ W.cell? ⟨gg,0,none⟩ = some (.bool JJ.1.1) /\ W.cell? ⟨gg,1,none⟩ = some (.slice ha JJ.1.2.1.length ga2) /\ W.cell? ⟨gg,2,none⟩ = some (.slice hb JJ.1.2.2.length gb2))) (by kernel_rfl) ⟨c3_at HPB2.out,c3_at HQB.out,c3_at HFB.out,c3_at HGB.out⟩ (fun hh => ?_)
       refine tkA 0 _ hh ?_
       try go_frame
       refine tkA 1 _ hh ?_
       try go_frame
       refine tkA 2 _ hh ?_
       try go_frame
       refine tkA 3 _ hh ?_
       try go_frame
       refine tkB 4 _ hh ?_
       try go_frame
       refine tkB 5 _ hh ?_
       try go_frame
       refine rdH [6] ?_
       refine AllReadyH.cons (o := _) (by simp only [List.getElem?_toArray,List.getElem?_cons_succ,List.getElem?_cons_zero]; rfl) (fun KX hKX => ?_) AllReadyH.nil
       clear hh
       go_simp
       refine (Same_12 _ _ JJ.1 JJ.1 _ HRF.out HRG.out HJL.out).mono ?_
       rw [decide_eq_true rfl]
       rintro e wv ⟨rfl,hbn⟩
       replace HY := hid (HY.out.trans (hbn.mono HY.out.size))
       replace HRP2 := hid (HRP2.out.below hbn)
       replace HRQ := hid (HRQ.out.below hbn)
       replace HPB2 := hid (blk_b HPB2.out hbn)
       replace HQB := hid (blk_b HQB.out hbn)
       replace HRF := hid (HRF.out.below hbn)
       replace HFB := hid (blk_b HFB.out hbn)
       replace HRG := hid (HRG.out.below hbn)
       replace HGB := hid (blk_b HGB.out hbn)
       clear hbn
       refine hKX.out _ _ ⟨c3_at HPB2.out,c3_at HQB.out,c3_at HFB.out,c3_at HGB.out⟩ (fun hh => ?_)
       clear hKX KX
       try go_frame
       refine tkA 7 _ hh ?_
       try go_frame
       refine tkA 8 _ hh ?_
       try go_frame
       refine tkA 9 _ hh ?_
       try go_frame
       refine tkB 10 _ hh ?_
       try go_frame
       refine tkB 11 _ hh ?_
       try go_frame
       refine tkB 13 _ hh ?_
       try go_frame
       refine tkB 14 _ hh ?_
       try go_frame
       refine rdH [12] ?_
       refine AllReadyH.cons (o := _) (by simp only [List.getElem?_toArray,List.getElem?_cons_succ,List.getElem?_cons_zero]; rfl) (fun KX hKX => ?_) AllReadyH.nil
       clear hh
       go_simp
       refine (FSame_f _ _ p q _ HRP2.out HRQ.out ZP.out ZQ.out).mono ?_
       rintro e wv ⟨rfl,hbn⟩
       replace HY := hid (HY.out.trans (hbn.mono HY.out.size))
       replace HRP2 := hid (HRP2.out.below hbn)
       replace HRQ := hid (HRQ.out.below hbn)
       replace HPB2 := hid (blk_b HPB2.out hbn)
       replace HQB := hid (blk_b HQB.out hbn)
       replace HRF := hid (HRF.out.below hbn)
       replace HFB := hid (blk_b HFB.out hbn)
       replace HRG := hid (HRG.out.below hbn)
       replace HGB := hid (blk_b HGB.out hbn)
       clear hbn
       refine hKX.out _ _ ⟨c3_at HPB2.out,c3_at HQB.out,c3_at HFB.out,c3_at HGB.out⟩ (fun hh => ?_)
       clear hKX KX
       try go_frame
       refine rdH [15] ?_
       refine AllReadyH.cons (o := _) (by simp only [List.getElem?_toArray,List.getElem?_cons_succ,List.getElem?_cons_zero]; rfl) (fun KX hKX => ?_) AllReadyH.nil
       clear hh
       go_simp
       refine (Same_12 _ _ p q _ HRP2.out HRQ.out ⟨ZP.out.2.2.1,ZP.out.2.2.2⟩).mono ?_
       rintro e wv ⟨rfl,hbn⟩
       replace HY := hid (HY.out.trans (hbn.mono HY.out.size))
       replace HRP2 := hid (HRP2.out.below hbn)
       replace HRQ := hid (HRQ.out.below hbn)
       replace HPB2 := hid (blk_b HPB2.out hbn)
       replace HQB := hid (blk_b HQB.out hbn)
       replace HRF := hid (HRF.out.below hbn)
       replace HFB := hid (blk_b HFB.out hbn)
       replace HRG := hid (HRG.out.below hbn)
       replace HGB := hid (blk_b HGB.out hbn)
       clear hbn
       refine hKX.out _ _ ⟨c3_at HPB2.out,c3_at HQB.out,c3_at HFB.out,c3_at HGB.out⟩ (fun hh => ?_)
       clear hKX KX
       try go_frame
       refine tkA 16 _ hh ?_
       try go_frame
       refine tkA 17 _ hh ?_
       try go_frame
       refine wpAnyH_done (by kernel_rfl) ?_ _
       clear hh
       go_wp2_with fail
       go_roundw
       case rel => exact ⟨j + 1,by go_num,by omega,HY⟩
       case measure => simp [intOf]; omega
      ·obtain rfl : j = 3 := by omega
       have hltj' : ¬ ((3 : Nat) : Int) < 3 := by omega
       have HRP2 := hid (HRP.out.below HY.out)
       have HPB2 := hid (blk_b HPB.out HY.out)
       go_upto_region 20 with fail
       replace HY := hid HY.out.drew
       replace HPB2 : Hid (wr.drew.heap[gp]? = _) := hid HPB2.out
       replace HRP2 : Hid (RdF wr.drew _ _) := hid HRP2.out
       have HCQ : Hid ((caughtP p cls).2.1.length <= 100000 /\ (caughtP p cls).2.2.length <= 100000) := hid ⟨ZP.out.2.2.1,by show (1 : Nat) <= 100000; omega⟩
       refine wp_region_held_drew (S := fun W => (gp < W.heap.size /\ W.cell? ⟨gp,0,none⟩ = some (.bool p.1) /\ W.cell? ⟨gp,1,none⟩ = some (.slice pl' p.2.1.length cl') /\ W.cell? ⟨gp,2,none⟩ = some (.slice ps' p.2.2.length cs'))) (by kernel_rfl) (c3_at HPB2.out) (fun hh => ?_)
       refine tkB 0 _ hh ?_
       try go_frame
       refine tkA 1 _ hh ?_
       try go_frame
       refine tkB 3 _ hh ?_
       try go_frame
       refine tkA 4 _ hh ?_
       try go_frame
       refine rdH [2] ?_
       refine AllReadyH.cons (o := _) (by simp only [List.getElem?_toArray,List.getElem?_cons_succ,List.getElem?_cons_zero]; rfl) (fun KX hKX => ?_) AllReadyH.nil
       clear hh
       go_simp
       refine (Caught_f _ p cls _ HRP2.out ZP.out HCL.out).mono ?_
       rintro e wv ⟨vg,rfl,hf,hbn⟩
       obtain ⟨na0,oa0,nb0,ob0,rfl,f1,f2⟩ := hf
       replace HY := hid (HY.out.trans (hbn.mono HY.out.size))
       replace HRP2 := hid (HRP2.out.below hbn)
       replace HPB2 := hid (blk_b HPB2.out hbn)
       have HK0 : Hid (RdF wv (.agg #[.bool (caughtP p cls).1,.slice na0 (caughtP p cls).2.1.length oa0,.slice nb0 (caughtP p cls).2.2.length ob0]) (caughtP p cls)) := hid ⟨na0,oa0,nb0,ob0,rfl,f1,f2⟩
       clear f1 f2 hbn
       refine hKX.out _ _ (c3_at HPB2.out) (fun hh => ?_)
       clear hKX KX
       try go_frame
       refine rdH [5] ?_
       refine AllReadyH.cons (o := _) (by simp only [List.getElem?_toArray,List.getElem?_cons_succ,List.getElem?_cons_zero]; rfl) (fun KX hKX => ?_) AllReadyH.nil
       clear hh
       go_simp
       refine (Caught_12 _ p cls _ HRP2.out).mono ?_
       rintro e wv ⟨vg,rfl,hf,hbn⟩
       obtain ⟨na1,oa1,nb1,ob1,rfl,f1,f2⟩ := hf
       replace HY := hid (HY.out.trans (hbn.mono HY.out.size))
       replace HRP2 := hid (HRP2.out.below hbn)
       replace HPB2 := hid (blk_b HPB2.out hbn)
       replace HK0 := hid (HK0.out.below hbn)
       have HK1 : Hid (RdF wv (.agg #[.bool (caughtP p cls).1,.slice na1 (caughtP p cls).2.1.length oa1,.slice nb1 (caughtP p cls).2.2.length ob1]) (caughtP p cls)) := hid ⟨na1,oa1,nb1,ob1,rfl,f1,f2⟩
       clear f1 f2 hbn
       refine hKX.out _ _ (c3_at HPB2.out) (fun hh => ?_)
       clear hKX KX
       try go_frame
       refine rdH [6] ?_
       refine AllReadyH.cons (o := _) (by simp only [List.getElem?_toArray,List.getElem?_cons_succ,List.getElem?_cons_zero]; rfl) (fun KX hKX => ?_) AllReadyH.nil
       clear hh
       go_simp
       refine (Same_12 _ _ (caughtP p cls) (caughtP p cls) _ HK0.out HK1.out HCQ.out).mono ?_
       rw [decide_eq_true rfl]
       rintro e wv ⟨rfl,hbn⟩
       replace HY := hid (HY.out.trans (hbn.mono HY.out.size))
       replace HPB2 := hid (blk_b HPB2.out hbn)
       clear hbn
       refine hKX.out _ _ (c3_at HPB2.out) (fun hh => ?_)
       clear hKX KX
       try go_frame
       refine tkA 7 _ hh ?_
       try go_frame
       refine wpAnyH_done (by kernel_rfl) ?_ _
       clear hh
       go_wp2_with fail
       go_roundw
       case rel => exact ⟨i + 1,by go_num,by omega,hid (HBR.out.trans (HY.out.mono HBR.out.size))⟩
       case measure => simp [intOf]; omega
    ·obtain rfl : i = 3 := by omega
     have hlt' : ¬ ((3 : Nat) : Int) < 3 := by omega
     replace HX := hid (blk_b HX.out HBR.out)
     replace HP := hid (HP.out.any (sP.grow _) HBR.out)
     replace HB := hid (HB.out.trans (HBR.out.mono HB.out.size))
     clear HBR
     go_upto_region 23 with fail
     replace HB := hid HB.out.drew
     replace HX : Hid (wr.drew.heap[g + 1]? = _) := hid HX.out
     replace HP : Hid (RdX 2 (sP tyC) anyB wr.drew _ _) := hid HP.out
     refine wp_region_held_drew (S := fun W => W.cell? ⟨g + 1,0,none⟩ = some (.string nm) /\ W.cell? ⟨g + 1,1,none⟩ = some (.slice pp P.length cp) /\ W.cell? ⟨g + 1,2,none⟩ = some (.int .i64 r1) /\ W.cell? ⟨g + 1,3,none⟩ = some (.string r2) /\ W.cell? ⟨g + 1,4,none⟩ = some (.bool st) /\ W.cell? ⟨g + 1,5,none⟩ = some (.bool ab) /\ W.cell? ⟨g + 1,6,none⟩ = some (.int .i64 loc) /\ W.cell? ⟨g + 1,7,none⟩ = some (.slice pc C.length cc) /\ W.cell? ⟨g + 1,8,none⟩ = some (.slice ph H.length ch)) (by kernel_rfl) (m9x_at HX.out) (fun hh => ?_)
     refine tkA 0 _ hh ?_
     try go_frame
     refine tkB 1 _ hh ?_
     try go_frame
     refine tkA 3 _ hh ?_
     try go_frame
     refine tkB 4 _ hh ?_
     try go_frame
     refine rdH [2] ?_
     refine AllReadyH.cons (o := _) (by simp only [List.getElem?_toArray,List.getElem?_cons_succ,List.getElem?_cons_zero]; rfl) (fun KX hKX => ?_) AllReadyH.nil
     clear hh
     go_simp
     refine (Entry_f cls nm (r1,r2) st ab loc pp pc ph P.length cp C.length cc H.length ch P _ HP.out HPM.out.2.2 HPM.out.1 HPM.out.2.1 HCL.out).mono ?_
     rintro e wv ⟨vg,rfl,hf,hbn⟩
     obtain ⟨na0,oa0,nb0,ob0,rfl,f1,f2⟩ := hf
     replace HB := hid (HB.out.trans (hbn.mono HB.out.size))
     replace HX := hid (blk_b HX.out hbn)
     replace HP := hid (HP.out.any (sP.grow _) hbn)
     have HK0 : Hid (RdF wv (.agg #[.bool (entryP cls P st loc).1,.slice na0 (entryP cls P st loc).2.1.length oa0,.slice nb0 (entryP cls P st loc).2.2.length ob0]) (entryP cls P st loc)) := hid ⟨na0,oa0,nb0,ob0,rfl,f1,f2⟩
     clear f1 f2 hbn
     refine hKX.out _ _ (m9x_at HX.out) (fun hh => ?_)
     clear hKX KX
     try go_frame
     refine rdH [5] ?_
     refine AllReadyH.cons (o := _) (by simp only [List.getElem?_toArray,List.getElem?_cons_succ,List.getElem?_cons_zero]; rfl) (fun KX hKX => ?_) AllReadyH.nil
     clear hh
     go_simp
     refine (Entry_12 cls nm (r1,r2) st ab loc pp pc ph P.length cp C.length cc H.length ch P _ HP.out HPM.out.1 HPM.out.2.1).mono ?_
     rintro e wv ⟨vg,rfl,hf,hbn⟩
     obtain ⟨na1,oa1,nb1,ob1,rfl,f1,f2⟩ := hf
     replace HB := hid (HB.out.trans (hbn.mono HB.out.size))
     replace HX := hid (blk_b HX.out hbn)
     replace HP := hid (HP.out.any (sP.grow _) hbn)
     replace HK0 := hid (HK0.out.below hbn)
     have HK1 : Hid (RdF wv (.agg #[.bool (entryP cls P st loc).1,.slice na1 (entryP cls P st loc).2.1.length oa1,.slice nb1 (entryP cls P st loc).2.2.length ob1]) (entryP cls P st loc)) := hid ⟨na1,oa1,nb1,ob1,rfl,f1,f2⟩
     clear f1 f2 hbn
     refine hKX.out _ _ (m9x_at HX.out) (fun hh => ?_)
     clear hKX KX
     try go_frame
     refine rdH [6] ?_
     refine AllReadyH.cons (o := _) (by simp only [List.getElem?_toArray,List.getElem?_cons_succ,List.getElem?_cons_zero]; rfl) (fun KX hKX => ?_) AllReadyH.nil
     clear hh
     go_simp
     refine (Same_12 _ _ (entryP cls P st loc) (entryP cls P st loc) _ HK0.out HK1.out (entryP_len _ _ _ _ HPM.out.2.1)).mono ?_
     rw [decide_eq_true rfl]
     rintro e wv ⟨rfl,hbn⟩
     replace HB := hid (HB.out.trans (hbn.mono HB.out.size))
     replace HX := hid (blk_b HX.out hbn)
     clear hbn
     refine hKX.out _ _ (m9x_at HX.out) (fun hh => ?_)
     clear hKX KX
     try go_frame
     refine tkA 7 _ hh ?_
     try go_frame
     refine wpAnyH_done (by kernel_rfl) ?_ _
     clear hh
     go_wp2_with fail
     go_ret
     exact ⟨rfl,HB.out⟩
end Go.Proofs.YtpkjlgdbaajpoaaGreat.R
