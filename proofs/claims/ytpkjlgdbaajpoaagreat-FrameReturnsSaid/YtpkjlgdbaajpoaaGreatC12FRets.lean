/- Texts that the proof is made of, joined. No condition. -/
import Derived.Test.YtpkjlgdbaajpoaaGreatC1222
import Derived.Deep.DeepCutAuto
import Derived.Deep.CutBlock
import Derived.Test.YtpkjlgdbaajpoaaGreatC12H
set_option linter.unusedVariables false
set_option linter.unusedSimpArgs false
set_option maxRecDepth 100000
set_option maxHeartbeats 16000000
namespace Go.Proofs.YtpkjlgdbaajpoaaGreat.R
open Go.RowKit Go.Proofs.YtpkjlgdbaajpoaaGreat.D Go.Proofs.YtpkjlgdbaajpoaaGreat.O Go.Proofs.YtpkjlgdbaajpoaaGreat.A
def retA (a : Ty) : Ty := if a.1 = 7 ∨ a.1 = 6 then (1,es) else a
def retP (r : Nat) (void : Bool) : Ty := if void = true then (5,es) else retA (ofF r)
theorem kiF_lt : ∀ i : Fin 6,¬ kiF.getD i.val 0 = 5 := by decide
theorem ret_not (r : Nat) : ¬ (retA (ofF r)).1 = 5 := by
 unfold retA
 split
 ·decide
 ·unfold ofF
  split
  ·show ¬ (4 : Int) = 5
   decide
  ·exact kiF_lt ⟨r % 6,Nat.mod_lt _ (by decide)⟩
theorem ret_sz (r : Nat) (v : Bool) : (retP r v).2.size <= 9 := by
 unfold retP retA
 split
 ·exact Nat.zero_le _
 ·split
  ·exact Nat.zero_le _
  ·exact ofF_sz r
theorem set_m {W : World} {gm : Nat} {a1 : Int} {a2 : ByteArray} {k : Int} {s : ByteArray} (h : W.heap[gm]? = some (.cells #[.string ⟨#[]⟩,.slice none 0 0,.int .i64 a1,.string a2,.bool true,.bool false,.int .i64 0,.slice none 0 0,.slice none 0 0] 30 (0,0))) : ((W.setCell ⟨gm,2,none⟩ (.int .i64 k)).setCell ⟨gm,3,none⟩ (.string s)).heap[gm]? = some (.cells #[.string ⟨#[]⟩,.slice none 0 0,.int .i64 k,.string s,.bool true,.bool false,.int .i64 0,.slice none 0 0,.slice none 0 0] 30 (0,0)) := by
 have h1 : (W.setCell ⟨gm,2,none⟩ (.int .i64 k)).heap[gm]? = some (.cells #[.string ⟨#[]⟩,.slice none 0 0,.int .i64 k,.string a2,.bool true,.bool false,.int .i64 0,.slice none 0 0,.slice none 0 0] 30 (0,0)) := by rw [heap_setCell_same _ _ 2 _ _ _ h]; rfl
 rw [heap_setCell_same _ _ 3 _ _ _ h1]
 rfl
theorem m23_at {W : World} {gm : Nat} {a1 : Int} {a2 : ByteArray} (h : W.heap[gm]? = some (.cells #[.string ⟨#[]⟩,.slice none 0 0,.int .i64 a1,.string a2,.bool true,.bool false,.int .i64 0,.slice none 0 0,.slice none 0 0] 30 (0,0))) : W.cell? ⟨gm,2,none⟩ = some (.int .i64 a1) /\ W.cell? ⟨gm,3,none⟩ = some (.string a2) := ⟨by simp [World.cell?,h],by simp [World.cell?,h]⟩
theorem t0_at {W : World} {g : Nat} {a1 : Int} {a2 : ByteArray} (h : CellsAt W g (0 + 0 * 2) (tyC (a1,a2))) : W.cell? ⟨g,0,none⟩ = some (.int .i64 a1) /\ W.cell? ⟨g,1,none⟩ = some (.string a2) := by simpa using h.two
theorem st_39v (T : List Sk) (q b : Ty) (h : q.1 = 5) : stepP T q (true,[],[b]) 39 0 = ((false,[],[]),28) := by unfold stepP; simp [simP,h,noFr]
theorem st_39n (T : List Sk) (q b : Ty) (h : ¬ q.1 = 5) (hf : fitsT T b q = false) : stepP T q (true,[],[b]) 39 0 = ((false,[],[]),29) := by unfold stepP; simp [simP,h,noFr,lastT,hf]
theorem st_39y (T : List Sk) (q b : Ty) (h : ¬ q.1 = 5) (hf : fitsT T b q = true) : stepP T q (true,[],[b]) 39 0 = ((true,[],[]),0) := by unfold stepP; simp [simP,h,lastT,hf]
theorem st_39e (T : List Sk) (q : Ty) : stepP T q (true,[],[]) 39 0 = ((false,[],[]),30) := by unfold stepP; simp [simP,noFr]
theorem st_40v (T : List Sk) (q : Ty) (S : List Ty) (h : q.1 = 5) : stepP T q (true,[],S) 40 0 = ((true,[],S),0) := by unfold stepP; simp [simP,h]
theorem st_40n (T : List Sk) (q : Ty) (S : List Ty) (h : ¬ q.1 = 5) : stepP T q (true,[],S) 40 0 = ((false,[],[]),28) := by unfold stepP; simp [simP,h,noFr]
theorem szf_r (S : List Ty) (h : ∀ t ∈ S,t.2.size <= maxLen) (hl : S.length <= 1) : SzF (true,[],S) := ⟨fun t ht => (by cases ht),h,Nat.zero_le _,by show S.length <= 100000; omega⟩
theorem returns_l (k0 k1 k2 k3 x r : Nat) (void value : Bool) (w : World) (h0 : k0 < 256) (h1 : k1 < 256) (h2 : k2 < 256) (h3 : k3 < 256) (hx : x < 256) (hr : r < 256) :
  Calls Tryz.prog 6 #[.agg #[.int .u8 (k0 : Int),.int .u8 (k1 : Int),.int .u8 (k2 : Int),.int .u8 (k3 : Int)],.int .u8 (x : Int),.int .u8 (r : Int),.bool void,.bool value] w fun e w' => e = .returned (.bool true) /\ Below w.heap.size w w' := by
 obtain ⟨w0,hwn⟩ : ∃ x,x = w.alloc (.cells #[.int .u8 (k0 : Int),.int .u8 (k1 : Int),.int .u8 (k2 : Int),.int .u8 (k3 : Int)] 22) := ⟨_,rfl⟩
 have HB : Hid (Below w.heap.size w w0) := hid (by rw [hwn]; exact below_alR _ _)
 have HK : Hid (w0.heap[w.heap.size]? = some (.cells #[.int .u8 (k0 : Int),.int .u8 (k1 : Int),.int .u8 (k2 : Int),.int .u8 (k3 : Int)] 22 (0,0))) := hid (by rw [hwn]; simp only [al_heap,Array.getElem?_push,Array.size_push]; repeat (first | rw [if_pos (by first | trivial | omega)] | rw [if_neg (by omega)]))
 have HGS : Hid (w.heap.size + 1 = w0.heap.size) := hid (by rw [hwn]; simp)
 go_enter Tryz.func6,Tryz.ntmps6
 try simp only [List.append_eq,List.cons_append,List.nil_append]
 go_upto_region 1 with fail
 rw [<- hwn]
 clear hwn
 obtain ⟨g,hg⟩ : ∃ z,w.heap.size = z := ⟨_,rfl⟩
 rw [hg] at HK ⊢
 clear hg HGS
 go_wp2_with fail
 refine (known_12 w0).mono ?_
 rintro e w1 ⟨rfl,hb1⟩
 replace HK := hid (blk_b HK.out hb1)
 have HB1 := hid (HB.out.trans (hb1.mono HB.out.size))
 clear hb1 HB
 obtain ⟨xl,xc,-⟩ := boxN HK.out
 have x0 := xc 0 _ rfl
 have x1 := xc 1 _ rfl
 have x2 := xc 2 _ rfl
 have x3 := xc 3 _ rfl
 simp only [Nat.zero_add] at x0 x1 x2 x3
 clear xc
 go_wp2_with fail
 clear xl x0 x1 x2 x3
 refine (archive_0 k0 k1 k2 k3 w1 h0 h1 h2 h3).mono ?_
 rintro e w2 ⟨p1,n1,c1',rfl,hr1,hb2⟩
 obtain ⟨_,_,e1,-⟩ := hr1.len
 simp only [Value.slice.injEq] at e1
 obtain ⟨rfl,rfl,rfl⟩ := e1
 have HR1 := hid hr1
 have HB2 := hid (HB1.out.trans (hb2.mono HB1.out.size))
 clear hr1 hb2 HB1 HK h0 h1 h2 h3
 go_upto_region 4 with fail
 have HR0 := HR1
 have HSZ0 := hid (seat_sz8 k0 k1 k2 k3)
 have HFW0 := hid (seat_few k0 k1 k2 k3)
 have HKT0 := hid (seat_kept k0 k1 k2 k3)
 have HAT0 := hid (seat_sk k0 k1 k2 k3)
 obtain ⟨T,hT⟩ : ∃ t,(tabT (bitS k0 3) (bitS k0 6) (bitS k2 2)) = t := ⟨_,rfl⟩
 obtain ⟨AR,hAR⟩ : ∃ t,archS k0 k1 k2 k3 [] [] = t := ⟨_,rfl⟩
 rw [hAR] at HR0 HSZ0 HFW0 HKT0 HAT0 ⊢
 rw [hT] at HKT0 HAT0
 have HKT := HKT0
 have HAT := HAT0
 have HSZ := HSZ0
 have HFW := HFW0
 have HIF : Hid (∀ s,(ifsT T s).length <= 1000) := hid (fun s => by rw [<- HAT.out]; exact Nat.le_trans (HSZ.out.ifs s).1 (by omega))
 have HLE : Hid (AR.length <= 1000) := hid (by have := HSZ.out.1; rwa [List.length_map] at this)
 obtain ⟨wz,hwz⟩ : ∃ x,x = w2.alloc (.cells #[.slice p1 AR.length c1'] 35) := ⟨_,rfl⟩
 have hbz := below_alR w2 (.cells #[.slice p1 AR.length c1'] 35)
 have HZ : Hid (wz.heap[w2.heap.size]? = some (.cells #[.slice p1 AR.length c1'] 35 (0,0))) := hid (by rw [hwz]; exact heap_alloc_new _ _)
 rw [<- hwz] at hbz ⊢
 have HR := hid (HR0.out.any cP.grow hbz)
 have HB := hid (HB2.out.trans (hbz.mono HB2.out.size))
 have HBZ : Hid (Below wz.heap.size wz wz.drew) := hid (Below.refl wz.heap.size wz).drew
 obtain ⟨gz,hgz⟩ : ∃ z,w2.heap.size = z := ⟨_,rfl⟩
 rw [hgz] at HZ ⊢
 replace HZ : Hid (wz.drew.heap[gz]? = _) := hid HZ.out
 clear hbz hwz hgz hT hAR HR0 HR1 HSZ0 HFW0 HKT0 HAT0 HB2
 go_cut [12,13] from 26 to 31 (fun s12 s13 wx => ∃ (tb rb : Nat) (ok1 ok2 : Nat -> Prop) (K : List Cls),s12 = .pointer (some ⟨tb,0,none⟩) /\ s13 = .pointer (some ⟨rb,0,none⟩) /\ Hid (TwoW wx ok1 ok2 (.pointer (some ⟨tb,0,none⟩)) K rb p1 c1' AR T) /\ Hid (Below wz.heap.size wz wx))
 case first =>
  refine wp_region_held_drew (S := fun W => gz < W.heap.size /\ W.cell? ⟨gz,0,none⟩ = some (.slice p1 AR.length c1')) (by kernel_rfl) (c1_at HZ.out) (fun hh => ?_)
  refine tkB 0 _ hh ?_
  try go_frame
  refine tkB 2 _ hh ?_
  try go_frame
  refine tkA 3 _ hh ?_
  try go_frame
  refine rdH [1,4] ?_
  refine AllReadyH.cons (o := _) (by simp only [List.getElem?_toArray,List.getElem?_cons_succ,List.getElem?_cons_zero]; rfl) (fun KX hKX => ?_) ?_
  ·clear hh
   go_simp
   refine (New_t AR p1 c1' _ _ (HR.out.any cP.grow HBZ.out) HSZ.out HFW.out).mono ?_
   rintro e wn ⟨tb,mb,vs,rfl,ht,hbn⟩
   replace HZ := hid (blk_below HZ.out hbn)
   replace HBZ := hid (HBZ.out.trans (hbn.mono HBZ.out.size))
   have HTR := hid ht
   clear hbn ht
   refine hKX.out _ _ (c1_at HZ.out) (fun hh => ?_)
   clear hKX KX
   try go_frame
   refine tkA 5 _ hh ?_
   try go_frame
   refine rdH [4] ?_
   refine AllReadyH.cons (o := _) (by simp only [List.getElem?_toArray,List.getElem?_cons_succ,List.getElem?_cons_zero]; rfl) (fun KX hKX => ?_) AllReadyH.nil
   clear hh
   go_simp
   have hbn := below_alR wn (.cells #[.slice p1 AR.length c1'] 41)
   have HRB := hid (heap_alloc_new wn (.cells #[.slice p1 AR.length c1'] 41))
   replace HZ := hid (blk_below HZ.out hbn)
   replace HBZ := hid (HBZ.out.trans (hbn.mono HBZ.out.size))
   replace HTR := hid (HTR.out.below hbn)
   clear hbn
   refine hKX.out _ _ (c1_at HZ.out) (fun hh => ?_)
   clear hKX KX
   try go_frame
   refine tkA 6 _ hh ?_
   try go_frame
   refine wpAnyH_done (by kernel_rfl) ?_ _
   clear hh
   go_wp2_with fail
   go_meet
   case rel => exact ⟨tb,_,_,_,_,rfl,rfl,hid ⟨.inl ⟨tb,mb,vs,rfl,HTR.out⟩,⟨HRB.out,HR.out.any cP.grow HBZ.out,HLE.out⟩,HKT.out,HAT.out,HIF.out⟩,HBZ⟩
  refine AllReadyH.cons (o := _) (by simp only [List.getElem?_toArray,List.getElem?_cons_succ,List.getElem?_cons_zero]; rfl) (fun KX hKX => ?_) AllReadyH.nil
  clear hh
  go_simp
  have hbn := below_alR wz.drew (.cells #[.slice p1 AR.length c1'] 41)
  have HRB := hid (heap_alloc_new wz.drew (.cells #[.slice p1 AR.length c1'] 41))
  replace HZ := hid (blk_below HZ.out hbn)
  replace HBZ := hid (HBZ.out.trans (hbn.mono HBZ.out.size))
  clear hbn
  refine hKX.out _ _ (c1_at HZ.out) (fun hh => ?_)
  clear hKX KX
  try go_frame
  refine rdH [1] ?_
  refine AllReadyH.cons (o := _) (by simp only [List.getElem?_toArray,List.getElem?_cons_succ,List.getElem?_cons_zero]; rfl) (fun KX hKX => ?_) AllReadyH.nil
  clear hh
  go_simp
  refine (New_t AR p1 c1' _ _ (HR.out.any cP.grow HBZ.out) HSZ.out HFW.out).mono ?_
  rintro e wn ⟨tb,mb,vs,rfl,ht,hbn⟩
  replace HZ := hid (blk_below HZ.out hbn)
  replace HBZ := hid (HBZ.out.trans (hbn.mono HBZ.out.size))
  have HTR := hid ht
  replace HRB := hid (blk_below HRB.out hbn)
  clear hbn ht
  refine hKX.out _ _ (c1_at HZ.out) (fun hh => ?_)
  clear hKX KX
  try go_frame
  refine tkA 5 _ hh ?_
  try go_frame
  refine tkA 6 _ hh ?_
  try go_frame
  refine wpAnyH_done (by kernel_rfl) ?_ _
  clear hh
  go_wp2_with fail
  go_meet
  case rel => exact ⟨tb,_,_,_,_,rfl,rfl,hid ⟨.inl ⟨tb,mb,vs,rfl,HTR.out⟩,⟨HRB.out,HR.out.any cP.grow HBZ.out,HLE.out⟩,HKT.out,HAT.out,HIF.out⟩,HBZ⟩
 case rest =>
  obtain ⟨tb,rb,ok1,ok2,K,rfl,rfl,HT,hbz⟩ := hcut
  replace HB := hid (HB.out.trans (hbz.out.mono HB.out.size))
  obtain ⟨w4,hw4⟩ : ∃ z,z = wc := ⟨_,rfl⟩
  rw [<- hw4] at HT HB ⊢
  clear hw4 hbz HR HZ HBZ HKT HAT HSZ HFW HIF HLE
  have HQ : Hid (Below w4.heap.size w4 w4) := hid (Below.refl _ _)
  obtain ⟨⟨a1,a2⟩,ha⟩ : ∃ z,ofF r = z := ⟨_,rfl⟩
  have HAE := hid ha
  go_wp2_with fail
  refine (of_12 r _ hr).mono ?_
  rw [HAE.out,tyv_pair]
  dsimp only
  rintro e w5 ⟨rfl,hbn⟩
  replace HQ := hid (HQ.out.trans hbn)
  clear hbn ha
  go_upto_region 6 with fail
  have HM := hid (heap_alloc_new w5 (.cells #[.string ⟨#[]⟩,.slice none 0 0,.int .i64 a1,.string a2,.bool true,.bool false,.int .i64 0,.slice none 0 0,.slice none 0 0] 30))
  have hbn := below_alR w5 (.cells #[.string ⟨#[]⟩,.slice none 0 0,.int .i64 a1,.string a2,.bool true,.bool false,.int .i64 0,.slice none 0 0,.slice none 0 0] 30)
  obtain ⟨w6,hw6⟩ : ∃ z,z = w5.alloc (.cells #[.string ⟨#[]⟩,.slice none 0 0,.int .i64 a1,.string a2,.bool true,.bool false,.int .i64 0,.slice none 0 0,.slice none 0 0] 30) := ⟨_,rfl⟩
  have HGM : Hid (w4.heap.size <= w5.heap.size) := hid HQ.out.size
  replace HQ := hid (HQ.out.trans (hbn.mono HQ.out.size))
  rw [<- hw6] at HM HQ ⊢
  obtain ⟨gm,hgm⟩ : ∃ z,w5.heap.size = z := ⟨_,rfl⟩
  rw [hgm] at HM HGM ⊢
  clear hbn hw6 hgm
  obtain ⟨⟨b1,b2⟩,hb⟩ : ∃ z,retA (a1,a2) = z := ⟨_,rfl⟩
  have HBE := hid hb
  clear hb
  obtain ⟨zl,zc,zf⟩ := boxN HM.out
  have z0 := zc 0 _ rfl
  have z1 := zc 1 _ rfl
  have z2 := zc 2 _ rfl
  have z3 := zc 3 _ rfl
  have z4 := zc 4 _ rfl
  have z5 := zc 5 _ rfl
  have z6 := zc 6 _ rfl
  have z7 := zc 7 _ rfl
  have z8 := zc 8 _ rfl
  have zu0 := zf 0
  have zu1 := zf 1
  have zu2 := zf 2
  have zu3 := zf 3
  have zu4 := zf 4
  have zu5 := zf 5
  have zu6 := zf 6
  have zu7 := zf 7
  have zu8 := zf 8
  simp only [Nat.zero_add] at z0 z1 z2 z3 z4 z5 z6 z7 z8
  clear zc zf
  obtain ⟨hb,hhb⟩ : ∃ z,(decide (a1 = 7) || decide (a1 = 6)) = z := ⟨_,rfl⟩
  have HHB := hid hhb
  clear hhb
  go_cut [43] from 34 to 44 (fun s43 wx => s43 = .bool hb /\ Hid (wx = w6))
  case first =>
   by_cases h7 : a1 = 7
   ·subst h7
    obtain rfl : true = hb := HHB.out
    go_wp2_with fail
    go_meet
    case rel => exact ⟨rfl,hid rfl⟩
   by_cases h6 : a1 = 6
   ·subst h6
    obtain rfl : true = hb := HHB.out
    go_wp2_with fail
    go_meet
    case rel => exact ⟨rfl,hid rfl⟩
   obtain rfl : false = hb := by have h := HHB.out; simp [h7,h6] at h; exact h.symm
   have e7 : (a1 == 7) = false := by simpa using h7
   have e6 : (a1 == 6) = false := by simpa using h6
   go_wp2_with fail
   go_meet
   case rel => exact ⟨rfl,hid rfl⟩
  case rest =>
   obtain ⟨rfl,hwx⟩ := hcut
   obtain rfl := hwx.out
   clear hwx
   go_upto_if 43 with fail
   go_cut [] from 44 to 46 (fun wx => Hid (wx.heap[gm]? = some (.cells #[.string ⟨#[]⟩,.slice none 0 0,.int .i64 b1,.string b2,.bool true,.bool false,.int .i64 0,.slice none 0 0,.slice none 0 0] 30 (0,0))) /\ Hid (Below w4.heap.size w4 wx))
   case first =>
    cases hb with
    | true =>
     have h7 : a1 = 7 ∨ a1 = 6 := by have h := HHB.out; simpa using h
     obtain ⟨rfl,rfl⟩ : b1 = 1 /\ b2 = ⟨#[]⟩ := by have h := HBE.out; unfold retA at h; rw [if_pos h7] at h; cases h; exact ⟨rfl,rfl⟩
     clear h7
     go_wp2_with fail
     go_meet
     case rel => exact ⟨hid (set_m HM.out),hid (HQ.out.trans (set2_bl HGM.out HQ.out.size))⟩
    | false =>
     have h7 : ¬ (a1 = 7 ∨ a1 = 6) := by have h := HHB.out; simpa using h
     obtain ⟨rfl,rfl⟩ : a1 = b1 /\ a2 = b2 := by have h := HBE.out; unfold retA at h; rw [if_neg h7] at h; cases h; exact ⟨rfl,rfl⟩
     clear h7
     go_wp2_with fail
     go_meet
     case rel => exact ⟨HM,HQ⟩
   case rest =>
    obtain ⟨HM2,HQ2⟩ := hcut
    obtain ⟨w7,hw7⟩ : ∃ z,z = wc := ⟨_,rfl⟩
    rw [<- hw7] at HM2 HQ2 ⊢
    clear hw7 HM HQ
    clear zl z0 z1 z2 z3 z4 z5 z6 z7 z8 zu0 zu1 zu2 zu3 zu4 zu5 zu6 zu7 zu8
    obtain ⟨⟨q1,q2⟩,hq⟩ : ∃ z,retP r void = z := ⟨_,rfl⟩
    have HQE := hid hq
    have HQS : Hid (q2.size <= maxLen) := hid (by have := ret_sz r void; rw [hq] at this; exact Nat.le_trans this (by decide))
    have HQV : Hid (decide (q1 = 5) = void) := hid (by cases void; (have := ret_not r; unfold retP at hq; rw [if_neg (by simp)] at hq; rw [hq] at this; simpa using this); (unfold retP at hq; rw [if_pos rfl] at hq; cases hq; rfl))
    clear hq
    obtain ⟨zl,zc,zf⟩ := boxN HM2.out
    have z0 := zc 0 _ rfl
    have z1 := zc 1 _ rfl
    have z2 := zc 2 _ rfl
    have z3 := zc 3 _ rfl
    have z4 := zc 4 _ rfl
    have z5 := zc 5 _ rfl
    have z6 := zc 6 _ rfl
    have z7 := zc 7 _ rfl
    have z8 := zc 8 _ rfl
    have zu0 := zf 0
    have zu1 := zf 1
    have zu2 := zf 2
    have zu3 := zf 3
    have zu4 := zf 4
    have zu5 := zf 5
    have zu6 := zf 6
    have zu7 := zf 7
    have zu8 := zf 8
    simp only [Nat.zero_add] at z0 z1 z2 z3 z4 z5 z6 z7 z8
    clear zc zf
    go_upto_if 46 with fail
    go_cut [] from 46 to 49 (fun wx => Hid (wx.heap[gm]? = some (.cells #[.string ⟨#[]⟩,.slice none 0 0,.int .i64 q1,.string q2,.bool true,.bool false,.int .i64 0,.slice none 0 0,.slice none 0 0] 30 (0,0))) /\ Hid (Below w4.heap.size w4 wx))
    case first =>
     cases void with
     | true =>
      obtain ⟨rfl,rfl⟩ : q1 = 5 /\ q2 = ⟨#[]⟩ := by have h := HQE.out; unfold retP at h; rw [if_pos rfl] at h; cases h; exact ⟨rfl,rfl⟩
      go_wp2_with fail
      go_meet
      case rel => exact ⟨hid (set_m HM2.out),hid (HQ2.out.trans (set2_bl HGM.out HQ2.out.size))⟩
     | false =>
      obtain ⟨rfl,rfl⟩ : b1 = q1 /\ b2 = q2 := by have h := HQE.out; unfold retP at h; rw [if_neg (by simp),HAE.out,HBE.out] at h; cases h; exact ⟨rfl,rfl⟩
      go_wp2_with fail
      go_meet
      case rel => exact ⟨HM2,HQ2⟩
    case rest =>
     obtain ⟨HM,HQ⟩ := hcut
     obtain ⟨w8,hw8⟩ : ∃ z,z = wc := ⟨_,rfl⟩
     rw [<- hw8] at HM HQ ⊢
     clear hw8 HM2 HQ2 HAE HBE HQE
     clear zl z0 z1 z2 z3 z4 z5 z6 z7 z8 zu0 zu1 zu2 zu3 zu4 zu5 zu6 zu7 zu8
     obtain ⟨⟨y1,y2⟩,hy⟩ : ∃ z,ofF x = z := ⟨_,rfl⟩
     have HYE := hid hy
     have HYS : Hid (y2.size <= maxLen) := hid (by have := ofF_sz x; rw [hy] at this; exact Nat.le_trans this (by decide))
     clear hy
     go_wp2_with fail
     refine (of_12 x _ hx).mono ?_
     rw [HYE.out,tyv_pair]
     dsimp only
     rintro e w9 ⟨rfl,hbn⟩
     replace HM := hid (blk_b HM.out hbn)
     replace HQ := hid (HQ.out.trans (hbn.mono HQ.out.size))
     clear hbn HYE
     go_upto_region 11 with fail
     have hal := below_alR w9 (.cells #[.int .i64 y1,.string y2] 26)
     have hsr := rdX_lit1 (sz := 2) (c := tyC) (fun _ => rfl) w9 ((y1,y2) : Ty) #[.int .i64 y1,.string y2] 26 rfl
     obtain ⟨wa,hwa⟩ : ∃ z,z = w9.alloc (.cells #[.int .i64 y1,.string y2] 26) := ⟨_,rfl⟩
     rw [<- hwa] at hal hsr ⊢
     have hsz : wa.heap.size = w9.heap.size + 1 := by rw [hwa]; simp
     have hbn := below_alR wa (.cells #[.bool true,.slice none 0 0,.slice (some ⟨w9.heap.size,0,none⟩) 1 1] 44)
     have HF := hid (heap_alloc_new wa (.cells #[.bool true,.slice none 0 0,.slice (some ⟨w9.heap.size,0,none⟩) 1 1] 44))
     obtain ⟨wb,hwb⟩ : ∃ z,z = wa.alloc (.cells #[.bool true,.slice none 0 0,.slice (some ⟨w9.heap.size,0,none⟩) 1 1] 44) := ⟨_,rfl⟩
     replace HM := hid (blk_b (blk_b HM.out hal) hbn)
     replace HQ := hid (HQ.out.trans ((hal.trans (hbn.mono hal.size)).mono HQ.out.size))
     have HS := hid (hsr.any (sP.grow _) hbn)
     rw [<- hwb] at HF HM HQ HS ⊢
     obtain ⟨gs,hgs⟩ : ∃ z,w9.heap.size = z := ⟨_,rfl⟩
     obtain ⟨gf,hgf⟩ : ∃ z,wa.heap.size = z := ⟨_,rfl⟩
     have hgg : gf = gs + 1 := by omega
     rw [hgs] at HF HS hsz ⊢
     rw [hgf] at HF
     subst hgg
     clear hal hsr hwa hsz hbn hwb hgs hgf
     cases value with
     | true =>
      cases void with
      | true =>
       have hq5 : q1 = 5 := by have := HQV.out; simpa using this
       have HE1 := hid (st_39v T (q1,q2) (y1,y2) hq5)
       have HE2 := hid (st_39e T (q1,q2))
       clear hq5
       obtain ⟨zl,zc,zf⟩ := boxN HM.out
       have z0 := zc 0 _ rfl
       have z1 := zc 1 _ rfl
       have z2 := zc 2 _ rfl
       have z3 := zc 3 _ rfl
       have z4 := zc 4 _ rfl
       have z5 := zc 5 _ rfl
       have z6 := zc 6 _ rfl
       have z7 := zc 7 _ rfl
       have z8 := zc 8 _ rfl
       simp only [Nat.zero_add] at z0 z1 z2 z3 z4 z5 z6 z7 z8
       clear zc zf
       obtain ⟨fl,f0,f1,f2⟩ := c3_at HF.out
       go_wp2_with fail
       clear zl z0 z1 z2 z3 z4 z5 z6 z7 z8
       clear fl f0 f1 f2
       refine (Step_f ok1 tb K ⟨#[]⟩ (q1,q2) true false 0 none none none 0 0 0 0 0 0 _ (true,[],[(y1,y2)]) 39 0 _ (HT.out.below HQ.out).1 ⟨none,0,some ⟨gs,0,none⟩,1,rfl,RdX.nil _ _ _ _,HS.out⟩ (szf_r [(y1,y2)] (fun t ht => by rw [List.mem_singleton.1 ht]; exact HYS.out) (by simp)) HQS.out (.inl (by decide)) ⟨Nat.zero_le _,by simp⟩).mono ?_
       rw [HT.out.2.2.1]
       rw [HE1.out]
       rintro e wd ⟨vg,rfl,⟨pl,cl,ps,cs,rfl,-,-⟩,hbn⟩
       replace HM := hid (blk_b HM.out hbn)
       replace HF := hid (blk_b HF.out hbn)
       replace HS := hid (HS.out.any (sP.grow _) hbn)
       replace HQ := hid (HQ.out.trans (hbn.mono HQ.out.size))
       clear hbn HE1
       go_upto_region 15 with fail
       have hbn := below_alR wd (.cells #[.bool false,.slice pl 0 cl,.slice ps 0 cs] 44)
       have HG := hid (heap_alloc_new wd (.cells #[.bool false,.slice pl 0 cl,.slice ps 0 cs] 44))
       obtain ⟨we,hwe⟩ : ∃ z,z = wd.alloc (.cells #[.bool false,.slice pl 0 cl,.slice ps 0 cs] 44) := ⟨_,rfl⟩
       obtain ⟨gg,hgg⟩ : ∃ z,wd.heap.size = z := ⟨_,rfl⟩
       replace HM := hid (blk_b HM.out hbn)
       replace HF := hid (blk_b HF.out hbn)
       replace HS := hid (HS.out.any (sP.grow _) hbn)
       replace HQ := hid (HQ.out.trans (hbn.mono HQ.out.size))
       rw [<- hwe] at HG HM HF HS HQ ⊢
       rw [hgg] at HG ⊢
       clear hbn hwe hgg
       obtain ⟨zl,zc,zf⟩ := boxN HM.out
       have z0 := zc 0 _ rfl
       have z1 := zc 1 _ rfl
       have z2 := zc 2 _ rfl
       have z3 := zc 3 _ rfl
       have z4 := zc 4 _ rfl
       have z5 := zc 5 _ rfl
       have z6 := zc 6 _ rfl
       have z7 := zc 7 _ rfl
       have z8 := zc 8 _ rfl
       simp only [Nat.zero_add] at z0 z1 z2 z3 z4 z5 z6 z7 z8
       clear zc zf
       go_wp2_with fail
       clear zl z0 z1 z2 z3 z4 z5 z6 z7 z8
       refine (Step_f ok1 tb K ⟨#[]⟩ (q1,q2) true false 0 none none none 0 0 0 0 0 0 _ (true,[],[]) 39 0 _ (HT.out.below HQ.out).1 ⟨none,0,none,0,rfl,RdX.nil _ _ _ _,RdX.nil _ _ _ _⟩ (szf_r [] (fun t ht => by cases ht) (by simp)) HQS.out (.inl (by decide)) ⟨Nat.zero_le _,by simp⟩).mono ?_
       rw [HT.out.2.2.1]
       rw [HE2.out]
       rintro e wh ⟨vh,rfl,⟨pm,cm,pt,ct,rfl,-,-⟩,hbn⟩
       replace HM := hid (blk_b HM.out hbn)
       replace HF := hid (blk_b HF.out hbn)
       replace HG := hid (blk_b HG.out hbn)
       replace HS := hid (HS.out.any (sP.grow _) hbn)
       replace HQ := hid (HQ.out.trans (hbn.mono HQ.out.size))
       clear hbn HE2
       go_wp2_with fail
       go_ret
       exact ⟨rfl,HB.out.trans ((HQ.out.trans ((below_alR _ _).mono HQ.out.size)).mono HB.out.size)⟩
      | false =>
       have hq5 : ¬ q1 = 5 := by have := HQV.out; simpa using this
       cases hf : fitsT T (y1,y2) (q1,q2) with
       | false =>
        have HF9 := hid hf
        have HE1 := hid (st_39n T (q1,q2) (y1,y2) hq5 hf)
        have HE2 := hid (st_39e T (q1,q2))
        clear hq5 hf
        obtain ⟨zl,zc,zf⟩ := boxN HM.out
        have z0 := zc 0 _ rfl
        have z1 := zc 1 _ rfl
        have z2 := zc 2 _ rfl
        have z3 := zc 3 _ rfl
        have z4 := zc 4 _ rfl
        have z5 := zc 5 _ rfl
        have z6 := zc 6 _ rfl
        have z7 := zc 7 _ rfl
        have z8 := zc 8 _ rfl
        simp only [Nat.zero_add] at z0 z1 z2 z3 z4 z5 z6 z7 z8
        clear zc zf
        obtain ⟨fl,f0,f1,f2⟩ := c3_at HF.out
        go_wp2_with fail
        clear zl z0 z1 z2 z3 z4 z5 z6 z7 z8
        clear fl f0 f1 f2
        refine (Step_f ok1 tb K ⟨#[]⟩ (q1,q2) true false 0 none none none 0 0 0 0 0 0 _ (true,[],[(y1,y2)]) 39 0 _ (HT.out.below HQ.out).1 ⟨none,0,some ⟨gs,0,none⟩,1,rfl,RdX.nil _ _ _ _,HS.out⟩ (szf_r [(y1,y2)] (fun t ht => by rw [List.mem_singleton.1 ht]; exact HYS.out) (by simp)) HQS.out (.inl (by decide)) ⟨Nat.zero_le _,by simp⟩).mono ?_
        rw [HT.out.2.2.1]
        rw [HE1.out]
        rintro e wd ⟨vg,rfl,⟨pl,cl,ps,cs,rfl,-,-⟩,hbn⟩
        replace HM := hid (blk_b HM.out hbn)
        replace HF := hid (blk_b HF.out hbn)
        replace HS := hid (HS.out.any (sP.grow _) hbn)
        replace HQ := hid (HQ.out.trans (hbn.mono HQ.out.size))
        clear hbn HE1
        go_upto_region 15 with fail
        have hbn := below_alR wd (.cells #[.bool false,.slice pl 0 cl,.slice ps 0 cs] 44)
        have HG := hid (heap_alloc_new wd (.cells #[.bool false,.slice pl 0 cl,.slice ps 0 cs] 44))
        obtain ⟨we,hwe⟩ : ∃ z,z = wd.alloc (.cells #[.bool false,.slice pl 0 cl,.slice ps 0 cs] 44) := ⟨_,rfl⟩
        obtain ⟨gg,hgg⟩ : ∃ z,wd.heap.size = z := ⟨_,rfl⟩
        replace HM := hid (blk_b HM.out hbn)
        replace HF := hid (blk_b HF.out hbn)
        replace HS := hid (HS.out.any (sP.grow _) hbn)
        replace HQ := hid (HQ.out.trans (hbn.mono HQ.out.size))
        rw [<- hwe] at HG HM HF HS HQ ⊢
        rw [hgg] at HG ⊢
        clear hbn hwe hgg
        obtain ⟨zl,zc,zf⟩ := boxN HM.out
        have z0 := zc 0 _ rfl
        have z1 := zc 1 _ rfl
        have z2 := zc 2 _ rfl
        have z3 := zc 3 _ rfl
        have z4 := zc 4 _ rfl
        have z5 := zc 5 _ rfl
        have z6 := zc 6 _ rfl
        have z7 := zc 7 _ rfl
        have z8 := zc 8 _ rfl
        simp only [Nat.zero_add] at z0 z1 z2 z3 z4 z5 z6 z7 z8
        clear zc zf
        go_wp2_with fail
        clear zl z0 z1 z2 z3 z4 z5 z6 z7 z8
        refine (Step_f ok1 tb K ⟨#[]⟩ (q1,q2) true false 0 none none none 0 0 0 0 0 0 _ (true,[],[]) 39 0 _ (HT.out.below HQ.out).1 ⟨none,0,none,0,rfl,RdX.nil _ _ _ _,RdX.nil _ _ _ _⟩ (szf_r [] (fun t ht => by cases ht) (by simp)) HQS.out (.inl (by decide)) ⟨Nat.zero_le _,by simp⟩).mono ?_
        rw [HT.out.2.2.1]
        rw [HE2.out]
        rintro e wh ⟨vh,rfl,⟨pm,cm,pt,ct,rfl,-,-⟩,hbn⟩
        replace HM := hid (blk_b HM.out hbn)
        replace HF := hid (blk_b HF.out hbn)
        replace HG := hid (blk_b HG.out hbn)
        replace HS := hid (HS.out.any (sP.grow _) hbn)
        replace HQ := hid (HQ.out.trans (hbn.mono HQ.out.size))
        clear hbn HE2
        go_upto_region 18 with fail
        have hbn := below_alR wh (.cells #[.bool false,.slice pm 0 cm,.slice pt 0 ct] 44)
        obtain ⟨wi,hwi⟩ : ∃ z,z = wh.alloc (.cells #[.bool false,.slice pm 0 cm,.slice pt 0 ct] 44) := ⟨_,rfl⟩
        replace HM := hid (blk_b HM.out hbn)
        replace HF := hid (blk_b HF.out hbn)
        replace HG := hid (blk_b HG.out hbn)
        replace HS := hid (HS.out.any (sP.grow _) hbn)
        replace HQ := hid (HQ.out.trans (hbn.mono HQ.out.size))
        rw [<- hwi] at HM HF HG HS HQ ⊢
        clear hbn hwi
        obtain ⟨bs,os,e9,-,-,-,hgs,hcs⟩ := HS.out.place (by simp)
        cases e9
        have HCS := hid (sP_at (hcs 0 _ rfl))
        have HGL := hid hgs
        clear hgs hcs
        replace HM : Hid (wi.drew.heap[gm]? = _) := hid HM.out
        replace HF : Hid (wi.drew.heap[gs + 1]? = _) := hid HF.out
        replace HG : Hid (wi.drew.heap[gg]? = _) := hid HG.out
        replace HCS : Hid (CellsAt wi.drew _ _ _) := hid HCS.out
        replace HGL : Hid (_ < wi.drew.heap.size) := hid HGL.out
        replace HQ := hid HQ.out.drew
        refine wp_region_held_drew (S := fun W => (W.cell? ⟨gm,2,none⟩ = some (.int .i64 q1) /\ W.cell? ⟨gm,3,none⟩ = some (.string q2)) /\ W.cell? ⟨gs + 1,2,none⟩ = some (.slice (some ⟨gs,0,none⟩) 1 1) /\ W.cell? ⟨gs,0,none⟩ = some (.int .i64 y1) /\ W.cell? ⟨gs,1,none⟩ = some (.string y2)) (by kernel_rfl) ⟨m23_at HM.out,(c3_at HF.out).2.2.2,t0_at HCS.out⟩ (fun hh => ?_)
        refine tkA 0 _ hh ?_
        try go_frame
        refine tkA 1 _ hh ?_
        try go_frame
        refine tkA 2 _ hh ?_
        try go_frame
        refine tkA 3 _ hh ?_
        try go_frame
        refine tkB 4 _ hh ?_
        try go_frame
        refine tkA 5 _ hh ?_
        try go_frame
        refine tkB 6 _ hh ?_
        try go_frame
        refine tkA 7 _ hh ?_
        try go_frame
        refine tkB 8 _ hh ?_
        try go_frame
        refine rdH [9] ?_
        refine AllReadyH.cons (o := _) (by simp only [List.getElem?_toArray,List.getElem?_cons_succ,List.getElem?_cons_zero]; rfl) (fun KX hKX => ?_) AllReadyH.nil
        clear hh
        go_simp
        refine ((HT.out.below HQ.out).rfits).mono ?_
        rw [HF9.out]
        rintro e wj ⟨rfl,hbn⟩
        replace HM := hid (blk_b HM.out hbn)
        replace HF := hid (blk_b HF.out hbn)
        replace HG := hid (blk_b HG.out hbn)
        replace HCS := hid (HCS.out.below hbn HGL.out)
        replace HGL := hid (Nat.lt_of_lt_of_le HGL.out hbn.size)
        replace HQ := hid (HQ.out.trans (hbn.mono HQ.out.size))
        clear hbn
        refine hKX.out _ _ ⟨m23_at HM.out,(c3_at HF.out).2.2.2,t0_at HCS.out⟩ (fun hh => ?_)
        clear hKX KX
        try go_frame
        refine tkA 10 _ hh ?_
        try go_frame
        refine tkA 11 _ hh ?_
        try go_frame
        refine tkA 12 _ hh ?_
        try go_frame
        refine wpAnyH_done (by kernel_rfl) ?_ _
        clear hh
        obtain ⟨hl_,g0_,g1_,g2_⟩ := c3_at HG.out
        go_wp2_with fail
        go_ret
        exact ⟨rfl,HB.out.trans (HQ.out.mono HB.out.size)⟩
       | true =>
        have HF9 := hid hf
        have HE1 := hid (st_39y T (q1,q2) (y1,y2) hq5 hf)
        have HE2 := hid (st_39e T (q1,q2))
        clear hq5 hf
        obtain ⟨zl,zc,zf⟩ := boxN HM.out
        have z0 := zc 0 _ rfl
        have z1 := zc 1 _ rfl
        have z2 := zc 2 _ rfl
        have z3 := zc 3 _ rfl
        have z4 := zc 4 _ rfl
        have z5 := zc 5 _ rfl
        have z6 := zc 6 _ rfl
        have z7 := zc 7 _ rfl
        have z8 := zc 8 _ rfl
        simp only [Nat.zero_add] at z0 z1 z2 z3 z4 z5 z6 z7 z8
        clear zc zf
        obtain ⟨fl,f0,f1,f2⟩ := c3_at HF.out
        go_wp2_with fail
        clear zl z0 z1 z2 z3 z4 z5 z6 z7 z8
        clear fl f0 f1 f2
        refine (Step_f ok1 tb K ⟨#[]⟩ (q1,q2) true false 0 none none none 0 0 0 0 0 0 _ (true,[],[(y1,y2)]) 39 0 _ (HT.out.below HQ.out).1 ⟨none,0,some ⟨gs,0,none⟩,1,rfl,RdX.nil _ _ _ _,HS.out⟩ (szf_r [(y1,y2)] (fun t ht => by rw [List.mem_singleton.1 ht]; exact HYS.out) (by simp)) HQS.out (.inl (by decide)) ⟨Nat.zero_le _,by simp⟩).mono ?_
        rw [HT.out.2.2.1]
        rw [HE1.out]
        rintro e wd ⟨vg,rfl,⟨pl,cl,ps,cs,rfl,-,-⟩,hbn⟩
        replace HM := hid (blk_b HM.out hbn)
        replace HF := hid (blk_b HF.out hbn)
        replace HS := hid (HS.out.any (sP.grow _) hbn)
        replace HQ := hid (HQ.out.trans (hbn.mono HQ.out.size))
        clear hbn HE1
        go_upto_region 15 with fail
        have hbn := below_alR wd (.cells #[.bool true,.slice pl 0 cl,.slice ps 0 cs] 44)
        have HG := hid (heap_alloc_new wd (.cells #[.bool true,.slice pl 0 cl,.slice ps 0 cs] 44))
        obtain ⟨we,hwe⟩ : ∃ z,z = wd.alloc (.cells #[.bool true,.slice pl 0 cl,.slice ps 0 cs] 44) := ⟨_,rfl⟩
        obtain ⟨gg,hgg⟩ : ∃ z,wd.heap.size = z := ⟨_,rfl⟩
        replace HM := hid (blk_b HM.out hbn)
        replace HF := hid (blk_b HF.out hbn)
        replace HS := hid (HS.out.any (sP.grow _) hbn)
        replace HQ := hid (HQ.out.trans (hbn.mono HQ.out.size))
        rw [<- hwe] at HG HM HF HS HQ ⊢
        rw [hgg] at HG ⊢
        clear hbn hwe hgg
        obtain ⟨zl,zc,zf⟩ := boxN HM.out
        have z0 := zc 0 _ rfl
        have z1 := zc 1 _ rfl
        have z2 := zc 2 _ rfl
        have z3 := zc 3 _ rfl
        have z4 := zc 4 _ rfl
        have z5 := zc 5 _ rfl
        have z6 := zc 6 _ rfl
        have z7 := zc 7 _ rfl
        have z8 := zc 8 _ rfl
        simp only [Nat.zero_add] at z0 z1 z2 z3 z4 z5 z6 z7 z8
        clear zc zf
        go_wp2_with fail
        clear zl z0 z1 z2 z3 z4 z5 z6 z7 z8
        refine (Step_f ok1 tb K ⟨#[]⟩ (q1,q2) true false 0 none none none 0 0 0 0 0 0 _ (true,[],[]) 39 0 _ (HT.out.below HQ.out).1 ⟨none,0,none,0,rfl,RdX.nil _ _ _ _,RdX.nil _ _ _ _⟩ (szf_r [] (fun t ht => by cases ht) (by simp)) HQS.out (.inl (by decide)) ⟨Nat.zero_le _,by simp⟩).mono ?_
        rw [HT.out.2.2.1]
        rw [HE2.out]
        rintro e wh ⟨vh,rfl,⟨pm,cm,pt,ct,rfl,-,-⟩,hbn⟩
        replace HM := hid (blk_b HM.out hbn)
        replace HF := hid (blk_b HF.out hbn)
        replace HG := hid (blk_b HG.out hbn)
        replace HS := hid (HS.out.any (sP.grow _) hbn)
        replace HQ := hid (HQ.out.trans (hbn.mono HQ.out.size))
        clear hbn HE2
        go_upto_region 18 with fail
        have hbn := below_alR wh (.cells #[.bool false,.slice pm 0 cm,.slice pt 0 ct] 44)
        obtain ⟨wi,hwi⟩ : ∃ z,z = wh.alloc (.cells #[.bool false,.slice pm 0 cm,.slice pt 0 ct] 44) := ⟨_,rfl⟩
        replace HM := hid (blk_b HM.out hbn)
        replace HF := hid (blk_b HF.out hbn)
        replace HG := hid (blk_b HG.out hbn)
        replace HS := hid (HS.out.any (sP.grow _) hbn)
        replace HQ := hid (HQ.out.trans (hbn.mono HQ.out.size))
        rw [<- hwi] at HM HF HG HS HQ ⊢
        clear hbn hwi
        obtain ⟨bs,os,e9,-,-,-,hgs,hcs⟩ := HS.out.place (by simp)
        cases e9
        have HCS := hid (sP_at (hcs 0 _ rfl))
        have HGL := hid hgs
        clear hgs hcs
        replace HM : Hid (wi.drew.heap[gm]? = _) := hid HM.out
        replace HF : Hid (wi.drew.heap[gs + 1]? = _) := hid HF.out
        replace HG : Hid (wi.drew.heap[gg]? = _) := hid HG.out
        replace HCS : Hid (CellsAt wi.drew _ _ _) := hid HCS.out
        replace HGL : Hid (_ < wi.drew.heap.size) := hid HGL.out
        replace HQ := hid HQ.out.drew
        refine wp_region_held_drew (S := fun W => (W.cell? ⟨gm,2,none⟩ = some (.int .i64 q1) /\ W.cell? ⟨gm,3,none⟩ = some (.string q2)) /\ W.cell? ⟨gs + 1,2,none⟩ = some (.slice (some ⟨gs,0,none⟩) 1 1) /\ W.cell? ⟨gs,0,none⟩ = some (.int .i64 y1) /\ W.cell? ⟨gs,1,none⟩ = some (.string y2)) (by kernel_rfl) ⟨m23_at HM.out,(c3_at HF.out).2.2.2,t0_at HCS.out⟩ (fun hh => ?_)
        refine tkA 0 _ hh ?_
        try go_frame
        refine tkA 1 _ hh ?_
        try go_frame
        refine tkA 2 _ hh ?_
        try go_frame
        refine tkA 3 _ hh ?_
        try go_frame
        refine tkB 4 _ hh ?_
        try go_frame
        refine tkA 5 _ hh ?_
        try go_frame
        refine tkB 6 _ hh ?_
        try go_frame
        refine tkA 7 _ hh ?_
        try go_frame
        refine tkB 8 _ hh ?_
        try go_frame
        refine rdH [9] ?_
        refine AllReadyH.cons (o := _) (by simp only [List.getElem?_toArray,List.getElem?_cons_succ,List.getElem?_cons_zero]; rfl) (fun KX hKX => ?_) AllReadyH.nil
        clear hh
        go_simp
        refine ((HT.out.below HQ.out).rfits).mono ?_
        rw [HF9.out]
        rintro e wj ⟨rfl,hbn⟩
        replace HM := hid (blk_b HM.out hbn)
        replace HF := hid (blk_b HF.out hbn)
        replace HG := hid (blk_b HG.out hbn)
        replace HCS := hid (HCS.out.below hbn HGL.out)
        replace HGL := hid (Nat.lt_of_lt_of_le HGL.out hbn.size)
        replace HQ := hid (HQ.out.trans (hbn.mono HQ.out.size))
        clear hbn
        refine hKX.out _ _ ⟨m23_at HM.out,(c3_at HF.out).2.2.2,t0_at HCS.out⟩ (fun hh => ?_)
        clear hKX KX
        try go_frame
        refine tkA 10 _ hh ?_
        try go_frame
        refine tkA 11 _ hh ?_
        try go_frame
        refine tkA 12 _ hh ?_
        try go_frame
        refine wpAnyH_done (by kernel_rfl) ?_ _
        clear hh
        obtain ⟨hl_,g0_,g1_,g2_⟩ := c3_at HG.out
        go_wp2_with fail
        go_ret
        exact ⟨rfl,HB.out.trans (HQ.out.mono HB.out.size)⟩
     | false =>
      cases void with
      | true =>
       have hq5 : q1 = 5 := by have := HQV.out; simpa using this
       have HE1 := hid (st_40v T (q1,q2) [(y1,y2)] hq5)
       have HE2 := hid (st_40v T (q1,q2) [] hq5)
       clear hq5
       obtain ⟨zl,zc,zf⟩ := boxN HM.out
       have z0 := zc 0 _ rfl
       have z1 := zc 1 _ rfl
       have z2 := zc 2 _ rfl
       have z3 := zc 3 _ rfl
       have z4 := zc 4 _ rfl
       have z5 := zc 5 _ rfl
       have z6 := zc 6 _ rfl
       have z7 := zc 7 _ rfl
       have z8 := zc 8 _ rfl
       simp only [Nat.zero_add] at z0 z1 z2 z3 z4 z5 z6 z7 z8
       clear zc zf
       obtain ⟨fl,f0,f1,f2⟩ := c3_at HF.out
       go_wp2_with fail
       clear zl z0 z1 z2 z3 z4 z5 z6 z7 z8
       clear fl f0 f1 f2
       refine (Step_f ok1 tb K ⟨#[]⟩ (q1,q2) true false 0 none none none 0 0 0 0 0 0 _ (true,[],[(y1,y2)]) 40 0 _ (HT.out.below HQ.out).1 ⟨none,0,some ⟨gs,0,none⟩,1,rfl,RdX.nil _ _ _ _,HS.out⟩ (szf_r [(y1,y2)] (fun t ht => by rw [List.mem_singleton.1 ht]; exact HYS.out) (by simp)) HQS.out (.inl (by decide)) ⟨Nat.zero_le _,by simp⟩).mono ?_
       rw [HT.out.2.2.1]
       rw [HE1.out]
       rintro e wd ⟨vg,rfl,⟨pl,cl,ps,cs,rfl,-,-⟩,hbn⟩
       replace HM := hid (blk_b HM.out hbn)
       replace HF := hid (blk_b HF.out hbn)
       replace HS := hid (HS.out.any (sP.grow _) hbn)
       replace HQ := hid (HQ.out.trans (hbn.mono HQ.out.size))
       clear hbn HE1
       go_upto_region 15 with fail
       have hbn := below_alR wd (.cells #[.bool true,.slice pl 0 cl,.slice ps 1 cs] 44)
       have HG := hid (heap_alloc_new wd (.cells #[.bool true,.slice pl 0 cl,.slice ps 1 cs] 44))
       obtain ⟨we,hwe⟩ : ∃ z,z = wd.alloc (.cells #[.bool true,.slice pl 0 cl,.slice ps 1 cs] 44) := ⟨_,rfl⟩
       obtain ⟨gg,hgg⟩ : ∃ z,wd.heap.size = z := ⟨_,rfl⟩
       replace HM := hid (blk_b HM.out hbn)
       replace HF := hid (blk_b HF.out hbn)
       replace HS := hid (HS.out.any (sP.grow _) hbn)
       replace HQ := hid (HQ.out.trans (hbn.mono HQ.out.size))
       rw [<- hwe] at HG HM HF HS HQ ⊢
       rw [hgg] at HG ⊢
       clear hbn hwe hgg
       obtain ⟨zl,zc,zf⟩ := boxN HM.out
       have z0 := zc 0 _ rfl
       have z1 := zc 1 _ rfl
       have z2 := zc 2 _ rfl
       have z3 := zc 3 _ rfl
       have z4 := zc 4 _ rfl
       have z5 := zc 5 _ rfl
       have z6 := zc 6 _ rfl
       have z7 := zc 7 _ rfl
       have z8 := zc 8 _ rfl
       simp only [Nat.zero_add] at z0 z1 z2 z3 z4 z5 z6 z7 z8
       clear zc zf
       go_wp2_with fail
       clear zl z0 z1 z2 z3 z4 z5 z6 z7 z8
       refine (Step_f ok1 tb K ⟨#[]⟩ (q1,q2) true false 0 none none none 0 0 0 0 0 0 _ (true,[],[]) 40 0 _ (HT.out.below HQ.out).1 ⟨none,0,none,0,rfl,RdX.nil _ _ _ _,RdX.nil _ _ _ _⟩ (szf_r [] (fun t ht => by cases ht) (by simp)) HQS.out (.inl (by decide)) ⟨Nat.zero_le _,by simp⟩).mono ?_
       rw [HT.out.2.2.1]
       rw [HE2.out]
       rintro e wh ⟨vh,rfl,⟨pm,cm,pt,ct,rfl,-,-⟩,hbn⟩
       replace HM := hid (blk_b HM.out hbn)
       replace HF := hid (blk_b HF.out hbn)
       replace HG := hid (blk_b HG.out hbn)
       replace HS := hid (HS.out.any (sP.grow _) hbn)
       replace HQ := hid (HQ.out.trans (hbn.mono HQ.out.size))
       clear hbn HE2
       go_upto_region 18 with fail
       have hbn := below_alR wh (.cells #[.bool true,.slice pm 0 cm,.slice pt 0 ct] 44)
       obtain ⟨wi,hwi⟩ : ∃ z,z = wh.alloc (.cells #[.bool true,.slice pm 0 cm,.slice pt 0 ct] 44) := ⟨_,rfl⟩
       replace HM := hid (blk_b HM.out hbn)
       replace HF := hid (blk_b HF.out hbn)
       replace HG := hid (blk_b HG.out hbn)
       replace HS := hid (HS.out.any (sP.grow _) hbn)
       replace HQ := hid (HQ.out.trans (hbn.mono HQ.out.size))
       rw [<- hwi] at HM HF HG HS HQ ⊢
       clear hbn hwi
       obtain ⟨bs,os,e9,-,-,-,hgs,hcs⟩ := HS.out.place (by simp)
       cases e9
       have HCS := hid (sP_at (hcs 0 _ rfl))
       have HGL := hid hgs
       clear hgs hcs
       replace HM : Hid (wi.drew.heap[gm]? = _) := hid HM.out
       replace HF : Hid (wi.drew.heap[gs + 1]? = _) := hid HF.out
       replace HG : Hid (wi.drew.heap[gg]? = _) := hid HG.out
       replace HCS : Hid (CellsAt wi.drew _ _ _) := hid HCS.out
       replace HGL : Hid (_ < wi.drew.heap.size) := hid HGL.out
       replace HQ := hid HQ.out.drew
       refine wp_region_held_drew (S := fun W => (W.cell? ⟨gm,2,none⟩ = some (.int .i64 q1) /\ W.cell? ⟨gm,3,none⟩ = some (.string q2)) /\ W.cell? ⟨gs + 1,2,none⟩ = some (.slice (some ⟨gs,0,none⟩) 1 1) /\ W.cell? ⟨gs,0,none⟩ = some (.int .i64 y1) /\ W.cell? ⟨gs,1,none⟩ = some (.string y2)) (by kernel_rfl) ⟨m23_at HM.out,(c3_at HF.out).2.2.2,t0_at HCS.out⟩ (fun hh => ?_)
       refine tkA 0 _ hh ?_
       try go_frame
       refine tkA 1 _ hh ?_
       try go_frame
       refine wpAnyH_take (i := 2) (oi := _) (v := undef) (by simp only [List.getElem?_toArray,List.getElem?_cons_succ,List.getElem?_cons_zero]; rfl) (by kernel_rfl) (by kernel_rfl) (by kernel_rfl) (by intro _ _ _ h; exact h) (Or.inr ⟨by rfl,rfl⟩) hh ?_
       try go_frame
       refine wpAnyH_take (i := 3) (oi := _) (v := undef) (by simp only [List.getElem?_toArray,List.getElem?_cons_succ,List.getElem?_cons_zero]; rfl) (by kernel_rfl) (by kernel_rfl) (by kernel_rfl) (by intro _ _ _ h; exact h) (Or.inr ⟨by rfl,rfl⟩) hh ?_
       try go_frame
       refine wpAnyH_take (i := 4) (oi := _) (v := undef) (by simp only [List.getElem?_toArray,List.getElem?_cons_succ,List.getElem?_cons_zero]; rfl) (by kernel_rfl) (by kernel_rfl) (by kernel_rfl) (by intro _ _ _ h; exact h) (Or.inr ⟨by rfl,rfl⟩) hh ?_
       try go_frame
       refine wpAnyH_take (i := 5) (oi := _) (v := undef) (by simp only [List.getElem?_toArray,List.getElem?_cons_succ,List.getElem?_cons_zero]; rfl) (by kernel_rfl) (by kernel_rfl) (by kernel_rfl) (by intro _ _ _ h; exact h) (Or.inr ⟨by rfl,rfl⟩) hh ?_
       try go_frame
       refine wpAnyH_take (i := 6) (oi := _) (v := undef) (by simp only [List.getElem?_toArray,List.getElem?_cons_succ,List.getElem?_cons_zero]; rfl) (by kernel_rfl) (by kernel_rfl) (by kernel_rfl) (by intro _ _ _ h; exact h) (Or.inr ⟨by rfl,rfl⟩) hh ?_
       try go_frame
       refine wpAnyH_take (i := 7) (oi := _) (v := undef) (by simp only [List.getElem?_toArray,List.getElem?_cons_succ,List.getElem?_cons_zero]; rfl) (by kernel_rfl) (by kernel_rfl) (by kernel_rfl) (by intro _ _ _ h; exact h) (Or.inr ⟨by rfl,rfl⟩) hh ?_
       try go_frame
       refine wpAnyH_take (i := 8) (oi := _) (v := undef) (by simp only [List.getElem?_toArray,List.getElem?_cons_succ,List.getElem?_cons_zero]; rfl) (by kernel_rfl) (by kernel_rfl) (by kernel_rfl) (by intro _ _ _ h; exact h) (Or.inr ⟨by rfl,rfl⟩) hh ?_
       try go_frame
       refine wpAnyH_take (i := 9) (oi := _) (v := undef) (by simp only [List.getElem?_toArray,List.getElem?_cons_succ,List.getElem?_cons_zero]; rfl) (by kernel_rfl) (by kernel_rfl) (by kernel_rfl) (by intro _ _ _ h; exact h) (Or.inr ⟨by rfl,rfl⟩) hh ?_
       try go_frame
       refine wpAnyH_take (i := 10) (oi := _) (v := undef) (by simp only [List.getElem?_toArray,List.getElem?_cons_succ,List.getElem?_cons_zero]; rfl) (by kernel_rfl) (by kernel_rfl) (by kernel_rfl) (by intro _ _ _ h; exact h) (Or.inr ⟨by rfl,rfl⟩) hh ?_
       try go_frame
       refine tkA 11 _ hh ?_
       try go_frame
       refine tkA 12 _ hh ?_
       try go_frame
       refine wpAnyH_done (by kernel_rfl) ?_ _
       clear hh
       obtain ⟨hl_,g0_,g1_,g2_⟩ := c3_at HG.out
       go_wp2_with fail
       go_ret
       exact ⟨rfl,HB.out.trans (HQ.out.mono HB.out.size)⟩
      | false =>
       have hq5 : ¬ q1 = 5 := by have := HQV.out; simpa using this
       have HE1 := hid (st_40n T (q1,q2) [(y1,y2)] hq5)
       have HE2 := hid (st_40n T (q1,q2) [] hq5)
       clear hq5
       obtain ⟨zl,zc,zf⟩ := boxN HM.out
       have z0 := zc 0 _ rfl
       have z1 := zc 1 _ rfl
       have z2 := zc 2 _ rfl
       have z3 := zc 3 _ rfl
       have z4 := zc 4 _ rfl
       have z5 := zc 5 _ rfl
       have z6 := zc 6 _ rfl
       have z7 := zc 7 _ rfl
       have z8 := zc 8 _ rfl
       simp only [Nat.zero_add] at z0 z1 z2 z3 z4 z5 z6 z7 z8
       clear zc zf
       obtain ⟨fl,f0,f1,f2⟩ := c3_at HF.out
       go_wp2_with fail
       clear zl z0 z1 z2 z3 z4 z5 z6 z7 z8
       clear fl f0 f1 f2
       refine (Step_f ok1 tb K ⟨#[]⟩ (q1,q2) true false 0 none none none 0 0 0 0 0 0 _ (true,[],[(y1,y2)]) 40 0 _ (HT.out.below HQ.out).1 ⟨none,0,some ⟨gs,0,none⟩,1,rfl,RdX.nil _ _ _ _,HS.out⟩ (szf_r [(y1,y2)] (fun t ht => by rw [List.mem_singleton.1 ht]; exact HYS.out) (by simp)) HQS.out (.inl (by decide)) ⟨Nat.zero_le _,by simp⟩).mono ?_
       rw [HT.out.2.2.1]
       rw [HE1.out]
       rintro e wd ⟨vg,rfl,⟨pl,cl,ps,cs,rfl,-,-⟩,hbn⟩
       replace HM := hid (blk_b HM.out hbn)
       replace HF := hid (blk_b HF.out hbn)
       replace HS := hid (HS.out.any (sP.grow _) hbn)
       replace HQ := hid (HQ.out.trans (hbn.mono HQ.out.size))
       clear hbn HE1
       go_upto_region 15 with fail
       have hbn := below_alR wd (.cells #[.bool false,.slice pl 0 cl,.slice ps 0 cs] 44)
       have HG := hid (heap_alloc_new wd (.cells #[.bool false,.slice pl 0 cl,.slice ps 0 cs] 44))
       obtain ⟨we,hwe⟩ : ∃ z,z = wd.alloc (.cells #[.bool false,.slice pl 0 cl,.slice ps 0 cs] 44) := ⟨_,rfl⟩
       obtain ⟨gg,hgg⟩ : ∃ z,wd.heap.size = z := ⟨_,rfl⟩
       replace HM := hid (blk_b HM.out hbn)
       replace HF := hid (blk_b HF.out hbn)
       replace HS := hid (HS.out.any (sP.grow _) hbn)
       replace HQ := hid (HQ.out.trans (hbn.mono HQ.out.size))
       rw [<- hwe] at HG HM HF HS HQ ⊢
       rw [hgg] at HG ⊢
       clear hbn hwe hgg
       obtain ⟨zl,zc,zf⟩ := boxN HM.out
       have z0 := zc 0 _ rfl
       have z1 := zc 1 _ rfl
       have z2 := zc 2 _ rfl
       have z3 := zc 3 _ rfl
       have z4 := zc 4 _ rfl
       have z5 := zc 5 _ rfl
       have z6 := zc 6 _ rfl
       have z7 := zc 7 _ rfl
       have z8 := zc 8 _ rfl
       simp only [Nat.zero_add] at z0 z1 z2 z3 z4 z5 z6 z7 z8
       clear zc zf
       go_wp2_with fail
       clear zl z0 z1 z2 z3 z4 z5 z6 z7 z8
       refine (Step_f ok1 tb K ⟨#[]⟩ (q1,q2) true false 0 none none none 0 0 0 0 0 0 _ (true,[],[]) 40 0 _ (HT.out.below HQ.out).1 ⟨none,0,none,0,rfl,RdX.nil _ _ _ _,RdX.nil _ _ _ _⟩ (szf_r [] (fun t ht => by cases ht) (by simp)) HQS.out (.inl (by decide)) ⟨Nat.zero_le _,by simp⟩).mono ?_
       rw [HT.out.2.2.1]
       rw [HE2.out]
       rintro e wh ⟨vh,rfl,⟨pm,cm,pt,ct,rfl,-,-⟩,hbn⟩
       replace HM := hid (blk_b HM.out hbn)
       replace HF := hid (blk_b HF.out hbn)
       replace HG := hid (blk_b HG.out hbn)
       replace HS := hid (HS.out.any (sP.grow _) hbn)
       replace HQ := hid (HQ.out.trans (hbn.mono HQ.out.size))
       clear hbn HE2
       go_wp2_with fail
       go_ret
       exact ⟨rfl,HB.out.trans ((HQ.out.trans ((below_alR _ _).mono HQ.out.size)).mono HB.out.size)⟩
end Go.Proofs.YtpkjlgdbaajpoaaGreat.R
