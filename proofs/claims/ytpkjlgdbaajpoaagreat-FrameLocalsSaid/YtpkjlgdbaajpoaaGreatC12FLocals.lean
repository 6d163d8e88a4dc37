/- Texts that the proof is made of, joined. No condition. -/
import Derived.Test.YtpkjlgdbaajpoaaGreatC1222
import Derived.Deep.DeepCutAuto
import Derived.Deep.CutBlock
import Derived.Test.YtpkjlgdbaajpoaaGreatC12H
set_option linter.unusedVariables false
set_option linter.unusedSimpArgs false
set_option maxRecDepth 100000
set_option maxHeartbeats 16000000
namespace Go.Proofs.YtpkjlgdbaajpoaaGreat.R
open Go.RowKit Go.Proofs.YtpkjlgdbaajpoaaGreat.D Go.Proofs.YtpkjlgdbaajpoaaGreat.O Go.Proofs.YtpkjlgdbaajpoaaGreat.A
def l4 : List Ty := [(7,⟨#[]⟩),(7,⟨#[]⟩),(7,⟨#[]⟩),(7,⟨#[]⟩)]
theorem ent_l : entryP ⟨#[65]⟩ [] true 4 = (true,l4,[]) := by decide +kernel
theorem l4_at (i : Nat) (h : i < 4) : l4.getD i topT = (7,⟨#[]⟩) := by
 match i,h with | 0,_ | 1,_ | 2,_ | 3,_ => rfl
theorem stl_a (T : List Sk) (i : Nat) (h : i < 4) : stepP T (5,⟨#[]⟩) (true,l4,[]) 4 (i : Int) = ((false,[],[]),29) := by
 show (if (l4.getD ((i : Int).toNat) topT).1 = 7 then (noFr,29) else _) = _
 rw [Int.toNat_natCast,l4_at i h,if_pos rfl]
 rfl
theorem stl_b (T : List Sk) (i : Nat) (a b : Ty) (h : a.1 = 7) : stepP T (5,⟨#[]⟩) (true,l4,[b,a]) 5 (i : Int) = ((false,[],[]),29) := by
 show (if a.1 = 7 then (noFr,29) else _) = _
 rw [if_pos h]
 rfl
theorem stl_c (T : List Sk) (i : Nat) (a b : Ty) (h : ¬ a.1 = 7) : stepP T (5,⟨#[]⟩) (true,l4,[b,a]) 5 (i : Int) = ((true,l4.set i a,[b]),0) := by
 show (if a.1 = 7 then (noFr,29) else ((true,l4.set ((i : Int).toNat) a,[b]),0)) = _
 rw [if_neg h,Int.toNat_natCast]
theorem set_at (i j : Nat) (a : Ty) (hi : i < 4) (hj : j < 4) : (l4.set i a)[j]? = some (if i = j then a else (7,⟨#[]⟩)) := by
 rw [List.getElem?_set]
 by_cases h : i = j
 ·subst h
  rw [if_pos rfl,if_pos (show i < l4.length from hi),if_pos rfl]
 ·rw [if_neg h,if_neg h]
  match j,hj with | 0,_ | 1,_ | 2,_ | 3,_ => rfl
theorem stl_d (T : List Sk) (i j : Nat) (a b : Ty) (hi : i < 4) (hj : j < 4) (h : ¬ i = j) : stepP T (5,⟨#[]⟩) (true,l4.set i a,[b]) 4 (j : Int) = ((false,[],[]),29) := by
 show (if ((l4.set i a).getD ((j : Int).toNat) topT).1 = 7 then (noFr,29) else _) = _
 rw [Int.toNat_natCast,List.getD_eq_getElem?_getD,set_at i j a hi hj,if_neg h]
 rfl
theorem stl_e (T : List Sk) (i : Nat) (a b : Ty) (hi : i < 4) (h : ¬ a.1 = 7) : stepP T (5,⟨#[]⟩) (true,l4.set i a,[b]) 4 (i : Int) = ((true,l4.set i a,[b,a]),0) := by
 show (if ((l4.set i a).getD ((i : Int).toNat) topT).1 = 7 then (noFr,29) else if 100 < ([b] : List Ty).length + 1 then (noFr,30) else ((true,l4.set i a,[b] ++ [(l4.set i a).getD ((i : Int).toNat) topT]),0)) = _
 rw [Int.toNat_natCast,List.getD_eq_getElem?_getD,set_at i i a hi hi,if_pos rfl]
 show (if a.1 = 7 then _ else _) = _
 rw [if_neg h]
 rfl
theorem rdf_g {W : World} {pl ps : Option Addr} {cl cs nl ns : Nat} {b : Bool} {L S : List Ty} (hl : nl = L.length) (hs : ns = S.length) (h1 : RdX 2 (sP tyC) anyB W (.slice pl nl cl) L) (h2 : RdX 2 (sP tyC) anyB W (.slice ps ns cs) S) : RdF W (.agg #[.bool b,.slice pl nl cl,.slice ps ns cs]) (b,L,S) := by
 subst hl
 subst hs
 exact ⟨pl,cl,ps,cs,rfl,h1,h2⟩
theorem szf_g (L S : List Ty) (hl : L.length <= 1000) (hs : S.length <= 1000) (h1 : ∀ t ∈ L,t.2.size <= maxLen) (h2 : ∀ t ∈ S,t.2.size <= maxLen) : SzF (true,L,S) := ⟨h1,h2,by show L.length <= 100000; omega,by show S.length <= 100000; omega⟩
theorem locals_l (k0 k1 k2 k3 x y at_ ot : Nat) (w : World) (h0 : k0 < 256) (h1 : k1 < 256) (h2 : k2 < 256) (h3 : k3 < 256) (hx : x < 256) (hy : y < 256) (ha : at_ < 256) (hoo : ot < 256) :
  Calls Tryz.prog 5 #[.agg #[.int .u8 (k0 : Int),.int .u8 (k1 : Int),.int .u8 (k2 : Int),.int .u8 (k3 : Int)],.int .u8 (x : Int),.int .u8 (y : Int),.int .u8 (at_ : Int),.int .u8 (ot : Int)] w fun e w' => e = .returned (.bool true) /\ Below w.heap.size w w' := by
 obtain ⟨i,hi⟩ : ∃ k,at_ % 4 = k := ⟨_,rfl⟩
 have hi4 : i < 4 := by omega
 have hi5 : (i : Int) < 4 := by omega
 have hi1 : (at_ : Int) % 4 = (i : Int) := by omega
 have hi2 : (at_ : Int).tmod 4 = (i : Int) := by rw [Int.tmod_eq_emod_of_nonneg (by omega)]; omega
 obtain ⟨j,hj⟩ : ∃ k,ot % 4 = k := ⟨_,rfl⟩
 have hj4 : j < 4 := by omega
 have hj5 : (j : Int) < 4 := by omega
 have hj1 : (ot : Int) % 4 = (j : Int) := by omega
 have hj2 : (ot : Int).tmod 4 = (j : Int) := by rw [Int.tmod_eq_emod_of_nonneg (by omega)]; omega
 obtain ⟨w0,hw0⟩ : ∃ x,x = w.alloc (.cells #[.int .u8 (k0 : Int),.int .u8 (k1 : Int),.int .u8 (k2 : Int),.int .u8 (k3 : Int)] 22) := ⟨_,rfl⟩
 have HB0 : Hid (Below w.heap.size w w0) := hid (by rw [hw0]; exact below_alR _ _)
 have HX0 : Hid (w0.heap[w.heap.size]? = some (.cells #[.int .u8 (k0 : Int),.int .u8 (k1 : Int),.int .u8 (k2 : Int),.int .u8 (k3 : Int)] 22 (0,0))) := hid (by rw [hw0]; exact heap_alloc_new _ _)
 go_enter Tryz.func5,Tryz.ntmps5
 try simp only [List.append_eq,List.cons_append,List.nil_append]
 go_wp2_with fail
 rw [<- hw0]
 clear hw0
 obtain ⟨kb,hkb⟩ : ∃ x,w.heap.size = x := ⟨_,rfl⟩
 rw [hkb] at HX0 ⊢
 clear hkb
 refine (known_12 w0).mono ?_
 rintro e w1 ⟨rfl,hb1⟩
 have hX1 := (hb1.block _ (Array.getElem?_eq_some_iff.1 HX0.out).1).trans HX0.out
 have HB1 := hid (HB0.out.trans (hb1.mono HB0.out.size))
 obtain ⟨xl,xc,-⟩ := boxN hX1
 have x0 := xc 0 _ rfl
 have x1 := xc 1 _ rfl
 have x2 := xc 2 _ rfl
 have x3 := xc 3 _ rfl
 simp only [Nat.zero_add] at x0 x1 x2 x3
 clear hb1 hX1 HX0 HB0 xc
 go_wp2_with fail
 refine (archive_0 k0 k1 k2 k3 w1 h0 h1 h2 h3).mono ?_
 rintro e w2 ⟨p1,n1,c1,rfl,hr1,hb2⟩
 obtain ⟨_,_,e1,-⟩ := hr1.len
 simp only [Value.slice.injEq] at e1
 obtain ⟨rfl,rfl,rfl⟩ := e1
 have HR1 := hid hr1
 have HB2 := hid (HB1.out.trans (hb2.mono HB1.out.size))
 clear hr1 hb2 HB1 x0 x1 x2 x3 xl
 go_wp2_with fail
 refine (seat_tree k0 k1 k2 k3 w2 _ _ _ HR1.out).mono ?_
 rintro e wn ⟨tb,mb,vs,ok,K,rfl,hk3,hs3⟩
 have HT0 := hid hs3.1
 have HB := hid (HB2.out.trans (hs3.2.2.mono HB2.out.size))
 clear hk3 hs3 HR1 HB2
 obtain ⟨a,hA⟩ : ∃ z,ofF x = z := ⟨_,rfl⟩
 obtain ⟨b,hBb⟩ : ∃ z,ofF y = z := ⟨_,rfl⟩
 have HAE := hid hA
 have HBE := hid hBb
 have za : Hid (a.2.size <= maxLen) := hid (by rw [<- hA]; exact Nat.le_trans (ofF_sz _) (by unfold maxLen; omega))
 have zb : Hid (b.2.size <= maxLen) := hid (by rw [<- hBb]; exact Nat.le_trans (ofF_sz _) (by unfold maxLen; omega))
 clear hA hBb
 go_wp2_with fail
 refine (of_12 x _ hx).mono ?_
 rw [HAE.out,show tyv a = .agg #[.int .i64 a.1,.string a.2] from rfl]
 rintro e wa ⟨rfl,hbn⟩
 have HT := hid (HT0.out.old hbn)
 replace HB := hid (HB.out.trans (hbn.mono HB.out.size))
 have HNL : Hid (wn.heap.size <= wa.heap.size) := hid hbn.size
 clear hbn HT0
 go_upto_region 6 with fail
 obtain ⟨wm,hwm⟩ : ∃ z,z = ((wa.alloc (.cells #[.int .i64 a.1,.string a.2] 26)).alloc (.cells #[.string ⟨#[]⟩,.slice none 0 0,.int .i64 5,.string ⟨#[]⟩,.bool true,.bool false,.int .i64 4,.slice none 0 0,.slice none 0 0] 30)) := ⟨_,rfl⟩
 have hbm := jbl2 wa (.cells #[.int .i64 a.1,.string a.2] 26) (.cells #[.string ⟨#[]⟩,.slice none 0 0,.int .i64 5,.string ⟨#[]⟩,.bool true,.bool false,.int .i64 4,.slice none 0 0,.slice none 0 0] 30)
 have HAB : Hid (wm.heap[wa.heap.size]? = some (.cells #[.int .i64 a.1,.string a.2] 26 (0,0))) := hid (by rw [hwm,(below_alR _ _).block _ (by simp)]; exact heap_alloc_new _ _)
 have HM : Hid (wm.heap[wa.heap.size + 1]? = some (.cells #[.string ⟨#[]⟩,.slice none 0 0,.int .i64 5,.string ⟨#[]⟩,.bool true,.bool false,.int .i64 4,.slice none 0 0,.slice none 0 0] 30 (0,0))) := hid (by rw [hwm]; exact jal2 _ _ _ _)
 rw [<- hwm] at hbm ⊢
 replace HT := hid (HT.out.below hbm)
 replace HB := hid (HB.out.trans (hbm.mono HB.out.size))
 obtain ⟨ga,hga⟩ : ∃ z,wa.heap.size = z := ⟨_,rfl⟩
 rw [hga] at HAB HM HNL ⊢
 obtain ⟨gm,hgm⟩ : ∃ z,ga + 1 = z := ⟨_,rfl⟩
 rw [hgm] at HM ⊢
 have HGM : Hid (ga + 1 = gm) := hid hgm
 clear hbm hwm hga hgm
 obtain ⟨ml,mc,-⟩ := boxN HM.out
 have m0 := mc 0 _ rfl
 have m1 := mc 1 _ rfl
 have m2 := mc 2 _ rfl
 have m3 := mc 3 _ rfl
 have m4 := mc 4 _ rfl
 have m5 := mc 5 _ rfl
 have m6 := mc 6 _ rfl
 have m7 := mc 7 _ rfl
 have m8 := mc 8 _ rfl
 simp only [Nat.zero_add] at m0 m1 m2 m3 m4 m5 m6 m7 m8
 clear mc
 go_wp2_with fail
 clear ml m0 m1 m2 m3 m4 m5 m6 m7 m8
 refine (Entry_f ⟨#[65]⟩ ⟨#[]⟩ (5,⟨#[]⟩) true false 4 none none none 0 0 0 0 0 0 [] _ (RdX.nil _ _ _ _) (fun t ht => by cases ht) (by decide) (by decide) (sz_small (by decide))).mono ?_
 rw [ent_l]
 rintro e wb ⟨vg,rfl,hf,hbn⟩
 obtain ⟨pl,cl,ps,cs,rfl,h1,h2⟩ := hf
 have H1 := hid (rd_own h1)
 have H2 := hid h2
 clear h1 h2
 replace HAB := hid (blk_b HAB.out hbn)
 replace HM := hid (blk_b HM.out hbn)
 replace HT := hid (HT.out.below hbn)
 replace HB := hid (HB.out.trans (hbn.mono HB.out.size))
 clear hbn
 go_upto_region 7 with fail
 have HWG : Hid (w.heap.size <= wb.heap.size) := hid HB.out.size
 have HGL : Hid (gm < wb.heap.size) := hid (Array.getElem?_eq_some_iff.1 HM.out).1
 have hbn := below_alR wb (.cells #[.bool true,.slice pl l4.length cl,.slice ps 0 cs] 44)
 have HF := hid (heap_alloc_new wb (.cells #[.bool true,.slice pl l4.length cl,.slice ps 0 cs] 44))
 obtain ⟨wc,hww⟩ : ∃ z,z = wb.alloc (.cells #[.bool true,.slice pl l4.length cl,.slice ps 0 cs] 44) := ⟨_,rfl⟩
 obtain ⟨gf,hgg⟩ : ∃ z,wb.heap.size = z := ⟨_,rfl⟩
 rw [<- hww] at hbn HF ⊢
 replace HAB := hid (blk_b HAB.out hbn)
 replace HM := hid (blk_b HM.out hbn)
 replace H1 := hid (H1.out.any (sP.grow _) hbn)
 replace H2 := hid (H2.out.any (sP.grow _) hbn)
 replace HT := hid (HT.out.below hbn)
 replace HB := hid (HB.out.trans (hbn.mono HB.out.size))
 clear hbn
 rw [hgg] at HF H1 HGL HWG ⊢
 clear hww hgg
 go_upto_region 8 with fail
 obtain ⟨ml,mc,-⟩ := boxN HM.out
 have m0 := mc 0 _ rfl
 have m1 := mc 1 _ rfl
 have m2 := mc 2 _ rfl
 have m3 := mc 3 _ rfl
 have m4 := mc 4 _ rfl
 have m5 := mc 5 _ rfl
 have m6 := mc 6 _ rfl
 have m7 := mc 7 _ rfl
 have m8 := mc 8 _ rfl
 simp only [Nat.zero_add] at m0 m1 m2 m3 m4 m5 m6 m7 m8
 clear mc
 obtain ⟨fl,f0,f1,f2⟩ := c3_at HF.out
 go_wp2_with fail
 clear ml m0 m1 m2 m3 m4 m5 m6 m7 m8
 clear fl f0 f1 f2
 refine (Step_f _ _ K ⟨#[]⟩ (5,⟨#[]⟩) true false 4 none none none 0 0 0 0 0 0 _ (true,l4,[]) 4 (i : Int) _ (.inl ⟨tb,mb,vs,rfl,HT.out⟩) (rdf_g (by rfl) (by rfl) (H1.out.step (sP.grow _) (fun _ _ _ => trivial) (fun _ _ _ => rfl) (Nat.le_refl _)) H2.out) (szf_g l4 [] (by decide) (by decide) (fun t ht => sz_small ((by decide : ∀ t ∈ l4,t.2.size <= 1000) t ht)) (fun t ht => by cases ht)) (Nat.zero_le _) (.inr ⟨.inl rfl,by omega,hi5⟩) ⟨by first | decide | (simp [l4]; done),by simp⟩).mono ?_
 rw [stl_a _ i hi4]
 rintro e wd ⟨vg,rfl,hf,hbn⟩
 obtain ⟨pl5,cl5,ps5,cs5,rfl,-,-⟩ := hf
 replace HAB := hid (blk_b HAB.out hbn)
 replace HM := hid (blk_b HM.out hbn)
 replace HF := hid (blk_b HF.out hbn)
 replace H1 := hid (H1.out.any (sP.grow _) hbn)
 replace H2 := hid (H2.out.any (sP.grow _) hbn)
 replace HT := hid (HT.out.below hbn)
 replace HB := hid (HB.out.trans (hbn.mono HB.out.size))
 clear hbn
 go_upto_region 9 with fail
 have hbn := below_alR wd (.cells #[.bool false,.slice pl5 0 cl5,.slice ps5 0 cs5] 44)
 have HX5 := hid (heap_alloc_new wd (.cells #[.bool false,.slice pl5 0 cl5,.slice ps5 0 cs5] 44))
 obtain ⟨wq,hww⟩ : ∃ z,z = wd.alloc (.cells #[.bool false,.slice pl5 0 cl5,.slice ps5 0 cs5] 44) := ⟨_,rfl⟩
 obtain ⟨g5,hgg⟩ : ∃ z,wd.heap.size = z := ⟨_,rfl⟩
 rw [<- hww] at hbn HX5 ⊢
 replace HAB := hid (blk_b HAB.out hbn)
 replace HM := hid (blk_b HM.out hbn)
 replace HF := hid (blk_b HF.out hbn)
 replace H1 := hid (H1.out.any (sP.grow _) hbn)
 replace H2 := hid (H2.out.any (sP.grow _) hbn)
 replace HT := hid (HT.out.below hbn)
 replace HB := hid (HB.out.trans (hbn.mono HB.out.size))
 clear hbn
 rw [hgg] at HX5  ⊢
 clear hww hgg
 clear HX5
 replace HAB : Hid (wq.drew.heap[ga]? = _) := hid HAB.out
 replace HM : Hid (wq.drew.heap[gm]? = _) := hid HM.out
 replace HF : Hid (wq.drew.heap[gf]? = _) := hid HF.out
 replace H1 : Hid (RdX 2 (sP tyC) _ wq.drew _ _) := hid H1.out
 replace HT := hid (HT.out.below (Below.refl wq.heap.size wq).drew)
 replace HB := hid HB.out.drew
 clear H2
 refine wp_region_held_drew (S := fun W => ga < W.heap.size /\ W.cell? ⟨ga,0,none⟩ = some (.int .i64 a.1) /\ W.cell? ⟨ga,1,none⟩ = some (.string a.2)) (by kernel_rfl) (by first | exact c2_at HAB.out | exact c2_at (((Kpt.set [gf] wf gf 2 (.slice (some ⟨gs,0,none⟩) 2 2) (by simp)).2 ga (Array.getElem?_eq_some_iff.1 HAB.out).1 (by have := HGL.out; have := HGM.out; simp; omega)).trans HAB.out)) (fun hh => ?_)
 refine tkA 0 _ hh ?_
 try go_frame
 refine tkB 2 _ hh ?_
 try go_frame
 refine rdH [1] ?_
 refine AllReadyH.cons (o := _) (by simp only [List.getElem?_toArray,List.getElem?_cons_succ,List.getElem?_cons_zero]; rfl) (fun KX hKX => ?_) AllReadyH.nil
 clear hh
 go_simp
 refine (of_12 y _ hy).mono ?_
 rw [HBE.out,show tyv b = .agg #[.int .i64 b.1,.string b.2] from rfl]
 rintro e we ⟨rfl,hbn⟩
 replace HAB := hid (blk_b HAB.out hbn)
 replace HM := hid (blk_b HM.out hbn)
 replace HF := hid (blk_b HF.out hbn)
 replace H1 := hid (H1.out.any (sP.grow _) hbn)
 replace HT := hid (HT.out.below hbn)
 replace HB := hid (HB.out.trans (hbn.mono HB.out.size))
 clear hbn
 refine hKX.out _ _ (by first | exact c2_at HAB.out | exact c2_at (((Kpt.set [gf] wf gf 2 (.slice (some ⟨gs,0,none⟩) 2 2) (by simp)).2 ga (Array.getElem?_eq_some_iff.1 HAB.out).1 (by have := HGL.out; have := HGM.out; simp; omega)).trans HAB.out)) (fun hh => ?_)
 clear hKX KX
 try go_frame
 refine rdH [3] ?_
 refine AllReadyH.cons (o := _) (by simp only [List.getElem?_toArray,List.getElem?_cons_succ,List.getElem?_cons_zero]; rfl) (fun KX hKX => ?_) AllReadyH.nil
 clear hh
 go_simp
 have HSR := hid ((OwnX.lits (sz := 2) (T := 26) (c := tyC) (fun _ => rfl) we [b,a] #[.int .i64 b.1,.string b.2,.int .i64 a.1,.string a.2] rfl 2 rfl (by omega)).rd (sP.grow _))
 have hbn := below_alR we (.cells #[.int .i64 b.1,.string b.2,.int .i64 a.1,.string a.2] 26)
 have HGS0 : Hid (gf < we.heap.size) := hid (Array.getElem?_eq_some_iff.1 HF.out).1
 replace HAB := hid (blk_b HAB.out hbn)
 replace HM := hid (blk_b HM.out hbn)
 replace HF := hid (blk_b HF.out hbn)
 replace H1 := hid (H1.out.any (sP.grow _) hbn)
 replace HT := hid (HT.out.below hbn)
 replace HB := hid (HB.out.trans (hbn.mono HB.out.size))
 clear hbn
 obtain ⟨wf,hwf⟩ : ∃ z,z = we.alloc (.cells #[.int .i64 b.1,.string b.2,.int .i64 a.1,.string a.2] 26) := ⟨_,rfl⟩
 obtain ⟨gs,hgs⟩ : ∃ z,we.heap.size = z := ⟨_,rfl⟩
 rw [<- hwf] at HAB HM HF H1 HT HB HSR ⊢
 rw [hgs] at HSR HGS0 ⊢
 have HGS := HGS0
 clear hwf hgs HGS0
 refine hKX.out _ _ (by first | exact c2_at HAB.out | exact c2_at (((Kpt.set [gf] wf gf 2 (.slice (some ⟨gs,0,none⟩) 2 2) (by simp)).2 ga (Array.getElem?_eq_some_iff.1 HAB.out).1 (by have := HGL.out; have := HGM.out; simp; omega)).trans HAB.out)) (fun hh => ?_)
 clear hKX KX
 try go_frame
 refine tkA 4 _ hh ?_
 try go_frame
 refine rdH [5] ?_
 refine AllReadyH.cons (o := _) (by simp only [List.getElem?_toArray,List.getElem?_cons_succ,List.getElem?_cons_zero]; rfl) (fun KX hKX => ?_) AllReadyH.nil
 clear hh
 obtain ⟨rl,rc,rf⟩ := boxN HF.out
 have r2 := rc 2 _ rfl
 have u2 := rf 2
 simp only [Nat.zero_add] at r2
 clear rc rf
 go_simp
 refine hKX.out _ _ (by first | exact c2_at HAB.out | exact c2_at (((Kpt.set [gf] wf gf 2 (.slice (some ⟨gs,0,none⟩) 2 2) (by simp)).2 ga (Array.getElem?_eq_some_iff.1 HAB.out).1 (by have := HGL.out; have := HGM.out; simp; omega)).trans HAB.out)) (fun hh => ?_)
 clear hKX KX
 try go_frame
 refine wpAnyH_done (by kernel_rfl) ?_ _
 clear hh
 have hk7 : Kpt [gf] wf (wf.setCell ⟨gf,2,none⟩ (.slice (some ⟨gs,0,none⟩) 2 2)) := Kpt.set _ _ _ _ _ (by simp)
 have HF7 := hid (heap_setCell_same wf gf 2 _ _ (.slice (some ⟨gs,0,none⟩) 2 2) HF.out)
 obtain ⟨w7,hw7⟩ : ∃ z,z = wf.setCell ⟨gf,2,none⟩ (.slice (some ⟨gs,0,none⟩) 2 2) := ⟨_,rfl⟩
 rw [<- hw7] at hk7 HF7 ⊢
 have hgl := HGL.out
 have hgm := HGM.out
 have hnl := HNL.out
 replace HF : Hid (w7.heap[gf]? = some (.cells #[.bool true,.slice pl l4.length cl,.slice (some ⟨gs,0,none⟩) 2 2] 44 (0,0))) := hid HF7.out
 replace HAB := hid ((hk7.2 ga (Array.getElem?_eq_some_iff.1 HAB.out).1 (by simp; omega)).trans HAB.out)
 replace HM := hid ((hk7.2 gm (Array.getElem?_eq_some_iff.1 HM.out).1 (by simp; omega)).trans HM.out)
 replace HT := hid (TrW_ne HT.out (fun b hb => by omega) hk7)
 have H1a := hid (rd_ne H1.out (fun b hb => by omega) hk7)
 have H2a := hid (rd_ne HSR.out (fun b hb => by have := HGS.out; omega) hk7)
 replace HB := hid (HB.out.trans (hk7.below (fun x hx => by simp at hx; have := HWG.out; omega) HB.out.size))
 clear hk7 HF7 hw7 H1 HSR hgl hgm hnl
 obtain ⟨ml,mc,-⟩ := boxN HM.out
 have m0 := mc 0 _ rfl
 have m1 := mc 1 _ rfl
 have m2 := mc 2 _ rfl
 have m3 := mc 3 _ rfl
 have m4 := mc 4 _ rfl
 have m5 := mc 5 _ rfl
 have m6 := mc 6 _ rfl
 have m7 := mc 7 _ rfl
 have m8 := mc 8 _ rfl
 simp only [Nat.zero_add] at m0 m1 m2 m3 m4 m5 m6 m7 m8
 clear mc
 obtain ⟨fl,f0,f1,f2⟩ := c3_at HF.out
 go_wp2_with fail
 clear ml m0 m1 m2 m3 m4 m5 m6 m7 m8
 clear fl f0 f1 f2
 refine (Step_f _ _ K ⟨#[]⟩ (5,⟨#[]⟩) true false 4 none none none 0 0 0 0 0 0 _ (true,l4,[b,a]) 5 (i : Int) _ (.inl ⟨tb,mb,vs,rfl,HT.out⟩) (rdf_g (by rfl) (by rfl) H1a.out H2a.out) (szf_g l4 [b,a] (by decide) (by simp) (fun t ht => sz_small ((by decide : ∀ t ∈ l4,t.2.size <= 1000) t ht)) (fun t ht => by rcases List.mem_cons.1 ht with rfl | ht; exact zb.out; rw [List.mem_singleton.1 ht]; exact za.out)) (Nat.zero_le _) (.inr ⟨.inr rfl,by omega,hi5⟩) ⟨by first | decide | (simp [l4]; done),by simp⟩).mono ?_
 by_cases h7 : a.1 = 7
 ·rw [stl_b _ i a b h7]
  rintro e wg ⟨vg,rfl,hf,hbn⟩
  obtain ⟨pl8,cl8,ps8,cs8,rfl,-,-⟩ := hf
  replace HAB := hid (blk_b HAB.out hbn)
  replace HB := hid (HB.out.trans (hbn.mono HB.out.size))
  clear hbn
  go_upto_region 11 with fail
  have hbn := below_alR wg (.cells #[.bool false,.slice pl8 0 cl8,.slice ps8 0 cs8] 44)
  replace HAB := hid (blk_b HAB.out hbn)
  replace HB := hid (HB.out.trans (hbn.mono HB.out.size))
  clear hbn
  obtain ⟨al,a0,a1⟩ := c2_at HAB.out
  go_wp2_with fail
  go_ret
  exact ⟨rfl,HB.out⟩
 ·have e7 : (a.1 == 7) = false := by simpa using h7
  rw [stl_c _ i a b h7]
  rintro e wg ⟨vg,rfl,hf,hbn⟩
  obtain ⟨pl8,cl8,ps8,cs8,rfl,g1,g2⟩ := hf
  replace HAB := hid (blk_b HAB.out hbn)
  replace HM := hid (blk_b HM.out hbn)
  replace HT := hid (HT.out.below hbn)
  replace HB := hid (HB.out.trans (hbn.mono HB.out.size))
  have G1 := hid g1
  have G2 := hid g2
  clear hbn g1 g2 HF H1a H2a
  go_upto_region 11 with fail
  have hls : (l4.set i a).length = l4.length := List.length_set
  rw [hls] at G1
  have hl4 : l4.length = 4 := rfl
  have HH0 := hid (heap_alloc_new wg (.cells #[.bool true,.slice pl8 l4.length cl8,.slice ps8 1 cs8] 44))
  have hbn := below_alR wg (.cells #[.bool true,.slice pl8 l4.length cl8,.slice ps8 1 cs8] 44)
  obtain ⟨wh,hwh⟩ : ∃ z,z = wg.alloc (.cells #[.bool true,.slice pl8 l4.length cl8,.slice ps8 1 cs8] 44) := ⟨_,rfl⟩
  obtain ⟨gh,hgh⟩ : ∃ z,wg.heap.size = z := ⟨_,rfl⟩
  rw [<- hwh] at HH0 hbn ⊢
  replace HAB := hid (blk_b HAB.out hbn)
  replace HM := hid (blk_b HM.out hbn)
  replace HT := hid (HT.out.below hbn)
  replace HB := hid (HB.out.trans (hbn.mono HB.out.size))
  replace G1 := hid (G1.out.any (sP.grow _) hbn)
  replace G2 := hid (G2.out.any (sP.grow _) hbn)
  rw [hgh] at HH0 ⊢
  clear hbn hwh hgh hls
  obtain ⟨al,a0,a1⟩ := c2_at HAB.out
  go_upto_region 13 with fail
  clear al a0 a1
  obtain ⟨bl,ol,rfl,-,hci⟩ := cells_at G1.out (set_at i i a hi4 hi4)
  rw [if_pos rfl] at hci
  have HCI : Hid (CellsAt wh.drew _ _ _) := hid hci
  replace HAB : Hid (wh.drew.heap[ga]? = _) := hid HAB.out
  replace HM : Hid (wh.drew.heap[gm]? = _) := hid HM.out
  replace HH0 : Hid (wh.drew.heap[gh]? = _) := hid HH0.out
  replace HT := hid (HT.out.below (Below.refl wh.heap.size wh).drew)
  replace HB := hid HB.out.drew
  replace G1 : Hid (RdX 2 (sP tyC) anyB wh.drew _ _) := hid G1.out
  replace G2 : Hid (RdX 2 (sP tyC) anyB wh.drew _ _) := hid G2.out
  clear hci
  refine wp_region_held_drew (S := fun W => (ga < W.heap.size /\ W.cell? ⟨ga,0,none⟩ = some (.int .i64 a.1) /\ W.cell? ⟨ga,1,none⟩ = some (.string a.2)) /\ (gh < W.heap.size /\ W.cell? ⟨gh,0,none⟩ = some (.bool true) /\ W.cell? ⟨gh,1,none⟩ = some (.slice (some ⟨bl,ol,none⟩) l4.length cl8) /\ W.cell? ⟨gh,2,none⟩ = some (.slice ps8 1 cs8)) /\ W.cell? ⟨bl,ol + i * 2,none⟩ = some (.int .i64 a.1) /\ W.cell? ⟨bl,ol + i * 2 + 1,none⟩ = some (.string a.2)) (by kernel_rfl) ⟨c2_at HAB.out,c3_at HH0.out,HCI.out.two⟩ (fun hh => ?_)
  refine tkA 0 _ hh ?_
  try go_frame
  refine tkA 1 _ hh ?_
  try go_frame
  refine tkA 2 _ hh ?_
  try go_frame
  refine tkA 3 _ hh ?_
  try go_frame
  refine tkA 4 _ hh ?_
  try go_frame
  refine tkA 5 _ hh ?_
  try go_frame
  refine tkA 6 _ hh ?_
  try go_frame
  refine tkA 7 _ hh ?_
  try go_frame
  refine tkB 8 _ hh ?_
  try go_frame
  refine tkA 9 _ hh ?_
  try go_frame
  refine tkA 10 _ hh ?_
  try go_frame
  refine tkA 11 _ hh ?_
  try go_frame
  refine tkA 12 _ hh ?_
  try go_frame
  refine tkA 13 _ hh ?_
  try go_frame
  refine tkB 14 _ hh ?_
  try go_frame
  refine tkA 15 _ hh ?_
  try go_frame
  refine tkA 16 _ hh ?_
  try go_frame
  refine tkA 17 _ hh ?_
  try go_frame
  refine tkA 18 _ hh ?_
  try go_frame
  refine tkA 19 _ hh ?_
  try go_frame
  refine tkB 20 _ hh ?_
  try go_frame
  refine tkA 21 _ hh ?_
  try go_frame
  refine tkA 22 _ hh ?_
  try go_frame
  refine tkB 23 _ hh ?_
  try go_frame
  refine tkB 24 _ hh ?_
  try go_frame
  refine tkA 25 _ hh ?_
  try go_frame
  refine tkA 26 _ hh ?_
  try go_frame
  refine wpAnyH_done (by kernel_rfl) ?_ _
  clear hh HCI
  obtain ⟨ml,mc,-⟩ := boxN HM.out
  have m0 := mc 0 _ rfl
  have m1 := mc 1 _ rfl
  have m2 := mc 2 _ rfl
  have m3 := mc 3 _ rfl
  have m4 := mc 4 _ rfl
  have m5 := mc 5 _ rfl
  have m6 := mc 6 _ rfl
  have m7 := mc 7 _ rfl
  have m8 := mc 8 _ rfl
  simp only [Nat.zero_add] at m0 m1 m2 m3 m4 m5 m6 m7 m8
  clear mc
  obtain ⟨hl_,h0_,h1_,h2_⟩ := c3_at HH0.out
  go_wp2_with fail
  clear ml m0 m1 m2 m3 m4 m5 m6 m7 m8 hl_ h0_ h1_ h2_
  refine (Step_f _ _ K ⟨#[]⟩ (5,⟨#[]⟩) true false 4 none none none 0 0 0 0 0 0 _ (true,l4.set i a,[b]) 4 (j : Int) _ (.inl ⟨tb,mb,vs,rfl,HT.out⟩) (rdf_g (List.length_set).symm (by rfl) G1.out G2.out) (szf_g _ [b] (by rw [List.length_set]; decide) (by simp) (fun t ht => by rcases List.mem_or_eq_of_mem_set ht with h | rfl; exact sz_small ((by decide : ∀ t ∈ l4,t.2.size <= 1000) t h); exact za.out) (fun t ht => by rw [List.mem_singleton.1 ht]; exact zb.out)) (Nat.zero_le _) (.inr ⟨.inl rfl,by omega,by rw [List.length_set]; exact hj5⟩) ⟨by rw [List.length_set]; decide,by simp⟩).mono ?_
  by_cases hij : i = j
  ·subst hij
   rw [stl_e _ i a b hi4 h7]
   rintro e wi ⟨vg,rfl,hf,hbn⟩
   obtain ⟨pl9,cl9,ps9,cs9,rfl,-,g2⟩ := hf
   replace HAB := hid (blk_b HAB.out hbn)
   replace HB := hid (HB.out.trans (hbn.mono HB.out.size))
   have G4 := hid g2
   clear hbn g2 G1 G2 HH0 HM HT
   go_upto_region 16 with fail
   have HK0 := hid (heap_alloc_new wi (.cells #[.bool true,.slice pl9 4 cl9,.slice ps9 2 cs9] 44))
   have hbn := below_alR wi (.cells #[.bool true,.slice pl9 4 cl9,.slice ps9 2 cs9] 44)
   obtain ⟨wk,hwk⟩ : ∃ z,z = wi.alloc (.cells #[.bool true,.slice pl9 4 cl9,.slice ps9 2 cs9] 44) := ⟨_,rfl⟩
   obtain ⟨gk,hgk⟩ : ∃ z,wi.heap.size = z := ⟨_,rfl⟩
   rw [<- hwk] at HK0 hbn ⊢
   replace HAB := hid (blk_b HAB.out hbn)
   replace HB := hid (HB.out.trans (hbn.mono HB.out.size))
   replace G4 := hid (G4.out.any (sP.grow _) hbn)
   rw [hgk] at HK0 ⊢
   clear hbn hwk hgk
   go_upto_region 18 with fail
   obtain ⟨bk,ok9,rfl,-,hci⟩ := cells_at (i := 1) (t := a) G4.out rfl
   have HCI : Hid (CellsAt wk.drew _ _ _) := hid hci
   replace HAB : Hid (wk.drew.heap[ga]? = _) := hid HAB.out
   replace HK0 : Hid (wk.drew.heap[gk]? = _) := hid HK0.out
   replace HB := hid HB.out.drew
   clear hci
   refine wp_region_held_drew (S := fun W => (ga < W.heap.size /\ W.cell? ⟨ga,0,none⟩ = some (.int .i64 a.1) /\ W.cell? ⟨ga,1,none⟩ = some (.string a.2)) /\ (gk < W.heap.size /\ W.cell? ⟨gk,0,none⟩ = some (.bool true) /\ W.cell? ⟨gk,1,none⟩ = some (.slice pl9 4 cl9) /\ W.cell? ⟨gk,2,none⟩ = some (.slice (some ⟨bk,ok9,none⟩) 2 cs9)) /\ W.cell? ⟨bk,ok9 + 1 * 2,none⟩ = some (.int .i64 a.1) /\ W.cell? ⟨bk,ok9 + 1 * 2 + 1,none⟩ = some (.string a.2)) (by kernel_rfl) ⟨c2_at HAB.out,c3_at HK0.out,HCI.out.two⟩ (fun hh => ?_)
   refine tkA 0 _ hh ?_
   try go_frame
   refine tkA 1 _ hh ?_
   try go_frame
   refine tkA 2 _ hh ?_
   try go_frame
   refine tkA 3 _ hh ?_
   try go_frame
   refine tkB 4 _ hh ?_
   try go_frame
   refine tkA 5 _ hh ?_
   try go_frame
   refine tkA 6 _ hh ?_
   try go_frame
   refine tkA 7 _ hh ?_
   try go_frame
   refine tkA 8 _ hh ?_
   try go_frame
   refine tkA 9 _ hh ?_
   try go_frame
   refine tkB 10 _ hh ?_
   try go_frame
   refine tkA 11 _ hh ?_
   try go_frame
   refine tkB 12 _ hh ?_
   try go_frame
   refine tkB 13 _ hh ?_
   try go_frame
   refine tkA 14 _ hh ?_
   try go_frame
   refine tkA 15 _ hh ?_
   try go_frame
   refine tkA 16 _ hh ?_
   try go_frame
   refine wpAnyH_done (by kernel_rfl) ?_ _
   clear hh HCI
   go_wp2_with fail
   go_ret
   exact ⟨rfl,HB.out⟩
  ·have hij1 : ¬ (i : Int) = (j : Int) := by omega
   have hij2 : ((i : Int) != (j : Int)) = true := by simpa using hij1
   rw [stl_d _ i j a b hi4 hj4 hij]
   rintro e wi ⟨vg,rfl,hf,hbn⟩
   obtain ⟨pl9,cl9,ps9,cs9,rfl,-,-⟩ := hf
   replace HH0 := hid (blk_b HH0.out hbn)
   replace HB := hid (HB.out.trans (hbn.mono HB.out.size))
   replace G1 := hid (G1.out.any (sP.grow _) hbn)
   clear hbn G2 HM HT HAB
   go_upto_region 16 with fail
   have hbn := below_alR wi (.cells #[.bool false,.slice pl9 0 cl9,.slice ps9 0 cs9] 44)
   replace HH0 := hid (blk_b HH0.out hbn)
   replace HB := hid (HB.out.trans (hbn.mono HB.out.size))
   replace G1 := hid (G1.out.any (sP.grow _) hbn)
   clear hbn
   obtain ⟨bq,oq,e1,-,hci⟩ := cells_at G1.out (set_at i j a hi4 hj4)
   cases e1
   rw [if_neg hij] at hci
   obtain ⟨q0,q1⟩ := hci.two
   dsimp only at q0 q1
   obtain ⟨hl_,h0_,h1_,h2_⟩ := c3_at HH0.out
   go_wp2_with fail
   go_ret
   exact ⟨rfl,HB.out⟩
end Go.Proofs.YtpkjlgdbaajpoaaGreat.R
