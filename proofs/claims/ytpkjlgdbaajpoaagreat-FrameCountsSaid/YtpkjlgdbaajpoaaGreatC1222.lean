/- Texts that the proof is made of, joined. No condition. -/
import Derived.Test.YtpkjlgdbaajpoaaGreatC1215
import Derived.Test.YtpkjlgdbaajpoaaGreatC1219
import Derived.Test.YtpkjlgdbaajpoaaGreatC1221
import Derived.Deep.DeepCutAuto
import Derived.Deep.CutBlock
import Derived.Test.YtpkjlgdbaajpoaaGreatC120
import Derived.ProofKit
import Derived.Test.YtpkjlgdbaajpoaaGreatC121
import Derived.Laws.IdiomArrays
import Derived.SizedLaws
import Derived.Lib.SmallJoins
import Derived.Test.YtpkjlgdbaajpoaaGreatC122
import Derived.Test.YtpkjlgdbaajpoaaGreatC1210
import Derived.Test.YtpkjlgdbaajpoaaGreatC125
import Derived.Test.YtpkjlgdbaajpoaaGreatC12H
set_option linter.unusedVariables false
set_option linter.unusedSimpArgs false
set_option maxRecDepth 100000
set_option maxHeartbeats 16000000
namespace Go.Proofs.YtpkjlgdbaajpoaaGreat.R
open Go.RowKit Go.Proofs.YtpkjlgdbaajpoaaGreat.D Go.Proofs.YtpkjlgdbaajpoaaGreat.O Go.Proofs.YtpkjlgdbaajpoaaGreat.A
def l3 : List Ty := [(4,⟨#[65]⟩),(1,⟨#[]⟩),(7,⟨#[]⟩)]
theorem ent_k : entryP ⟨#[65]⟩ [(1,⟨#[]⟩)] false 3 = (true,l3,[]) := by decide +kernel
theorem stp_1 (T : List Sk) : stepP T (1,⟨#[]⟩) (true,l3,[]) 1 0 = ((true,l3,[(1,⟨#[]⟩)]),0) := rfl
theorem stp_6 (T : List Sk) : stepP T (1,⟨#[]⟩) (true,l3,[]) 6 0 = ((false,[],[]),30) := rfl
theorem stp_4 (T : List Sk) : stepP T (1,⟨#[]⟩) (true,l3,[]) 4 2 = ((false,[],[]),29) := rfl
theorem joi_k (T : List Sk) : joinF T (true,l3,[]) (true,l3,[(1,⟨#[]⟩)]) = ((false,[],[]),30) := rfl
theorem szf_k (S : List Ty) (h : S = [] ∨ S = [(1,⟨#[]⟩)]) : SzF (true,l3,S) := by
 refine ⟨fun t ht => sz_small ((by decide : ∀ t ∈ l3,t.2.size <= 1000) t ht),fun t ht => ?_,by show (3 : Nat) <= 100000; omega,by rcases h with rfl | rfl <;> simp⟩
 rcases h with rfl | rfl
 ·cases ht
 ·rw [List.mem_singleton.1 ht]; exact Nat.zero_le _
theorem fld_f2 (b : Bool) (pl ps : Option Addr) (nl cl ns cs : Nat) (W : World) : (Instr.field 44 (.agg #[.bool b,.slice pl nl cl,.slice ps ns cs]) 2).run Tryz.prog W = .ok (.slice ps ns cs) W := by kernel_rfl
theorem rdf_k {W : World} {pl ps : Option Addr} {cl cs : Nat} (h1 : RdX 2 (sP tyC) anyB W (.slice pl l3.length cl) l3) (h2 : RdX 2 (sP tyC) anyB W (.slice ps 0 cs) []) : RdF W (.agg #[.bool true,.slice pl l3.length cl,.slice ps 0 cs]) (true,l3,[]) := ⟨pl,cl,ps,cs,rfl,h1,h2⟩
theorem rdf_k1 {W : World} {pl ps : Option Addr} {cl cs : Nat} (h1 : RdX 2 (sP tyC) anyB W (.slice pl l3.length cl) l3) (h2 : RdX 2 (sP tyC) anyB W (.slice ps 1 cs) [(1,⟨#[]⟩)]) : RdF W (.agg #[.bool true,.slice pl l3.length cl,.slice ps 1 cs]) (true,l3,[(1,⟨#[]⟩)]) := ⟨pl,cl,ps,cs,rfl,h1,h2⟩
theorem cells_at {W : World} {ok : Nat -> Prop} {p : Option Addr} {n c i : Nat} {A : List Ty} {t : Ty} (h : RdX 2 (sP tyC) ok W (.slice p n c) A) (hi : A[i]? = some t) : ∃ b o,p = some ⟨b,o,none⟩ /\ b < W.heap.size /\ CellsAt W b (o + i * 2) (tyC t) := by
 obtain ⟨b,o,e,-,-,-,hb,hc⟩ := h.place (fun e => by rw [e] at hi; simp at hi)
 exact ⟨b,o,e,hb,sP_at (hc i t hi)⟩
theorem known_12 (w : World) : Calls Tryz.prog 7 #[] w fun e w' => e = .returned (.bool true) /\ Below w.heap.size w w' := by
 go_enter Tryz.func7,Tryz.ntmps7
 try simp only [List.append_eq,List.cons_append,List.nil_append]
 go_wp2_with fail
 refine (archive_0 0 0 0 0 w (by decide) (by decide) (by decide) (by decide)).mono ?_
 rintro e w2 ⟨p1,n1,c1,rfl,hr1,hb2⟩
 obtain ⟨_,_,e1,-⟩ := hr1.len
 simp only [Value.slice.injEq] at e1
 obtain ⟨rfl,rfl,rfl⟩ := e1
 have HR1 := hid hr1
 have HB2 := hid hb2
 clear hr1 hb2
 go_wp2_with fail
 refine (seat_tree 0 0 0 0 w2 _ _ _ HR1.out).mono ?_
 rintro e wn ⟨tb,mb,vs,ok,K,rfl,hk3,hs3⟩
 have HT : Hid (TrN wn ok (.pointer (some ⟨tb,0,none⟩)) K) := hid (.inl ⟨tb,mb,vs,rfl,hs3.1⟩)
 have HB := hid (HB2.out.trans (hs3.2.2.mono HB2.out.size))
 clear hk3 hs3 HR1 HB2
 go_upto_region 3 with fail
 obtain ⟨wm,hwm⟩ : ∃ z,z = ((wn.alloc (.cells #[.int .i64 1,.string ⟨#[]⟩] 26)).alloc (.cells #[.string ⟨#[]⟩,.slice (some ⟨wn.heap.size,0,none⟩) 1 1,.int .i64 1,.string ⟨#[]⟩,.bool false,.bool false,.int .i64 3,.slice none 0 0,.slice none 0 0] 30)) := ⟨_,rfl⟩
 have hbm := jbl2 wn (.cells #[.int .i64 1,.string ⟨#[]⟩] 26) (.cells #[.string ⟨#[]⟩,.slice (some ⟨wn.heap.size,0,none⟩) 1 1,.int .i64 1,.string ⟨#[]⟩,.bool false,.bool false,.int .i64 3,.slice none 0 0,.slice none 0 0] 30)
 have HM : Hid (wm.heap[wn.heap.size + 1]? = some (.cells #[.string ⟨#[]⟩,.slice (some ⟨wn.heap.size,0,none⟩) 1 1,.int .i64 1,.string ⟨#[]⟩,.bool false,.bool false,.int .i64 3,.slice none 0 0,.slice none 0 0] 30 (0,0))) := hid (by rw [hwm]; exact jal2 _ _ _ _)
 have HP : Hid (RdX 2 (sP tyC) anyB wm (.slice (some ⟨wn.heap.size,0,none⟩) 1 1) [((1,⟨#[]⟩) : Ty)]) := hid (by rw [hwm]; exact (rdX_lit1 (sz := 2) (c := tyC) (fun _ => rfl) wn ((1,⟨#[]⟩) : Ty) #[.int .i64 1,.string ⟨#[]⟩] 26 rfl).any (sP.grow _) (below_alR _ _))
 rw [<- hwm] at hbm ⊢
 replace HT := hid (HT.out.below hbm)
 replace HB := hid (HB.out.trans (hbm.mono HB.out.size))
 obtain ⟨gp,hgp⟩ : ∃ z,wn.heap.size = z := ⟨_,rfl⟩
 rw [hgp] at HM HP ⊢
 obtain ⟨gm,hgm⟩ : ∃ z,gp + 1 = z := ⟨_,rfl⟩
 rw [hgm] at HM ⊢
 clear hbm hwm hgp hgm
 obtain ⟨ml,mc,-⟩ := boxN HM.out
 have m0 := mc 0 _ rfl
 have m1 := mc 1 _ rfl
 have m2 := mc 2 _ rfl
 have m3 := mc 3 _ rfl
 have m4 := mc 4 _ rfl
 have m5 := mc 5 _ rfl
 have m6 := mc 6 _ rfl
 have m7 := mc 7 _ rfl
 have m8 := mc 8 _ rfl
 simp only [Nat.zero_add] at m0 m1 m2 m3 m4 m5 m6 m7 m8
 clear mc
 go_wp2_with fail
 clear ml m0 m1 m2 m3 m4 m5 m6 m7 m8
 refine (Entry_f ⟨#[65]⟩ ⟨#[]⟩ (1,⟨#[]⟩) false false 3 (some ⟨gp,0,none⟩) none none 1 1 0 0 0 0 [((1,⟨#[]⟩) : Ty)] _ HP.out (by intro t ht; rw [List.mem_singleton.1 ht]; exact Nat.zero_le _) (by decide) (by decide) (sz_small (by decide))).mono ?_
 rw [ent_k]
 rintro e wa ⟨vg,rfl,hf,hbn⟩
 obtain ⟨pl,cl,ps,cs,rfl,h1,h2⟩ := hf
 have H1 := hid h1
 have H2 := hid h2
 clear h1 h2
 replace HM := hid (blk_b HM.out hbn)
 replace HP := hid (HP.out.any (sP.grow _) hbn)
 replace HT := hid (HT.out.below hbn)
 replace HB := hid (HB.out.trans (hbn.mono HB.out.size))
 clear hbn
 clear HP
 go_upto_region 4 with fail
 have hbn := below_alR wa (.cells #[.bool true,.slice pl l3.length cl,.slice ps 0 cs] 44)
 have HF := hid (heap_alloc_new wa (.cells #[.bool true,.slice pl l3.length cl,.slice ps 0 cs] 44))
 obtain ⟨wb,hww⟩ : ∃ z,z = wa.alloc (.cells #[.bool true,.slice pl l3.length cl,.slice ps 0 cs] 44) := ⟨_,rfl⟩
 obtain ⟨gf,hgg⟩ : ∃ z,wa.heap.size = z := ⟨_,rfl⟩
 rw [<- hww] at hbn HF ⊢
 replace HM := hid (blk_b HM.out hbn)
 replace H1 := hid (H1.out.any (sP.grow _) hbn)
 replace H2 := hid (H2.out.any (sP.grow _) hbn)
 replace HT := hid (HT.out.below hbn)
 replace HB := hid (HB.out.trans (hbn.mono HB.out.size))
 clear hbn
 rw [hgg] at HF ⊢
 clear hww hgg
 obtain ⟨ml,mc,-⟩ := boxN HM.out
 have m0 := mc 0 _ rfl
 have m1 := mc 1 _ rfl
 have m2 := mc 2 _ rfl
 have m3 := mc 3 _ rfl
 have m4 := mc 4 _ rfl
 have m5 := mc 5 _ rfl
 have m6 := mc 6 _ rfl
 have m7 := mc 7 _ rfl
 have m8 := mc 8 _ rfl
 simp only [Nat.zero_add] at m0 m1 m2 m3 m4 m5 m6 m7 m8
 clear mc
 obtain ⟨fl,f0,f1,f2⟩ := c3_at HF.out
 go_wp2_with fail
 clear ml m0 m1 m2 m3 m4 m5 m6 m7 m8
 clear fl f0 f1 f2
 refine (Step_f ok _ K ⟨#[]⟩ (1,⟨#[]⟩) false false 3 (some ⟨gp,0,none⟩) none none 1 1 0 0 0 0 _ (true,l3,[]) 1 0 _ HT.out (rdf_k H1.out H2.out) (szf_k [] (.inl rfl)) (Nat.zero_le _) (.inl (by decide)) ⟨by decide,by decide⟩).mono ?_
 rw [stp_1]
 rintro e wc ⟨vg,rfl,hf,hbn⟩
 obtain ⟨pl4,cl4,ps4,cs4,rfl,h1,h2⟩ := hf
 have HA4 := hid h1
 have HS4 := hid h2
 clear h1 h2
 replace HM := hid (blk_b HM.out hbn)
 replace HF := hid (blk_b HF.out hbn)
 replace H1 := hid (H1.out.any (sP.grow _) hbn)
 replace H2 := hid (H2.out.any (sP.grow _) hbn)
 replace HT := hid (HT.out.below hbn)
 replace HB := hid (HB.out.trans (hbn.mono HB.out.size))
 clear hbn
 go_upto_region 5 with fail
 have hbn := below_alR wc (.cells #[.bool true,.slice pl4 l3.length cl4,.slice ps4 1 cs4] 44)
 have HG := hid (heap_alloc_new wc (.cells #[.bool true,.slice pl4 l3.length cl4,.slice ps4 1 cs4] 44))
 obtain ⟨wd,hww⟩ : ∃ z,z = wc.alloc (.cells #[.bool true,.slice pl4 l3.length cl4,.slice ps4 1 cs4] 44) := ⟨_,rfl⟩
 obtain ⟨gg,hgg⟩ : ∃ z,wc.heap.size = z := ⟨_,rfl⟩
 rw [<- hww] at hbn HG ⊢
 replace HM := hid (blk_b HM.out hbn)
 replace HF := hid (blk_b HF.out hbn)
 replace H1 := hid (H1.out.any (sP.grow _) hbn)
 replace H2 := hid (H2.out.any (sP.grow _) hbn)
 replace HA4 := hid (HA4.out.any (sP.grow _) hbn)
 replace HS4 := hid (HS4.out.any (sP.grow _) hbn)
 replace HT := hid (HT.out.below hbn)
 replace HB := hid (HB.out.trans (hbn.mono HB.out.size))
 clear hbn
 rw [hgg] at HG ⊢
 clear hww hgg
 obtain ⟨ml,mc,-⟩ := boxN HM.out
 have m0 := mc 0 _ rfl
 have m1 := mc 1 _ rfl
 have m2 := mc 2 _ rfl
 have m3 := mc 3 _ rfl
 have m4 := mc 4 _ rfl
 have m5 := mc 5 _ rfl
 have m6 := mc 6 _ rfl
 have m7 := mc 7 _ rfl
 have m8 := mc 8 _ rfl
 simp only [Nat.zero_add] at m0 m1 m2 m3 m4 m5 m6 m7 m8
 clear mc
 obtain ⟨fl,f0,f1,f2⟩ := c3_at HF.out
 go_wp2_with fail
 clear ml m0 m1 m2 m3 m4 m5 m6 m7 m8
 clear fl f0 f1 f2
 refine (Step_f ok _ K ⟨#[]⟩ (1,⟨#[]⟩) false false 3 (some ⟨gp,0,none⟩) none none 1 1 0 0 0 0 _ (true,l3,[]) 6 0 _ HT.out (rdf_k H1.out H2.out) (szf_k [] (.inl rfl)) (Nat.zero_le _) (.inl (by decide)) ⟨by decide,by decide⟩).mono ?_
 rw [stp_6]
 rintro e we ⟨vg,rfl,hf,hbn⟩
 obtain ⟨pl5,cl5,ps5,cs5,rfl,h1,h2⟩ := hf
 have HA5 := hid h1
 have HS5 := hid h2
 clear h1 h2
 replace HM := hid (blk_b HM.out hbn)
 replace HF := hid (blk_b HF.out hbn)
 replace HG := hid (blk_b HG.out hbn)
 replace H1 := hid (H1.out.any (sP.grow _) hbn)
 replace H2 := hid (H2.out.any (sP.grow _) hbn)
 replace HA4 := hid (HA4.out.any (sP.grow _) hbn)
 replace HS4 := hid (HS4.out.any (sP.grow _) hbn)
 replace HT := hid (HT.out.below hbn)
 replace HB := hid (HB.out.trans (hbn.mono HB.out.size))
 clear hbn
 go_upto_region 6 with fail
 have hbn := below_alR we (.cells #[.bool false,.slice pl5 0 cl5,.slice ps5 0 cs5] 44)
 have HX5 := hid (heap_alloc_new we (.cells #[.bool false,.slice pl5 0 cl5,.slice ps5 0 cs5] 44))
 obtain ⟨wf,hww⟩ : ∃ z,z = we.alloc (.cells #[.bool false,.slice pl5 0 cl5,.slice ps5 0 cs5] 44) := ⟨_,rfl⟩
 obtain ⟨g5,hgg⟩ : ∃ z,we.heap.size = z := ⟨_,rfl⟩
 rw [<- hww] at hbn HX5 ⊢
 replace HM := hid (blk_b HM.out hbn)
 replace HF := hid (blk_b HF.out hbn)
 replace HG := hid (blk_b HG.out hbn)
 replace H1 := hid (H1.out.any (sP.grow _) hbn)
 replace H2 := hid (H2.out.any (sP.grow _) hbn)
 replace HA4 := hid (HA4.out.any (sP.grow _) hbn)
 replace HS4 := hid (HS4.out.any (sP.grow _) hbn)
 replace HA5 := hid (HA5.out.any (sP.grow _) hbn)
 replace HS5 := hid (HS5.out.any (sP.grow _) hbn)
 replace HT := hid (HT.out.below hbn)
 replace HB := hid (HB.out.trans (hbn.mono HB.out.size))
 clear hbn
 rw [hgg] at HX5 ⊢
 clear hww hgg
 obtain ⟨ml,mc,-⟩ := boxN HM.out
 have m0 := mc 0 _ rfl
 have m1 := mc 1 _ rfl
 have m2 := mc 2 _ rfl
 have m3 := mc 3 _ rfl
 have m4 := mc 4 _ rfl
 have m5 := mc 5 _ rfl
 have m6 := mc 6 _ rfl
 have m7 := mc 7 _ rfl
 have m8 := mc 8 _ rfl
 simp only [Nat.zero_add] at m0 m1 m2 m3 m4 m5 m6 m7 m8
 clear mc
 obtain ⟨fl,f0,f1,f2⟩ := c3_at HF.out
 go_wp2_with fail
 clear ml m0 m1 m2 m3 m4 m5 m6 m7 m8
 clear fl f0 f1 f2
 refine (Step_f ok _ K ⟨#[]⟩ (1,⟨#[]⟩) false false 3 (some ⟨gp,0,none⟩) none none 1 1 0 0 0 0 _ (true,l3,[]) 4 2 _ HT.out (rdf_k H1.out H2.out) (szf_k [] (.inl rfl)) (Nat.zero_le _) (.inr ⟨.inl rfl,by decide,by decide⟩) ⟨by decide,by decide⟩).mono ?_
 rw [stp_4]
 rintro e wg ⟨vg,rfl,hf,hbn⟩
 obtain ⟨pl6,cl6,ps6,cs6,rfl,h1,h2⟩ := hf
 have HA6 := hid h1
 have HS6 := hid h2
 clear h1 h2
 replace HM := hid (blk_b HM.out hbn)
 replace HF := hid (blk_b HF.out hbn)
 replace HG := hid (blk_b HG.out hbn)
 replace HX5 := hid (blk_b HX5.out hbn)
 replace H1 := hid (H1.out.any (sP.grow _) hbn)
 replace H2 := hid (H2.out.any (sP.grow _) hbn)
 replace HA4 := hid (HA4.out.any (sP.grow _) hbn)
 replace HS4 := hid (HS4.out.any (sP.grow _) hbn)
 replace HA5 := hid (HA5.out.any (sP.grow _) hbn)
 replace HS5 := hid (HS5.out.any (sP.grow _) hbn)
 replace HT := hid (HT.out.below hbn)
 replace HB := hid (HB.out.trans (hbn.mono HB.out.size))
 clear hbn
 go_upto_region 7 with fail
 have hbn := below_alR wg (.cells #[.bool false,.slice pl6 0 cl6,.slice ps6 0 cs6] 44)
 have HX6 := hid (heap_alloc_new wg (.cells #[.bool false,.slice pl6 0 cl6,.slice ps6 0 cs6] 44))
 obtain ⟨wh,hww⟩ : ∃ z,z = wg.alloc (.cells #[.bool false,.slice pl6 0 cl6,.slice ps6 0 cs6] 44) := ⟨_,rfl⟩
 obtain ⟨g6,hgg⟩ : ∃ z,wg.heap.size = z := ⟨_,rfl⟩
 rw [<- hww] at hbn HX6 ⊢
 replace HM := hid (blk_b HM.out hbn)
 replace HF := hid (blk_b HF.out hbn)
 replace HG := hid (blk_b HG.out hbn)
 replace HX5 := hid (blk_b HX5.out hbn)
 replace H1 := hid (H1.out.any (sP.grow _) hbn)
 replace H2 := hid (H2.out.any (sP.grow _) hbn)
 replace HA4 := hid (HA4.out.any (sP.grow _) hbn)
 replace HS4 := hid (HS4.out.any (sP.grow _) hbn)
 replace HA5 := hid (HA5.out.any (sP.grow _) hbn)
 replace HS5 := hid (HS5.out.any (sP.grow _) hbn)
 replace HA6 := hid (HA6.out.any (sP.grow _) hbn)
 replace HS6 := hid (HS6.out.any (sP.grow _) hbn)
 replace HT := hid (HT.out.below hbn)
 replace HB := hid (HB.out.trans (hbn.mono HB.out.size))
 clear hbn
 rw [hgg] at HX6 ⊢
 clear hww hgg
 obtain ⟨fl,f0,f1,f2⟩ := c3_at HF.out
 obtain ⟨xl,x0,x1,x2⟩ := c3_at HG.out
 go_wp2_with fail
 clear fl f0 f1 f2
 clear xl x0 x1 x2
 refine (FJoin_f ok _ K _ _ (true,l3,[]) (true,l3,[(1,⟨#[]⟩)]) _ HT.out (rdf_k H1.out H2.out) (rdf_k1 HA4.out HS4.out) (szf_k [] (.inl rfl)) (szf_k _ (.inr rfl))).mono ?_
 rw [joi_k]
 rintro e wi ⟨vg,rfl,hf,hbn⟩
 obtain ⟨pl7,cl7,ps7,cs7,rfl,h1,h2⟩ := hf
 have HA7 := hid h1
 have HS7 := hid h2
 clear h1 h2
 replace HM := hid (blk_b HM.out hbn)
 replace HF := hid (blk_b HF.out hbn)
 replace HG := hid (blk_b HG.out hbn)
 replace HX5 := hid (blk_b HX5.out hbn)
 replace HX6 := hid (blk_b HX6.out hbn)
 replace H1 := hid (H1.out.any (sP.grow _) hbn)
 replace H2 := hid (H2.out.any (sP.grow _) hbn)
 replace HA4 := hid (HA4.out.any (sP.grow _) hbn)
 replace HS4 := hid (HS4.out.any (sP.grow _) hbn)
 replace HA5 := hid (HA5.out.any (sP.grow _) hbn)
 replace HS5 := hid (HS5.out.any (sP.grow _) hbn)
 replace HA6 := hid (HA6.out.any (sP.grow _) hbn)
 replace HS6 := hid (HS6.out.any (sP.grow _) hbn)
 replace HT := hid (HT.out.below hbn)
 replace HB := hid (HB.out.trans (hbn.mono HB.out.size))
 clear hbn
 go_upto_region 8 with fail
 have hbn := below_alR wi (.cells #[.bool false,.slice pl7 0 cl7,.slice ps7 0 cs7] 44)
 have HX7 := hid (heap_alloc_new wi (.cells #[.bool false,.slice pl7 0 cl7,.slice ps7 0 cs7] 44))
 obtain ⟨wj,hww⟩ : ∃ z,z = wi.alloc (.cells #[.bool false,.slice pl7 0 cl7,.slice ps7 0 cs7] 44) := ⟨_,rfl⟩
 obtain ⟨g7,hgg⟩ : ∃ z,wi.heap.size = z := ⟨_,rfl⟩
 rw [<- hww] at hbn HX7 ⊢
 replace HM := hid (blk_b HM.out hbn)
 replace HF := hid (blk_b HF.out hbn)
 replace HG := hid (blk_b HG.out hbn)
 replace HX5 := hid (blk_b HX5.out hbn)
 replace HX6 := hid (blk_b HX6.out hbn)
 replace H1 := hid (H1.out.any (sP.grow _) hbn)
 replace H2 := hid (H2.out.any (sP.grow _) hbn)
 replace HA4 := hid (HA4.out.any (sP.grow _) hbn)
 replace HS4 := hid (HS4.out.any (sP.grow _) hbn)
 replace HA5 := hid (HA5.out.any (sP.grow _) hbn)
 replace HS5 := hid (HS5.out.any (sP.grow _) hbn)
 replace HA6 := hid (HA6.out.any (sP.grow _) hbn)
 replace HS6 := hid (HS6.out.any (sP.grow _) hbn)
 replace HT := hid (HT.out.below hbn)
 replace HB := hid (HB.out.trans (hbn.mono HB.out.size))
 clear hbn
 rw [hgg] at HX7 ⊢
 clear hww hgg
 obtain ⟨bl,ol,rfl,hbl,hc0⟩ := cells_at (i := 0) H1.out rfl
 obtain ⟨bl',ol',e1,-,hc2⟩ := cells_at (i := 2) H1.out rfl
 cases e1
 obtain ⟨d0,d1⟩ := hc0.two
 obtain ⟨e0,e1⟩ := hc2.two
 dsimp only [l3] at d0 d1 e0 e1
 simp only [Nat.zero_mul,Nat.add_zero] at d0 d1
 obtain ⟨fl,f0,f1,f2⟩ := c3_at HF.out
 obtain ⟨xl,x0,x1,x2⟩ := c3_at HG.out
 obtain ⟨yl,y0,y1,y2⟩ := c3_at HX7.out
 go_wp2_with fail
 clear fl f0 f1 f2
 clear xl x0 x1 x2
 clear yl y0 y1 y2
 clear d0 d1 e0 e1
 refine (FSame_f _ _ (true,l3,[]) (true,l3,[]) _ (rdf_k H1.out H2.out) (rdf_k H1.out H2.out) (szf_k [] (.inl rfl)) (szf_k [] (.inl rfl))).mono ?_
 rw [decide_eq_true rfl]
 rintro e wk ⟨rfl,hbn⟩
 replace HM := hid (blk_b HM.out hbn)
 replace HF := hid (blk_b HF.out hbn)
 replace HG := hid (blk_b HG.out hbn)
 replace HX5 := hid (blk_b HX5.out hbn)
 replace HX6 := hid (blk_b HX6.out hbn)
 replace HX7 := hid (blk_b HX7.out hbn)
 replace H1 := hid (H1.out.any (sP.grow _) hbn)
 replace H2 := hid (H2.out.any (sP.grow _) hbn)
 replace HA4 := hid (HA4.out.any (sP.grow _) hbn)
 replace HS4 := hid (HS4.out.any (sP.grow _) hbn)
 replace HA5 := hid (HA5.out.any (sP.grow _) hbn)
 replace HS5 := hid (HS5.out.any (sP.grow _) hbn)
 replace HA6 := hid (HA6.out.any (sP.grow _) hbn)
 replace HS6 := hid (HS6.out.any (sP.grow _) hbn)
 replace HT := hid (HT.out.below hbn)
 replace HB := hid (HB.out.trans (hbn.mono HB.out.size))
 clear hbn
 obtain ⟨fl,f0,f1,f2⟩ := c3_at HF.out
 obtain ⟨xl,x0,x1,x2⟩ := c3_at HG.out
 go_wp2_with fail
 clear fl f0 f1 f2
 clear xl x0 x1 x2
 refine (FSame_f _ _ (true,l3,[]) (true,l3,[(1,⟨#[]⟩)]) _ (rdf_k H1.out H2.out) (rdf_k1 HA4.out HS4.out) (szf_k [] (.inl rfl)) (szf_k _ (.inr rfl))).mono ?_
 rw [show decide (((true,l3,[]) : Fr) = (true,l3,[(1,⟨#[]⟩)])) = false from by decide]
 rintro e wk2 ⟨rfl,hbn⟩
 replace HM := hid (blk_b HM.out hbn)
 replace HF := hid (blk_b HF.out hbn)
 replace HG := hid (blk_b HG.out hbn)
 replace HX5 := hid (blk_b HX5.out hbn)
 replace HX6 := hid (blk_b HX6.out hbn)
 replace HX7 := hid (blk_b HX7.out hbn)
 replace H1 := hid (H1.out.any (sP.grow _) hbn)
 replace H2 := hid (H2.out.any (sP.grow _) hbn)
 replace HA4 := hid (HA4.out.any (sP.grow _) hbn)
 replace HS4 := hid (HS4.out.any (sP.grow _) hbn)
 replace HA5 := hid (HA5.out.any (sP.grow _) hbn)
 replace HS5 := hid (HS5.out.any (sP.grow _) hbn)
 replace HA6 := hid (HA6.out.any (sP.grow _) hbn)
 replace HS6 := hid (HS6.out.any (sP.grow _) hbn)
 replace HT := hid (HT.out.below hbn)
 replace HB := hid (HB.out.trans (hbn.mono HB.out.size))
 clear hbn
 obtain ⟨xl,x0,x1,x2⟩ := c3_at HG.out
 go_wp2_with fail
 clear xl x0 x1 x2
 refine (Caught_f _ (true,l3,[(1,⟨#[]⟩)]) ⟨#[70,97,117,108,116]⟩ _ (rdf_k1 HA4.out HS4.out) (szf_k _ (.inr rfl)) (sz_small (by decide))).mono ?_
 rintro e wk3 ⟨vg,rfl,hf,hbn⟩
 obtain ⟨pl9,cl9,ps9,cs9,rfl,-,-⟩ := hf
 replace HB := hid (HB.out.trans (hbn.mono HB.out.size))
 clear hbn
 have hfl := fld_f2
 go_wp2_with fail
 go_ret
 exact ⟨rfl,HB.out⟩
end Go.Proofs.YtpkjlgdbaajpoaaGreat.R
namespace Go.Proofs.YtpkjlgdbaajpoaaGreat
open Go.ChangeShapes Go.WideShapes Go.ChangeAt Go.RowKit
theorem row_open {H : Type} {enc : TypeId × Value -> H} {W : World} {base : Nat} {spare : Nat -> Bool} {held : Bool} {t e : TypeId} {k : IntKind} {a : Option Addr} {len cap : Nat} {d : DataW H} {p : List MemPlace}
  (ht : Tryz.prog.underlying t = some (.slice e)) (he : Tryz.prog.underlying e = some (.int k)) (hc : Tryz.prog.cellsOf e = 1) (h : DataW.Trod enc Tryz.prog W base spare held t (.slice a len cap) d p) (hsp : ∀ b,spare b = true := by exact fun _ => rfl) :
  ∃ zs,IsRow k W a len cap zs := by
 obtain ⟨fuel,hf⟩ := h
 rcases open_ints ht he hc hf with ⟨hcs,_⟩ | ⟨x,l,c,zs,hcs,_,hl,hm,hz,_,hcell,hwz⟩
 ·simp [Value.cells] at hcs
  obtain ⟨rfl,rfl,rfl⟩ := hcs
  exact ⟨[],.inl ⟨rfl,rfl,rfl,rfl⟩⟩
 ·simp [Value.cells] at hcs
  obtain ⟨rfl,rfl,rfl⟩ := hcs
  exact ⟨zs,.inr ⟨_,rfl,hl,hm,by simpa [hsp] using hz,hcell,hwz⟩⟩
theorem row_le {k : IntKind} {w : World} {a : Option Addr} {len cap : Nat} {zs : List Int} (h : IsRow k w a len cap zs) : len <= 9223372036854775807 := by
 rcases h with ⟨_,h,_⟩ | ⟨_,_,h1,h2,_⟩
 ·omega
 ·unfold maxLen at h2; omega
end Go.Proofs.YtpkjlgdbaajpoaaGreat
namespace Go.Proofs.YtpkjlgdbaajpoaaGreat.A
open Go.ChangeShapes Go.WideShapes Go.ChangeAt Go.RowKit
theorem cells4 : Tryz.prog.cellsOf 22 = 4 := by kernel_rfl
theorem four_of {l : List Value} (h : l.length = 4) : ∃ c0 c1 c2 c3,l = [c0,c1,c2,c3] := by
 match l,h with
 | [c0,c1,c2,c3],_ => exact ⟨c0,c1,c2,c3,rfl⟩
theorem arr4_open {H : Type} {enc : TypeId × Value -> H} {w : World} {base b0 : Nat} {spare : Nat -> Bool} {held : Bool} {r : Reach} {v : Value} {d : DataW H} {p : List MemPlace}
  (hv : Value.okWide Tryz.prog w r b0 22 v) (h : DataW.Trod enc Tryz.prog w base spare held 22 v d p) :
  ∃ x0 x1 x2 x3 : Int,v = .agg #[.int .u8 x0,.int .u8 x1,.int .u8 x2,.int .u8 x3] /\ (Lit.int .u8 x0).wf = true /\ (Lit.int .u8 x1).wf = true /\ (Lit.int .u8 x2).wf = true /\ (Lit.int .u8 x3).wf = true := by
 obtain ⟨cs,rfl,hsz,_⟩ : ∃ cs,v = .agg cs /\ cs.size = Tryz.prog.cellsOf 22 /\ Row.okWide Tryz.prog w r b0 22 cs := by
  simpa [Value.okWide,Tryz.underlying22] using hv
 rw [cells4] at hsz
 obtain ⟨l⟩ := cs
 obtain ⟨c0,c1,c2,c3,rfl⟩ := four_of hsz
 obtain ⟨fuel,hf⟩ := h
 obtain ⟨y0,y1,y2,y3,m,hx,hy0,hy1,hy2,hy3⟩ := trod_array4 Tryz.underlying22 (by kernel_rfl) hf
 obtain ⟨x0,e0,rfl,w0⟩ := DataW.trod_int Tryz.underlying5 hy0
 obtain ⟨x1,e1,rfl,w1⟩ := DataW.trod_int Tryz.underlying5 hy1
 obtain ⟨x2,e2,rfl,w2⟩ := DataW.trod_int Tryz.underlying5 hy2
 obtain ⟨x3,e3,rfl,w3⟩ := DataW.trod_int Tryz.underlying5 hy3
 simp at e0 e1 e2 e3
 subst e0 e1 e2 e3
 exact ⟨x0,x1,x2,x3,rfl,w0,w1,w2,w3⟩
theorem bytes_open {H : Type} {enc : TypeId × Value -> H} {W : World} {base : Nat} {spare : Nat -> Bool} {held : Bool} {a : Option Addr} {len cap : Nat} {d : DataW H} {p : List MemPlace}
  (h : DataW.Trod enc Tryz.prog W base spare held 23 (.slice a len cap) d p) (hsp : ∀ b,spare b = true) : ∃ l : List UInt8,len = l.length /\ Rd W (.slice a len cap) l /\ (l = [] ∨ ∀ g,(Value.slice a len cap).ownBlock = some g -> g < W.heap.size) /\ len <= 9223372036854775807 := by
 obtain ⟨zs,hz⟩ := row_open Tryz.underlying23 Tryz.underlying5 (by kernel_rfl) h hsp
 obtain ⟨l,hl,hr⟩ := rd_of_row hz
 exact ⟨l,hl.symm,hr,live_of_row hz hl,row_le hz⟩
end Go.Proofs.YtpkjlgdbaajpoaaGreat.A
namespace Go.Proofs.YtpkjlgdbaajpoaaGreat.R
open Go.RowKit Go.Proofs.YtpkjlgdbaajpoaaGreat.D Go.Proofs.YtpkjlgdbaajpoaaGreat.O Go.Proofs.YtpkjlgdbaajpoaaGreat.A
def kiF : List Int := [1,2,3,6,7,1]
def ofF (n : Nat) : Ty := if 60 <= n then (4,nmJ.getD (n % 12) es) else (kiF.getD (n % 6) 0,es)
theorem ki6_at (n : Nat) : (#[.int .i64 1,.int .i64 2,.int .i64 3,.int .i64 6,.int .i64 7,.int .i64 1] : Array Value)[n % 6]? = some (.int .i64 (kiF.getD (n % 6) 0)) := by
 have h : n % 6 < 6 := Nat.mod_lt _ (by decide)
 have key : ∀ i : Fin 6,(#[.int .i64 1,.int .i64 2,.int .i64 3,.int .i64 6,.int .i64 7,.int .i64 1] : Array Value)[i.val]? = some (.int .i64 (kiF.getD i.val 0)) := by intro i; match i with | ⟨0,_⟩ | ⟨1,_⟩ | ⟨2,_⟩ | ⟨3,_⟩ | ⟨4,_⟩ | ⟨5,_⟩ => rfl
 exact key ⟨_,h⟩
theorem ofF_sz (n : Nat) : (ofF n).2.size <= 9 := by
 unfold ofF
 split
 ·have key : ∀ i : Fin 12,(nmJ.getD i.val es).size <= 9 := by decide
  exact key ⟨n % 12,Nat.mod_lt _ (by decide)⟩
 ·exact Nat.zero_le _
theorem of_12 (n : Nat) (w : World) (hn : n < 256) :
  Calls Tryz.prog 21 #[.int .u8 (n : Int)] w fun e w' => e = .returned (tyv (ofF n)) /\ Below w.heap.size w w' := by
 by_cases h60 : 60 <= n
 ·have h60' : (60 : Int) <= (n : Int) := by omega
  have hy := nm12_at n
  obtain ⟨y,hgy⟩ : ∃ y,nmJ.getD (n % 12) es = y := ⟨_,rfl⟩
  rw [hgy] at hy
  have HO : Hid (ofF n = (4,y)) := hid (by unfold ofF; rw [if_pos h60,hgy])
  obtain ⟨w2,hw2⟩ : ∃ x,x = w.alloc (.cells #[.int .i64 0,.string ⟨#[]⟩] 26) := ⟨_,rfl⟩
  have HB2 : Hid (Below w.heap.size w w2) := hid (by rw [hw2]; exact below_alR _ _)
  have hr2 : w2.heap[w.heap.size]? = some (.cells #[.int .i64 0,.string ⟨#[]⟩] 26 (0,0)) := by rw [hw2]; exact heap_alloc_new _ _
  obtain ⟨rl,rc,rf⟩ := boxN hr2
  have r0 := rc 0 _ rfl
  have r1 := rc 1 _ rfl
  have z0 := rf 0
  have z1 := rf 1
  simp only [Nat.zero_add] at r0 r1
  clear rc rf hgy h60 hr2
  go_enter Tryz.func21,Tryz.ntmps21
  go_upto_region 1 with fail
  rw [<- hw2]
  clear hw2
  obtain ⟨g,hg⟩ : ∃ x,w.heap.size = x := ⟨_,rfl⟩
  rw [hg] at rl r0 r1 z0 z1 ⊢
  have HG := hid hg
  clear hg
  go_wp2_with fail
  refine bodyPost_ret (v := tyv (4,y)) (by simp [*,results,Tryz.results21,go_sem,tyv]) rfl ?_
  exact ⟨by rw [HO.out],HB2.out.trans ((set2_bl (by have := HG.out; omega) HB2.out.size).trans ((below_alR _ (.cells (#[.string ⟨#[65]⟩,.string ⟨#[66]⟩,.string ⟨#[66,97,115,101]⟩,.string ⟨#[73]⟩,.string ⟨#[74]⟩,.string ⟨#[77,105,100]⟩,.string ⟨#[67]⟩,.string ⟨#[68]⟩,.string ⟨#[69,114,114]⟩,.string ⟨#[79,98,106,101,99,116]⟩,.string ⟨#[70,97,117,108,116]⟩,.string ⟨#[78,111,98,111,100,121]⟩] : Array Value) 9)).mono (by have := HB2.out.size; simp; omega)))⟩
 ·have h60' : ¬ (60 : Int) <= (n : Int) := by omega
  have hy := ki6_at n
  obtain ⟨y,hgy⟩ : ∃ y,kiF.getD (n % 6) 0 = y := ⟨_,rfl⟩
  rw [hgy] at hy
  have HO : Hid (ofF n = (y,es)) := hid (by unfold ofF; rw [if_neg h60,hgy])
  obtain ⟨w2,hw2⟩ : ∃ x,x = w.alloc (.cells #[.int .i64 0,.string ⟨#[]⟩] 26) := ⟨_,rfl⟩
  have HB2 : Hid (Below w.heap.size w w2) := hid (by rw [hw2]; exact below_alR _ _)
  have hr2 : w2.heap[w.heap.size]? = some (.cells #[.int .i64 0,.string ⟨#[]⟩] 26 (0,0)) := by rw [hw2]; exact heap_alloc_new _ _
  obtain ⟨rl,rc,rf⟩ := boxN hr2
  have r0 := rc 0 _ rfl
  have r1 := rc 1 _ rfl
  have z0 := rf 0
  have z1 := rf 1
  simp only [Nat.zero_add] at r0 r1
  clear rc rf hgy h60 hr2
  go_enter Tryz.func21,Tryz.ntmps21
  go_upto_region 1 with fail
  rw [<- hw2]
  clear hw2
  obtain ⟨g,hg⟩ : ∃ x,w.heap.size = x := ⟨_,rfl⟩
  rw [hg] at rl r0 r1 z0 z1 ⊢
  have HG := hid hg
  clear hg
  go_wp2_with fail
  refine bodyPost_ret (v := tyv (y,es)) (by simp [*,results,Tryz.results21,go_sem,tyv,es]) rfl ?_
  exact ⟨by rw [HO.out],HB2.out.trans ((set2_bl (by have := HG.out; omega) HB2.out.size).trans ((below_alR _ (.cells (#[.int .i64 1,.int .i64 2,.int .i64 3,.int .i64 6,.int .i64 7,.int .i64 1] : Array Value) 3)).mono (by have := HB2.out.size; simp; omega)))⟩
theorem rd_place6 {w : World} {p : Option Addr} {n c i : Nat} {l : List UInt8} {x : UInt8} (h : Rd w (.slice p n c) l) (hx : l[i]? = some x) : ∃ a : Addr,p = some a /\ w.cell? (a.add i) = some (.int .u8 (x.toNat : Int)) := by
 obtain ⟨p',c',e,hle,hn,hc⟩ := h
 simp only [Value.slice.injEq] at e
 obtain ⟨rfl,rfl,rfl⟩ := e
 have hi := (List.getElem?_eq_some_iff.1 hx).1
 cases p with
 | none =>
  have := hn rfl
  omega
 | some a => exact ⟨a,rfl,hc a rfl i x hx⟩
def tyF (l : List UInt8) : List Ty := l.map fun x => ofF x.toNat
theorem tyF_next {l : List UInt8} {i : Nat} {x : UInt8} (h : l[i]? = some x) : tyF (l.take i) ++ [ofF x.toNat] = tyF (l.take (i + 1)) := by
 unfold tyF
 rw [List.take_add_one,h,List.map_append]
 rfl
theorem tyF_len (l : List UInt8) : (tyF l).length = l.length := by unfold tyF; simp
theorem tyF_sz (l : List UInt8) : ∀ t ∈ tyF l,t.2.size <= 9 := by
 intro t ht
 obtain ⟨x,-,rfl⟩ := List.mem_map.1 ht
 exact ofF_sz _
theorem types_12 (l : List UInt8) (pl : Option Addr) (cl : Nat) (w : World) (hl : Rd w (.slice pl l.length cl) l) (hpl : l = [] ∨ ∀ g,(Value.slice pl l.length cl).ownBlock = some g -> g < w.heap.size) (hn : l.length <= 1000) :
  Calls Tryz.prog 11 #[.slice pl l.length cl] w fun e w' => ∃ p c,e = .returned (.slice p l.length c) /\ OT w' w.heap.size (.slice p l.length c) (tyF l) /\ Below w.heap.size w w' := by
 have HLL := hid hl
 have HPL := hid hpl
 have HN := hid hn
 clear hl hpl hn
 have HBW : Hid (Below w.heap.size w w) := hid (Below.refl _ _)
 have HO : Hid (OT w w.heap.size (.slice none 0 0) (tyF (l.take 0))) := hid (OwnX.nil _ _ _ _ _)
 go_enter Tryz.func11,Tryz.ntmps11
 go_wp2_with fail
 go_loopw [3,4] (fun va vi wr => ∃ (i : Nat) (pa : Option Addr) (na ca : Nat),va = .slice pa na ca /\ vi = .int .i64 (i : Int) /\ i <= l.length /\ Hid (OT wr w.heap.size (.slice pa na ca) (tyF (l.take i))) /\ Hid (Below w.heap.size w wr)) (fun _ x _ => l.length - (intOf x).toNat)
 case atStart => exact ⟨0,none,0,0,rfl,rfl,by omega,HO,HBW⟩
 case round =>
  clear HO HBW
  obtain ⟨i,pa,na,ca,rfl,rfl,hin,HO,HBW⟩ := hrel
  by_cases hlt : i < l.length
  ·have hlt' : (i : Int) < (l.length : Int) := by omega
   have hl12 := HN.out
   obtain ⟨z,hz⟩ : ∃ z,l[i]? = some z := ⟨_,List.getElem?_eq_getElem hlt⟩
   have HNX := hid (tyF_next hz)
   obtain ⟨t,ht⟩ : ∃ t,ofF z.toNat = t := ⟨_,rfl⟩
   have HTT := hid ht
   rw [ht] at HNX
   obtain ⟨al,hal,hcx⟩ := rd_place6 (HLL.out.below HBW.out HPL.out) hz
   subst hal
   clear ht hz
   go_wp2_with fail
   refine (of_12 z.toNat _ z.toNat_lt).mono ?_
   rw [HTT.out,show tyv t = .agg #[.int .i64 t.1,.string t.2] from rfl]
   rintro e wa ⟨rfl,hbn⟩
   replace HO := hid (HO.out.kptS (.of_below hbn : Kpt [] _ _) (fun _ _ => by simp))
   replace HBW := hid (HBW.out.trans (hbn.mono HBW.out.size))
   clear hbn hcx
   have HSRC := hid (rdX_lit1 (sz := 2) (c := tyC) (fun _ => rfl) wa t #[.int .i64 t.1,.string t.2] 26 rfl)
   have hbn := below_alR wa (.cells #[.int .i64 t.1,.string t.2] 26)
   replace HO := hid (HO.out.kptS (.of_below hbn : Kpt [] _ _) (fun _ _ => by simp))
   replace HBW := hid (HBW.out.trans (hbn.mono HBW.out.size))
   clear hbn
   go_wp2_with (at_builtin; refine wp_appM inf_typ shape_typ rfl _ _ rfl w.heap.size _ (tyF (l.take i)) rfl HO.out wa.heap.size 0 1 1 [t] rfl HSRC.out (by rw [tyF_len,List.length_take]; simp; omega) HBW.out.size ?_)
   intro v6 w6 ho6 hg6 hl6
   obtain ⟨pa2,na2,ca2,hv6⟩ := ho6.slice
   subst hv6
   have hbn := grown_belF HO.out hg6 HBW.out.size
   rw [HNX.out] at ho6
   replace HO := hid ho6
   replace HBW := hid (HBW.out.trans hbn)
   clear hbn ho6 hg6 hl6 HSRC
   go_wp2_with fail
   go_roundw
   case rel => exact ⟨i + 1,pa2,na2,ca2,rfl,by go_num,by omega,HO,HBW⟩
   case measure => simp [intOf]; omega
  ·obtain rfl : i = l.length := by omega
   have hlt' : ¬ (l.length : Int) < (l.length : Int) := by omega
   have ho := HO.out
   rw [List.take_length] at ho
   obtain ⟨_,_,e1,-⟩ := (ho.rd (sP.grow _)).len
   simp only [Value.slice.injEq,tyF_len] at e1
   obtain ⟨rfl,rfl,rfl⟩ := e1
   replace HO := hid ho
   clear ho
   go_wp2_with fail
   go_ret
   exact ⟨_,_,rfl,HO.out,HBW.out⟩
end Go.Proofs.YtpkjlgdbaajpoaaGreat.R
namespace Go.Proofs.YtpkjlgdbaajpoaaGreat.R
open Go.RowKit Go.Proofs.YtpkjlgdbaajpoaaGreat.D Go.Proofs.YtpkjlgdbaajpoaaGreat.O Go.Proofs.YtpkjlgdbaajpoaaGreat.A
def TwoW (W : World) (ok ok2 : Nat -> Prop) (vt : Value) (K : List Cls) (rb : Nat) (p : Option Addr) (cap : Nat) (A : List Cls) (T : List Sk) : Prop := TrN W ok vt K /\ RfW ok2 W rb p cap A /\ K.map skOf = T /\ A.map skOf = T /\ (∀ s,(ifsT T s).length <= 1000)
theorem TwoW.below {W W' : World} {ok ok2 : Nat -> Prop} {vt : Value} {K : List Cls} {rb : Nat} {p : Option Addr} {cap : Nat} {A : List Cls} {T : List Sk} (h : TwoW W ok ok2 vt K rb p cap A T) (hb : Below W.heap.size W W') : TwoW W' ok ok2 vt K rb p cap A T :=
 ⟨h.1.below hb,h.2.1.below hb,h.2.2⟩
section
variable {W : World} {ok ok2 : Nat -> Prop} {vt : Value} {K : List Cls} {rb : Nat} {p : Option Addr} {cap : Nat} {A : List Cls} {T : List Sk} (h : TwoW W ok ok2 vt K rb p cap A T)
include h
theorem TwoW.rfits {k1 k2 : Int} {s1 s2 : ByteArray} : Calls Tryz.prog 22 #[.pointer (some ⟨rb,0,none⟩),.agg #[.int .i64 k1,.string s1],.agg #[.int .i64 k2,.string s2]] W fun e w' => e = .returned (.bool (fitsT T (k1,s1) (k2,s2))) /\ Below W.heap.size W w' := by
 have := Fits_r rb p cap A (k1,s1) (k2,s2) W h.2.1 (by rw [h.2.2.2.1]; exact h.2.2.2.2)
 rwa [h.2.2.2.1] at this
end
theorem c1_at {W : World} {g : Nat} {v : Value} {T : TypeId} {f : Nat × Nat} (h : W.heap[g]? = some (.cells #[v] T f)) : g < W.heap.size /\ W.cell? ⟨g,0,none⟩ = some v :=
 ⟨(Array.getElem?_eq_some_iff.1 h).1,by simp [World.cell?,h]⟩
theorem blk_below {W W' : World} {g : Nat} {o : Obj} (h : W.heap[g]? = some o) (hb : Below W.heap.size W W') : W'.heap[g]? = some o := (hb.block _ (Array.getElem?_eq_some_iff.1 h).1).trans h
end Go.Proofs.YtpkjlgdbaajpoaaGreat.R
