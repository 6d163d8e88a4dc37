/- Texts that the proof is made of, joined. No condition. -/
import Derived.Test.YtpkjlgdbaajpoaaGreatC1222
import Derived.Test.YtpkjlgdbaajpoaaGreatC1221
import Derived.Deep.DeepCutAuto
import Derived.Deep.CutBlock
import Derived.Test.YtpkjlgdbaajpoaaGreatC12H
set_option linter.unusedVariables false
set_option linter.unusedSimpArgs false
set_option maxRecDepth 100000
set_option maxHeartbeats 16000000
namespace Go.Proofs.YtpkjlgdbaajpoaaGreat.R
open Go.RowKit Go.Proofs.YtpkjlgdbaajpoaaGreat.D Go.Proofs.YtpkjlgdbaajpoaaGreat.O Go.Proofs.YtpkjlgdbaajpoaaGreat.A
theorem ops_at (k : Nat) (h : k < 14) : (#[.int .i64 1,.int .i64 2,.int .i64 3,.int .i64 42,.int .i64 7,.int .i64 6,.int .i64 8,.int .i64 13,.int .i64 14,.int .i64 15,.int .i64 18,.int .i64 21,.int .i64 43,.int .i64 19] : Array Value)[k]? = some (.int .i64 (opsC.getD k 0 : Int)) := by
 have key : ∀ i : Fin 14,(#[.int .i64 1,.int .i64 2,.int .i64 3,.int .i64 42,.int .i64 7,.int .i64 6,.int .i64 8,.int .i64 13,.int .i64 14,.int .i64 15,.int .i64 18,.int .i64 21,.int .i64 43,.int .i64 19] : Array Value)[i.val]? = some (.int .i64 (opsC.getD i.val 0 : Int)) := by intro i; match i with | ⟨0,_⟩ | ⟨1,_⟩ | ⟨2,_⟩ | ⟨3,_⟩ | ⟨4,_⟩ | ⟨5,_⟩ | ⟨6,_⟩ | ⟨7,_⟩ | ⟨8,_⟩ | ⟨9,_⟩ | ⟨10,_⟩ | ⟨11,_⟩ | ⟨12,_⟩ | ⟨13,_⟩ => rfl
 exact key ⟨k,h⟩
theorem take_at (k : Nat) (h : k < 14) : (#[.int .i64 0,.int .i64 0,.int .i64 0,.int .i64 0,.int .i64 1,.int .i64 1,.int .i64 2,.int .i64 1,.int .i64 2,.int .i64 2,.int .i64 1,.int .i64 1,.int .i64 1,.int .i64 0] : Array Value)[k]? = some (.int .i64 (takeC.getD k 0 : Int)) := by
 have key : ∀ i : Fin 14,(#[.int .i64 0,.int .i64 0,.int .i64 0,.int .i64 0,.int .i64 1,.int .i64 1,.int .i64 2,.int .i64 1,.int .i64 2,.int .i64 2,.int .i64 1,.int .i64 1,.int .i64 1,.int .i64 0] : Array Value)[i.val]? = some (.int .i64 (takeC.getD i.val 0 : Int)) := by intro i; match i with | ⟨0,_⟩ | ⟨1,_⟩ | ⟨2,_⟩ | ⟨3,_⟩ | ⟨4,_⟩ | ⟨5,_⟩ | ⟨6,_⟩ | ⟨7,_⟩ | ⟨8,_⟩ | ⟨9,_⟩ | ⟨10,_⟩ | ⟨11,_⟩ | ⟨12,_⟩ | ⟨13,_⟩ => rfl
 exact key ⟨k,h⟩
theorem leave_at (k : Nat) (h : k < 14) : (#[.int .i64 1,.int .i64 1,.int .i64 1,.int .i64 1,.int .i64 2,.int .i64 0,.int .i64 1,.int .i64 1,.int .i64 1,.int .i64 1,.int .i64 1,.int .i64 1,.int .i64 0,.int .i64 0] : Array Value)[k]? = some (.int .i64 (leaveC.getD k 0 : Int)) := by
 have key : ∀ i : Fin 14,(#[.int .i64 1,.int .i64 1,.int .i64 1,.int .i64 1,.int .i64 2,.int .i64 0,.int .i64 1,.int .i64 1,.int .i64 1,.int .i64 1,.int .i64 1,.int .i64 1,.int .i64 0,.int .i64 0] : Array Value)[i.val]? = some (.int .i64 (leaveC.getD i.val 0 : Int)) := by intro i; match i with | ⟨0,_⟩ | ⟨1,_⟩ | ⟨2,_⟩ | ⟨3,_⟩ | ⟨4,_⟩ | ⟨5,_⟩ | ⟨6,_⟩ | ⟨7,_⟩ | ⟨8,_⟩ | ⟨9,_⟩ | ⟨10,_⟩ | ⟨11,_⟩ | ⟨12,_⟩ | ⟨13,_⟩ => rfl
 exact key ⟨k,h⟩
theorem tl_cnt : ∀ k : Fin 14,takeC.getD k 0 <= 2 /\ leaveC.getD k 0 <= 2 := by decide
theorem counts_l (o n d : Nat) (w : World) (ho : o < 256) (hn : n < 256) (hd : d < 256) :
  Calls Tryz.prog 4 #[.int .u8 (o : Int),.int .u8 (n : Int),.int .u8 (d : Int)] w fun e w' => e = .returned (.bool true) /\ Below w.heap.size w w' := by
 obtain ⟨k,hk⟩ : ∃ k,o % 14 = k := ⟨_,rfl⟩
 have hk14 : k < 14 := by omega
 have hk15 : (k : Int) < 14 := by omega
 have hk1 : (o : Int) % 14 = (k : Int) := by omega
 have hk2 : (o : Int).tmod 14 = (k : Int) := by rw [Int.tmod_eq_emod_of_nonneg (by omega)]; omega
 obtain ⟨d4,hd4⟩ : ∃ k,d % 4 = k := ⟨_,rfl⟩
 have hd1 : (d : Int) % 4 = (d4 : Int) := by omega
 have hd2 : (d : Int).tmod 4 = (d4 : Int) := by rw [Int.tmod_eq_emod_of_nonneg (by omega)]; omega
 obtain ⟨n3,hn3⟩ : ∃ k,n % 3 = k := ⟨_,rfl⟩
 have hn1 : (n : Int) % 3 = (n3 : Int) := by omega
 have hn2 : (n : Int).tmod 3 = (n3 : Int) := by rw [Int.tmod_eq_emod_of_nonneg (by omega)]; omega
 have HN3 : Hid (n3 < 3 /\ d4 < 4) := hid (by omega)
 go_enter Tryz.func4,Tryz.ntmps4
 try simp only [List.append_eq,List.cons_append,List.nil_append]
 go_wp2_with fail
 refine (known_12 w).mono ?_
 rintro e w1 ⟨rfl,hb1⟩
 have HB1 := hid hb1
 clear hb1
 go_wp2_with fail
 refine (New_t [] none 0 anyB w1 (RdX.nil _ _ _ _) ⟨by decide,fun c hc => by cases hc⟩ (fun c hc => by cases hc)).mono ?_
 rintro e w2 ⟨tb,mb,vs,rfl,ht,hb2⟩
 have HT := hid ht
 have HB2 := hid (HB1.out.trans (hb2.mono HB1.out.size))
 clear ht hb2 HB1
 go_upto_region 7 with fail
 obtain ⟨w3,hw3⟩ : ∃ x,x = ((w2.alloc (.cells #[.int .i64 1,.int .i64 2,.int .i64 3,.int .i64 42,.int .i64 7,.int .i64 6,.int .i64 8,.int .i64 13,.int .i64 14,.int .i64 15,.int .i64 18,.int .i64 21,.int .i64 43,.int .i64 19] 3)).alloc (.cells #[.int .i64 0,.int .i64 0,.int .i64 0,.int .i64 0,.int .i64 1,.int .i64 1,.int .i64 2,.int .i64 1,.int .i64 2,.int .i64 2,.int .i64 1,.int .i64 1,.int .i64 1,.int .i64 0] 3)).alloc (.cells #[.int .i64 1,.int .i64 1,.int .i64 1,.int .i64 1,.int .i64 2,.int .i64 0,.int .i64 1,.int .i64 1,.int .i64 1,.int .i64 1,.int .i64 1,.int .i64 1,.int .i64 0,.int .i64 0] 3) := ⟨_,rfl⟩
 have hbA := jbl2 (w2.alloc (.cells #[.int .i64 1,.int .i64 2,.int .i64 3,.int .i64 42,.int .i64 7,.int .i64 6,.int .i64 8,.int .i64 13,.int .i64 14,.int .i64 15,.int .i64 18,.int .i64 21,.int .i64 43,.int .i64 19] 3)) (.cells #[.int .i64 0,.int .i64 0,.int .i64 0,.int .i64 0,.int .i64 1,.int .i64 1,.int .i64 2,.int .i64 1,.int .i64 2,.int .i64 2,.int .i64 1,.int .i64 1,.int .i64 1,.int .i64 0] 3) (.cells #[.int .i64 1,.int .i64 1,.int .i64 1,.int .i64 1,.int .i64 2,.int .i64 0,.int .i64 1,.int .i64 1,.int .i64 1,.int .i64 1,.int .i64 1,.int .i64 1,.int .i64 0,.int .i64 0] 3)
 have hb3 : Below w2.heap.size w2 w3 := by rw [hw3]; exact (below_alR _ _).trans (hbA.mono (below_alR _ _).size)
 have HO : Hid (w3.heap[w2.heap.size]? = some (.cells #[.int .i64 1,.int .i64 2,.int .i64 3,.int .i64 42,.int .i64 7,.int .i64 6,.int .i64 8,.int .i64 13,.int .i64 14,.int .i64 15,.int .i64 18,.int .i64 21,.int .i64 43,.int .i64 19] 3 (0,0))) := hid (by rw [hw3,hbA.block _ (by simp)]; exact heap_alloc_new _ _)
 have HK : Hid (w3.heap[w2.heap.size + 1]? = some (.cells #[.int .i64 0,.int .i64 0,.int .i64 0,.int .i64 0,.int .i64 1,.int .i64 1,.int .i64 2,.int .i64 1,.int .i64 2,.int .i64 2,.int .i64 1,.int .i64 1,.int .i64 1,.int .i64 0] 3 (0,0))) := hid (by rw [hw3,(below_alR _ _).block _ (by simp)]; exact jal2 _ _ _ _)
 have HL : Hid (w3.heap[w2.heap.size + 2]? = some (.cells #[.int .i64 1,.int .i64 1,.int .i64 1,.int .i64 1,.int .i64 2,.int .i64 0,.int .i64 1,.int .i64 1,.int .i64 1,.int .i64 1,.int .i64 1,.int .i64 1,.int .i64 0,.int .i64 0] 3 (0,0))) := hid (by rw [hw3]; have h := heap_alloc_new ((w2.alloc (.cells #[.int .i64 1,.int .i64 2,.int .i64 3,.int .i64 42,.int .i64 7,.int .i64 6,.int .i64 8,.int .i64 13,.int .i64 14,.int .i64 15,.int .i64 18,.int .i64 21,.int .i64 43,.int .i64 19] 3)).alloc (.cells #[.int .i64 0,.int .i64 0,.int .i64 0,.int .i64 0,.int .i64 1,.int .i64 1,.int .i64 2,.int .i64 1,.int .i64 2,.int .i64 2,.int .i64 1,.int .i64 1,.int .i64 1,.int .i64 0] 3)) (.cells #[.int .i64 1,.int .i64 1,.int .i64 1,.int .i64 1,.int .i64 2,.int .i64 0,.int .i64 1,.int .i64 1,.int .i64 1,.int .i64 1,.int .i64 1,.int .i64 1,.int .i64 0,.int .i64 0] 3); simp only [World.size_alloc] at h; exact h)
 rw [<- hw3]
 clear hw3 hbA
 replace HT := hid (HT.out.old hb3)
 replace HB2 := hid (HB2.out.trans (hb3.mono HB2.out.size))
 obtain ⟨g,hg⟩ : ∃ z,w2.heap.size = z := ⟨_,rfl⟩
 rw [hg] at HO HK HL HT ⊢
 clear hb3 hg
 obtain ⟨s,hs⟩ : ∃ s,(if n / 3 % 2 = 0 then d4 else 100 - n3) = s := ⟨_,rfl⟩
 have hs100 : s <= 100 := by rw [<- hs]; split <;> omega
 have HS := hid hs
 clear hs
 go_upto_region 9 with fail
 have hgl := (Array.getElem?_eq_some_iff.1 HL.out).1
 obtain ⟨w4,hw4⟩ : ∃ x,x = w3.alloc (.cells #[.bool true,.slice none 0 0,.slice none 0 0] 44) := ⟨_,rfl⟩
 have hb4 := below_alR w3 (.cells #[.bool true,.slice none 0 0,.slice none 0 0] 44)
 have HF : Hid (w4.heap[w3.heap.size]? = some (.cells #[.bool true,.slice none 0 0,.slice none 0 0] 44 (0,0))) := hid (by rw [hw4]; exact heap_alloc_new _ _)
 rw [<- hw4] at hb4 ⊢
 replace HT := hid (HT.out.below hb4)
 have HWG0 := hid HB2.out.size
 replace HO := hid (blk_b HO.out hb4)
 replace HK := hid (blk_b HK.out hb4)
 replace HL := hid (blk_b HL.out hb4)
 replace HB2 := hid (HB2.out.trans (hb4.mono HB2.out.size))
 obtain ⟨gf,hgf⟩ : ∃ z,w3.heap.size = z := ⟨_,rfl⟩
 have HWG : Hid (w.heap.size <= gf) := hid (by rw [<- hgf]; exact HWG0.out)
 have HGG : Hid (g + 2 < gf) := hid (by rw [<- hgf]; exact hgl)
 rw [hgf] at HF ⊢
 clear hb4 hw4 hgf hgl
 go_cut [13] from 32 to 44 (fun s13 wx => s13 = .int .i64 (s : Int) /\ Hid (Below w4.heap.size w4 wx))
 rcases (by omega : n / 3 % 2 = 0 ∨ n / 3 % 2 = 1) with hq | hq
 ·have hq1 : (n : Int) / 3 % 2 = 0 := by omega
  have hq2 : ((n : Int).tdiv 3).tmod 2 = 0 := by rw [Int.tdiv_eq_ediv_of_nonneg (by omega),Int.tmod_eq_emod_of_nonneg (by omega)]; exact hq1
  have hsd : s = d4 := by have := HS.out; rw [if_pos hq] at this; exact this.symm
  subst hsd
  go_wp2_with fail
  go_meet
  case rel => exact ⟨rfl,hid (below_alR _ _)⟩
 ·have hq1 : (n : Int) / 3 % 2 = 1 := by omega
  have hq2 : ((n : Int).tdiv 3).tmod 2 = 1 := by rw [Int.tdiv_eq_ediv_of_nonneg (by omega),Int.tmod_eq_emod_of_nonneg (by omega)]; exact hq1
  have hsd : s = 100 - n3 := by have := HS.out; rw [if_neg (by omega)] at this; exact this.symm
  have hn3l := HN3.out.1
  go_wp2_with fail
  go_meet
  case rel => exact ⟨by rw [hsd]; congr 1; omega,hid (below_alR _ _)⟩
 case rest =>
  obtain ⟨rfl,hbz⟩ := hcut
  replace HT := hid (HT.out.below hbz.out)
  replace HO := hid (blk_b HO.out hbz.out)
  replace HK := hid (blk_b HK.out hbz.out)
  replace HL := hid (blk_b HL.out hbz.out)
  replace HF := hid (blk_b HF.out hbz.out)
  replace HB2 := hid (HB2.out.trans (hbz.out.mono HB2.out.size))
  clear hbz hd1 hd2 hn1 hn2 HN3 HS hk1 hk2
  obtain ⟨wb,hwb⟩ : ∃ z,z = wc := ⟨_,rfl⟩
  rw [<- hwb] at HT HO HK HL HF HB2 ⊢
  clear hwb
  have HKP : Hid (Kpt [gf] wb wb) := hid (Kpt.refl _ _)
  have HOW : Hid (OT wb wb.heap.size (.slice none 0 0) (List.replicate 0 intT)) := hid (OwnX.nil _ _ _ _ _)
  have HGF : Hid (gf < wb.heap.size) := hid (Array.getElem?_eq_some_iff.1 HF.out).1
  obtain ⟨B,hB⟩ : ∃ z,wb.heap.size = z := ⟨_,rfl⟩
  rw [hB] at HOW HGF
  have HBE := hid hB
  have HGW : Hid (w.heap.size <= gf) := hid HWG.out
  clear hB
  go_wp2_with fail
  go_loopw [14] (fun v wr => ∃ (i : Nat) (ps : Option Addr) (ns cs : Nat),v = .int .i64 (i : Int) /\ i <= s /\ Hid (wr.heap[gf]? = some (.cells #[.bool true,.slice none 0 0,.slice ps ns cs] 44 (0,0))) /\ Hid (OT wr B (.slice ps ns cs) (List.replicate i intT)) /\ Hid (Kpt [gf] wb wr)) (fun x _ => s - (intOf x).toNat)
  case atStart => exact ⟨0,none,0,0,rfl,by omega,HF,HOW,HKP⟩
  case round =>
   clear HF HOW HKP
   obtain ⟨i,ps,ns,cs,rfl,hin,HF,HOW,HKP⟩ := hrel
   by_cases hlt : i < s
   ·have hlt' : (i : Int) < (s : Int) := by omega
    obtain ⟨ul,uc,uf⟩ := boxN HF.out
    have u2 := uc 2 _ rfl
    simp only [Nat.zero_add] at u2
    clear uc uf
    have hbT := below_alR wr (.cells #[.int .i64 1,.string ⟨#[]⟩] 26)
    have HSRC := hid (rdX_lit1 (sz := 2) (c := tyC) (fun _ => rfl) wr intT #[.int .i64 1,.string ⟨#[]⟩] 26 rfl)
    replace HOW := hid (HOW.out.kptS (.of_below hbT : Kpt [] _ _) (fun _ _ => by simp))
    replace HF := hid (blk_b HF.out hbT)
    replace HKP := hid (HKP.out.trans (.of_below hbT : Kpt [gf] _ _) (fun _ h => .inl h))
    clear hbT
    go_wp2_with (at_builtin; refine wp_appM inf_typ shape_typ rfl _ _ rfl B _ (List.replicate i intT) rfl HOW.out wr.heap.size 0 1 1 [intT] rfl HSRC.out (by simp; omega) (by have := HKP.out.size; have := HBE.out; omega) ?_)
    intro v6 w6 ho6 hg6 hl6
    obtain ⟨p6,n6,c6,hv6⟩ := ho6.slice
    subst hv6
    have hne : ∀ b,(Value.slice ps ns cs).ownBlock = some b -> b ≠ gf := fun b e => by have := (HOW.out.lt b e).1; have := HGF.out; omega
    have hk6 : Kpt [gf] wb w6 := HKP.out.trans (Kpt.of_grown (S := (Value.slice ps ns cs).ownBlock.toList) hg6 (fun b e => .inl (by rw [e]; simp))) (fun x hx => .inr (by
     have := (HOW.out.lt x (by simpa using hx)).1
     have := HBE.out
     omega))
    have hf6 := (hg6.block gf (Array.getElem?_eq_some_iff.1 HF.out).1 (fun e => hne gf e.symm rfl)).trans HF.out
    have HF6 := hid hf6
    have HK6 := hid hk6
    rw [show (List.replicate i intT ++ [intT] : List Ty) = List.replicate (i + 1) intT by rw [List.replicate_succ']] at ho6
    have HO6 := hid ho6
    obtain ⟨ul6,uc,uf⟩ := boxN hf6
    have m2 := uc 2 _ rfl
    have z2 := uf 2
    simp only [Nat.zero_add] at m2
    clear uc uf hne hk6 hf6 hg6 hl6 ho6 HOW HKP HF HSRC u2 ul
    go_wp2_with fail
    go_roundw
    case rel =>
     have kS : Kpt [gf] w6 (w6.setCell ⟨gf,2,none⟩ (.slice p6 n6 c6)) := Kpt.set _ _ _ _ _ (by simp)
     exact ⟨i + 1,p6,n6,c6,by go_num,by omega,hid (by rw [heap_setCell_same _ _ 2 _ _ _ HF6.out]; rfl),hid (HO6.out.kptS kS (fun b e => by have := (HO6.out.lt b e).1; have := HGF.out; simp; omega)),hid (HK6.out.trans kS (fun _ h => .inl h))⟩
    case measure => simp [intOf]; omega
   ·obtain rfl : i = s := by omega
    have hlt' : ¬ (i : Int) < (i : Int) := by omega
    obtain ⟨_,_,e1,-⟩ := (HOW.out.rd (sP.grow _)).len
    simp only [List.length_replicate,Value.slice.injEq] at e1
    obtain ⟨rfl,rfl,rfl⟩ := e1
    have hgg := HGG.out
    have ho := (HKP.out.2 g (Array.getElem?_eq_some_iff.1 HO.out).1 (by simp; omega)).trans HO.out
    have hkk := (HKP.out.2 (g + 1) (Array.getElem?_eq_some_iff.1 HK.out).1 (by simp; omega)).trans HK.out
    have hll := (HKP.out.2 (g + 2) (Array.getElem?_eq_some_iff.1 HL.out).1 (by simp; omega)).trans HL.out
    have ht := TrW_ne (r := gf) HT.out (fun b hb => by omega) HKP.out
    have hbx : Below w.heap.size w wr := HB2.out.trans (HKP.out.below (fun x hx => by simp at hx; have := HGW.out; omega) HB2.out.size)
    obtain ⟨op,hop⟩ : ∃ z,opsC.getD k 0 = z := ⟨_,rfl⟩
    obtain ⟨tk,htk⟩ : ∃ z,takeC.getD k 0 = z := ⟨_,rfl⟩
    obtain ⟨lv,hlv⟩ : ∃ z,leaveC.getD k 0 = z := ⟨_,rfl⟩
    have hct := cnt_tab ⟨k,hk14⟩ ⟨ns,by omega⟩
    have hok := ok_cnt ⟨k,hk14⟩
    have eo := ops_at k hk14
    have et := take_at k hk14
    have el := leave_at k hk14
    dsimp only at hct hok
    unfold cntB at hct
    rw [hop] at eo hok hct
    rw [htk] at et hct
    rw [hlv] at el hct
    have HCT := hid hct
    have htl := tl_cnt ⟨k,hk14⟩
    dsimp only at htl
    rw [htk,hlv] at htl
    have HTL := hid htl
    clear htl
    have HOK := hid hok
    have HEO := hid (cell_at ho eo)
    have HET := hid (cell_at hkk et)
    have HEL := hid (cell_at hll el)
    have HLT := hid (⟨(Array.getElem?_eq_some_iff.1 ho).1,(Array.getElem?_eq_some_iff.1 hll).1⟩ : g < wr.heap.size /\ g + 2 < wr.heap.size)
    have HT2 := hid ht
    have HB3 := hid hbx
    clear hgg ho hkk hll ht hbx hop htk hlv hct hok eo et el HT HO HK HL HKP HB2
    go_upto_region 15 with fail
    obtain ⟨wm,hwm⟩ : ∃ z,z = wr.alloc (.cells #[.string ⟨#[]⟩,.slice none 0 0,.int .i64 5,.string ⟨#[]⟩,.bool true,.bool false,.int .i64 0,.slice none 0 0,.slice none 0 0] 30) := ⟨_,rfl⟩
    have hbm := below_alR wr (.cells #[.string ⟨#[]⟩,.slice none 0 0,.int .i64 5,.string ⟨#[]⟩,.bool true,.bool false,.int .i64 0,.slice none 0 0,.slice none 0 0] 30)
    have HM : Hid (wm.heap[wr.heap.size]? = some (.cells #[.string ⟨#[]⟩,.slice none 0 0,.int .i64 5,.string ⟨#[]⟩,.bool true,.bool false,.int .i64 0,.slice none 0 0,.slice none 0 0] 30 (0,0))) := hid (by rw [hwm]; exact heap_alloc_new _ _)
    rw [<- hwm] at hbm ⊢
    replace HF := hid (blk_b HF.out hbm)
    have HRS := hid (((HOW.out.rd (sP.grow _)).any (sP.grow _) hbm).step (sP.grow _) (ok' := anyB) (fun _ _ _ => trivial) (fun _ _ _ => rfl) (Nat.le_refl _))
    replace HEO := hid (cell_b HEO.out HLT.out.1 hbm)
    replace HET := hid (cell_b HET.out (by have := HLT.out.2; omega) hbm)
    replace HEL := hid (cell_b HEL.out HLT.out.2 hbm)
    replace HT2 := hid (HT2.out.below hbm)
    replace HLT := hid ((⟨Nat.lt_of_lt_of_le HLT.out.1 hbm.size,Nat.lt_of_lt_of_le HLT.out.2 hbm.size⟩ : g < wm.heap.size /\ g + 2 < wm.heap.size))
    replace HB3 := hid (HB3.out.trans (hbm.mono HB3.out.size))
    obtain ⟨gm,hgm⟩ : ∃ z,wr.heap.size = z := ⟨_,rfl⟩
    rw [hgm] at HM ⊢
    clear hbm hwm hgm HOW
    obtain ⟨E,hE⟩ : ∃ z,stepP [] (5,⟨#[]⟩) (true,[],List.replicate ns intT) op 0 = z := ⟨_,rfl⟩
    have HE := hid hE
    clear hE
    have HHB : Hid (Below wm.heap.size wm wm.drew) := hid (Below.refl _ _).drew
    replace HF : Hid (wm.drew.heap[gf]? = _) := hid HF.out
    replace HM : Hid (wm.drew.heap[gm]? = _) := hid HM.out
    have HFL : Hid (gf < wm.heap.size) := hid (Array.getElem?_eq_some_iff.1 HF.out).1
    have HML : Hid (gm < wm.heap.size) := hid (Array.getElem?_eq_some_iff.1 HM.out).1
    go_cut [16,17] from 58 to 69 (fun s16 s17 wx => ∃ (gg : Nat) (pl : Option Addr) (cl : Nat) (pt : Option Addr) (ct : Nat),s16 = .pointer (some ⟨gg,0,none⟩) /\ s17 = .int .i64 E.2 /\ Hid (wx.heap[gg]? = some (.cells #[.bool E.1.1,.slice pl E.1.2.1.length cl,.slice pt E.1.2.2.length ct] 44 (0,0))) /\ Hid (Below wm.heap.size wm wx))
    refine wp_region_held_drew (S := fun W => ((gf < W.heap.size /\ W.cell? ⟨gf,0,none⟩ = some (.bool true) /\ W.cell? ⟨gf,1,none⟩ = some (.slice none 0 0) /\ W.cell? ⟨gf,2,none⟩ = some (.slice ps ns cs)) /\ (gm < W.heap.size /\ W.cell? ⟨gm,0,none⟩ = some (.string ⟨#[]⟩) /\ W.cell? ⟨gm,1,none⟩ = some (.slice none 0 0) /\ W.cell? ⟨gm,2,none⟩ = some (.int .i64 5) /\ W.cell? ⟨gm,3,none⟩ = some (.string ⟨#[]⟩) /\ W.cell? ⟨gm,4,none⟩ = some (.bool true) /\ W.cell? ⟨gm,5,none⟩ = some (.bool false) /\ W.cell? ⟨gm,6,none⟩ = some (.int .i64 0) /\ W.cell? ⟨gm,7,none⟩ = some (.slice none 0 0) /\ W.cell? ⟨gm,8,none⟩ = some (.slice none 0 0))) /\ W.cell? ⟨g,k,none⟩ = some (.int .i64 op)) (by kernel_rfl) (by first | exact ⟨⟨c3_at HF.out,m9_at HM.out⟩,cell_b HEO.out HLT.out.1 HHB.out⟩ | exact ⟨⟨c3_kp (c3_at HF.out) HKG.out HNF.out,m9_kp (m9_at HM.out) HKG.out HNM.out⟩,cell_kp (cell_b HEO.out HLT.out.1 HHB.out) (Nat.lt_of_lt_of_le HLT.out.1 HHB.out.size) HKG.out HNO.out⟩) (fun hh => ?_)
    refine tkA 0 _ hh ?_
    try go_frame
    refine tkB 1 _ hh ?_
    try go_frame
    refine tkB 2 _ hh ?_
    try go_frame
    refine tkA 3 _ hh ?_
    try go_frame
    refine tkA 4 _ hh ?_
    try go_frame
    refine tkA 5 _ hh ?_
    try go_frame
    refine tkB 6 _ hh ?_
    try go_frame
    refine tkA 7 _ hh ?_
    try go_frame
    refine rdH [8,12] ?_
    refine AllReadyH.cons (o := _) (by simp only [List.getElem?_toArray,List.getElem?_cons_succ,List.getElem?_cons_zero]; rfl) (fun KX hKX => ?_) ?_
    ·clear hh
     go_simp
     refine (Step_f (fun b => w1.heap.size <= b /\ b < g) _ [] ⟨#[]⟩ (5,⟨#[]⟩) true false 0 none none none 0 0 0 0 0 0 _ (true,[],List.replicate ns intT) op 0 _ (.inl ⟨tb,mb,vs,rfl,HT2.out.below HHB.out⟩) (rdf_mk (HRS.out.any (sP.grow _) HHB.out)) (szf_int ns hs100) (by decide) (.inl ⟨HOK.out,rfl⟩) ⟨Nat.zero_le _,by rw [List.length_replicate]; exact hs100⟩).mono ?_
     rw [show (List.map skOf ([] : List Cls)) = [] from rfl,HE.out]
     rintro e wn ⟨vg,rfl,hg,hbn⟩
     obtain ⟨pl,cl,pt,ct,rfl,-,-⟩ := hg
     replace HF := hid (blk_b HF.out hbn)
     replace HM := hid (blk_b HM.out hbn)
     replace HHB := hid (HHB.out.trans (hbn.mono HHB.out.size))
     clear hbn
     refine hKX.out _ _ (by first | exact ⟨⟨c3_at HF.out,m9_at HM.out⟩,cell_b HEO.out HLT.out.1 HHB.out⟩ | exact ⟨⟨c3_kp (c3_at HF.out) HKG.out HNF.out,m9_kp (m9_at HM.out) HKG.out HNM.out⟩,cell_kp (cell_b HEO.out HLT.out.1 HHB.out) (Nat.lt_of_lt_of_le HLT.out.1 HHB.out.size) HKG.out HNO.out⟩) (fun hh => ?_)
     clear hKX KX
     try go_frame
     refine tkA 9 _ hh ?_
     try go_frame
     refine tkA 10 _ hh ?_
     try go_frame
     refine tkA 11 _ hh ?_
     try go_frame
     refine rdH [12] ?_
     refine AllReadyH.cons (o := _) (by simp only [List.getElem?_toArray,List.getElem?_cons_succ,List.getElem?_cons_zero]; rfl) (fun KX hKX => ?_) AllReadyH.nil
     clear hh
     have HHB0 := hid HHB.out.size
     go_simp
     have hbn := below_alR wn (.cells #[.bool false,.slice none 0 0,.slice none 0 0] 44)
     have HGG2 : Hid ((wn.alloc (.cells #[.bool false,.slice none 0 0,.slice none 0 0] 44)).heap[wn.heap.size]? = some (.cells #[.bool false,.slice none 0 0,.slice none 0 0] 44 (0,0))) := hid (heap_alloc_new wn (.cells #[.bool false,.slice none 0 0,.slice none 0 0] 44))
     replace HF := hid (blk_b HF.out hbn)
     replace HM := hid (blk_b HM.out hbn)
     replace HHB := hid (HHB.out.trans (hbn.mono HHB.out.size))
     clear hbn
     obtain ⟨gg,hgg⟩ : ∃ z,wn.heap.size = z := ⟨_,rfl⟩
     have HNX : Hid (wm.heap.size <= gg) := hid (by rw [<- hgg]; exact HHB0.out)
     rw [hgg] at HGG2 ⊢
     clear hgg
     refine hKX.out _ _ (by first | exact ⟨⟨c3_at HF.out,m9_at HM.out⟩,cell_b HEO.out HLT.out.1 HHB.out⟩ | exact ⟨⟨c3_kp (c3_at HF.out) HKG.out HNF.out,m9_kp (m9_at HM.out) HKG.out HNM.out⟩,cell_kp (cell_b HEO.out HLT.out.1 HHB.out) (Nat.lt_of_lt_of_le HLT.out.1 HHB.out.size) HKG.out HNO.out⟩) (fun hh => ?_)
     clear hKX KX
     try go_frame
     refine rdH [13] ?_
     refine AllReadyH.cons (o := _) (by simp only [List.getElem?_toArray,List.getElem?_cons_succ,List.getElem?_cons_zero]; rfl) (fun KX hKX => ?_) AllReadyH.nil
     clear hh
     obtain ⟨rl,rc,rf⟩ := boxN HGG2.out
     have r0 := rc 0 _ rfl
     have r1 := rc 1 _ rfl
     have r2 := rc 2 _ rfl
     have u0 := rf 0
     have u1 := rf 1
     have u2 := rf 2
     simp only [Nat.zero_add] at r0 r1 r2
     clear rc rf
     go_simp
     have HKG := hid (set3_kpt (wn.alloc (.cells #[.bool false,.slice none 0 0,.slice none 0 0] 44)) gg 0 1 2 (.bool E.1.1) (.slice pl E.1.2.1.length cl) (.slice pt E.1.2.2.length ct))
     have HNF : Hid (gf ≠ gg) := hid (by have := HNX.out; have := HFL.out; omega)
     have HNM : Hid (gm ≠ gg) := hid (by have := HNX.out; have := HML.out; omega)
     have HNO : Hid (g ≠ gg) := hid (by have := HNX.out; have := HLT.out.1; omega)
     refine hKX.out _ _ (by first | exact ⟨⟨c3_at HF.out,m9_at HM.out⟩,cell_b HEO.out HLT.out.1 HHB.out⟩ | exact ⟨⟨c3_kp (c3_at HF.out) HKG.out HNF.out,m9_kp (m9_at HM.out) HKG.out HNM.out⟩,cell_kp (cell_b HEO.out HLT.out.1 HHB.out) (Nat.lt_of_lt_of_le HLT.out.1 HHB.out.size) HKG.out HNO.out⟩) (fun hh => ?_)
     clear hKX KX
     try go_frame
     refine tkA 14 _ hh ?_
     try go_frame
     refine wpAnyH_done (by kernel_rfl) ?_ _
     clear hh
     go_wp2_with fail
     go_meet
     case rel => exact ⟨gg,pl,cl,pt,ct,rfl,rfl,hid (by rw [heap3_set HGG2.out]),hid (HHB.out.trans ((set3_kpt _ gg 0 1 2 (.bool E.1.1) (.slice pl E.1.2.1.length cl) (.slice pt E.1.2.2.length ct)).below (fun x hx => by simp at hx; have := HNX.out; omega) HHB.out.size))⟩
    refine AllReadyH.cons (o := _) (by simp only [List.getElem?_toArray,List.getElem?_cons_succ,List.getElem?_cons_zero]; rfl) (fun KX hKX => ?_) AllReadyH.nil
    clear hh
    have HHB0 := hid HHB.out.size
    go_simp
    have hbn := below_alR wm.drew (.cells #[.bool false,.slice none 0 0,.slice none 0 0] 44)
    have HGG2 : Hid ((wm.drew.alloc (.cells #[.bool false,.slice none 0 0,.slice none 0 0] 44)).heap[wm.heap.size]? = some (.cells #[.bool false,.slice none 0 0,.slice none 0 0] 44 (0,0))) := hid (heap_alloc_new wm.drew (.cells #[.bool false,.slice none 0 0,.slice none 0 0] 44))
    replace HF := hid (blk_b HF.out hbn)
    replace HM := hid (blk_b HM.out hbn)
    replace HHB := hid (HHB.out.trans (hbn.mono HHB.out.size))
    clear hbn
    obtain ⟨gg,hgg⟩ : ∃ z,wm.heap.size = z := ⟨_,rfl⟩
    have HNX : Hid (wm.heap.size <= gg) := hid (by rw [<- hgg]; exact HHB0.out)
    rw [hgg] at HGG2 ⊢
    clear hgg
    refine hKX.out _ _ (by first | exact ⟨⟨c3_at HF.out,m9_at HM.out⟩,cell_b HEO.out HLT.out.1 HHB.out⟩ | exact ⟨⟨c3_kp (c3_at HF.out) HKG.out HNF.out,m9_kp (m9_at HM.out) HKG.out HNM.out⟩,cell_kp (cell_b HEO.out HLT.out.1 HHB.out) (Nat.lt_of_lt_of_le HLT.out.1 HHB.out.size) HKG.out HNO.out⟩) (fun hh => ?_)
    clear hKX KX
    try go_frame
    refine rdH [8] ?_
    refine AllReadyH.cons (o := _) (by simp only [List.getElem?_toArray,List.getElem?_cons_succ,List.getElem?_cons_zero]; rfl) (fun KX hKX => ?_) AllReadyH.nil
    clear hh
    go_simp
    refine (Step_f (fun b => w1.heap.size <= b /\ b < g) _ [] ⟨#[]⟩ (5,⟨#[]⟩) true false 0 none none none 0 0 0 0 0 0 _ (true,[],List.replicate ns intT) op 0 _ (.inl ⟨tb,mb,vs,rfl,HT2.out.below HHB.out⟩) (rdf_mk (HRS.out.any (sP.grow _) HHB.out)) (szf_int ns hs100) (by decide) (.inl ⟨HOK.out,rfl⟩) ⟨Nat.zero_le _,by rw [List.length_replicate]; exact hs100⟩).mono ?_
    rw [show (List.map skOf ([] : List Cls)) = [] from rfl,HE.out]
    rintro e wn ⟨vg,rfl,hg,hbn⟩
    obtain ⟨pl,cl,pt,ct,rfl,-,-⟩ := hg
    replace HF := hid (blk_b HF.out hbn)
    replace HM := hid (blk_b HM.out hbn)
    replace HHB := hid (HHB.out.trans (hbn.mono HHB.out.size))
    replace HGG2 := hid (blk_b HGG2.out hbn)
    clear hbn
    refine hKX.out _ _ (by first | exact ⟨⟨c3_at HF.out,m9_at HM.out⟩,cell_b HEO.out HLT.out.1 HHB.out⟩ | exact ⟨⟨c3_kp (c3_at HF.out) HKG.out HNF.out,m9_kp (m9_at HM.out) HKG.out HNM.out⟩,cell_kp (cell_b HEO.out HLT.out.1 HHB.out) (Nat.lt_of_lt_of_le HLT.out.1 HHB.out.size) HKG.out HNO.out⟩) (fun hh => ?_)
    clear hKX KX
    try go_frame
    refine tkA 9 _ hh ?_
    try go_frame
    refine tkA 10 _ hh ?_
    try go_frame
    refine tkA 11 _ hh ?_
    try go_frame
    refine rdH [13] ?_
    refine AllReadyH.cons (o := _) (by simp only [List.getElem?_toArray,List.getElem?_cons_succ,List.getElem?_cons_zero]; rfl) (fun KX hKX => ?_) AllReadyH.nil
    clear hh
    obtain ⟨rl,rc,rf⟩ := boxN HGG2.out
    have r0 := rc 0 _ rfl
    have r1 := rc 1 _ rfl
    have r2 := rc 2 _ rfl
    have u0 := rf 0
    have u1 := rf 1
    have u2 := rf 2
    simp only [Nat.zero_add] at r0 r1 r2
    clear rc rf
    go_simp
    have HKG := hid (set3_kpt wn gg 0 1 2 (.bool E.1.1) (.slice pl E.1.2.1.length cl) (.slice pt E.1.2.2.length ct))
    have HNF : Hid (gf ≠ gg) := hid (by have := HNX.out; have := HFL.out; omega)
    have HNM : Hid (gm ≠ gg) := hid (by have := HNX.out; have := HML.out; omega)
    have HNO : Hid (g ≠ gg) := hid (by have := HNX.out; have := HLT.out.1; omega)
    refine hKX.out _ _ (by first | exact ⟨⟨c3_at HF.out,m9_at HM.out⟩,cell_b HEO.out HLT.out.1 HHB.out⟩ | exact ⟨⟨c3_kp (c3_at HF.out) HKG.out HNF.out,m9_kp (m9_at HM.out) HKG.out HNM.out⟩,cell_kp (cell_b HEO.out HLT.out.1 HHB.out) (Nat.lt_of_lt_of_le HLT.out.1 HHB.out.size) HKG.out HNO.out⟩) (fun hh => ?_)
    clear hKX KX
    try go_frame
    refine tkA 14 _ hh ?_
    try go_frame
    refine wpAnyH_done (by kernel_rfl) ?_ _
    clear hh
    go_wp2_with fail
    go_meet
    case rel => exact ⟨gg,pl,cl,pt,ct,rfl,rfl,hid (by rw [heap3_set HGG2.out]),hid (HHB.out.trans ((set3_kpt _ gg 0 1 2 (.bool E.1.1) (.slice pl E.1.2.1.length cl) (.slice pt E.1.2.2.length ct)).below (fun x hx => by simp at hx; have := HNX.out; omega) HHB.out.size))⟩
    case rest =>
     obtain ⟨gg,pl,cl,pt,ct,rfl,rfl,HGR,hbx⟩ := hcut
     replace HF := hid (blk_b (show wm.heap[gf]? = _ from HF.out) hbx.out)
     replace HET := hid (cell_b HET.out (by have := HLT.out.2; omega) hbx.out)
     replace HEL := hid (cell_b HEL.out HLT.out.2 hbx.out)
     replace HB3 := hid (HB3.out.trans (hbx.out.mono HB3.out.size))
     clear HHB HM HRS HT2 HEO HOK HLT hbx
     obtain ⟨⟨er,el,es'⟩,ee⟩ := E
     dsimp only at HGR ⊢
     have hct := HCT.out
     rw [show stepP [] (5,es) (true,[],List.replicate ns intT) op 0 = _ from HE.out] at hct
     have htk2 : tk <= 2 /\ lv <= 2 := HTL.out
     obtain ⟨htk2,hlv2⟩ := htk2
     dsimp only at hct
     go_upto_region 16 with fail
     replace HET : Hid (wc.drew.cell? _ = _) := hid HET.out
     replace HEL : Hid (wc.drew.cell? _ = _) := hid HEL.out
     replace HF : Hid (wc.drew.heap[gf]? = _) := hid HF.out
     replace HGR : Hid (wc.drew.heap[gg]? = _) := hid HGR.out
     replace HB3 := hid HB3.out.drew
     refine wp_region_held_drew (S := fun W => W.cell? ⟨g + 1,k,none⟩ = some (.int .i64 tk) /\ W.cell? ⟨g + 1 + 1,k,none⟩ = some (.int .i64 lv)) (by kernel_rfl) ⟨HET.out,HEL.out⟩ (fun hh => ?_)
     refine tkA 0 _ hh ?_
     try go_frame
     refine tkA 1 _ hh ?_
     try go_frame
     refine tkA 2 _ hh ?_
     try go_frame
     refine tkA 3 _ hh ?_
     try go_frame
     refine tkB 4 _ hh ?_
     try go_frame
     refine tkA 5 _ hh ?_
     try go_frame
     refine tkA 6 _ hh ?_
     try go_frame
     refine tkA 7 _ hh ?_
     try go_frame
     refine tkA 8 _ hh ?_
     try go_frame
     refine tkB 9 _ hh ?_
     try go_frame
     refine tkA 10 _ hh ?_
     try go_frame
     refine tkA 11 _ hh ?_
     try go_frame
     refine wpAnyH_done (by kernel_rfl) ?_ _
     clear hh
     obtain ⟨xl,x0,x1,x2⟩ := c3_at HGR.out
     obtain ⟨yl,y0,y1,y2⟩ := c3_at HF.out
     have t0 := HET.out
     by_cases hb1 : ns < tk
     ·have hi1 : (ns : Int) < (tk : Int) := by omega
      rw [if_pos (by simp [hb1])] at hct
      simp at hct
      obtain ⟨⟨rfl,rfl⟩,rfl⟩ := hct
      clear hb1
      go_wp2_with fail
      go_ret
      exact ⟨rfl,HB3.out⟩
     ·have hi1 : ¬ (ns : Int) < (tk : Int) := by omega
      by_cases hb2 : 100 < ns - tk + lv
      ·have hi2 : (100 : Int) < (ns : Int) - (tk : Int) + (lv : Int) := by omega
       rw [if_pos (by simp [hb1,hb2])] at hct
       simp at hct
       obtain ⟨⟨rfl,rfl⟩,rfl⟩ := hct
       clear hb1 hb2
       go_wp2_with fail
       go_ret
       exact ⟨rfl,HB3.out⟩
      ·have hi2 : ¬ (100 : Int) < (ns : Int) - (tk : Int) + (lv : Int) := by omega
       rw [if_neg (by simp; omega)] at hct
       simp at hct
       obtain ⟨rfl,hlen⟩ := hct
       have hi3 : (es'.length : Int) = (ns : Int) - (tk : Int) + (lv : Int) := by omega
       clear hb1 hb2 hlen
       go_wp2_with fail
       go_ret
       exact ⟨by simp [*],HB3.out⟩
end Go.Proofs.YtpkjlgdbaajpoaaGreat.R
