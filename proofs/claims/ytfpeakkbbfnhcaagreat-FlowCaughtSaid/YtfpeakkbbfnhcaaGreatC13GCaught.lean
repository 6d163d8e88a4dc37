/- Texts that the proof is made of, joined. No condition. -/
import Derived.Test.YtfpeakkbbfnhcaaGreatC1322
import Derived.Test.YtfpeakkbbfnhcaaGreatC1319
import Derived.Deep.DeepCutAuto
import Derived.Deep.CutBlock
import Derived.Test.YtfpeakkbbfnhcaaGreatC13H
set_option linter.unusedVariables false
set_option linter.unusedSimpArgs false
set_option maxRecDepth 100000
set_option maxHeartbeats 16000000
namespace Go.Proofs.YtfpeakkbbfnhcaaGreat.R
open Go.RowKit Go.Proofs.YtfpeakkbbfnhcaaGreat.D Go.Proofs.YtfpeakkbbfnhcaaGreat.O Go.Proofs.YtfpeakkbbfnhcaaGreat.A
theorem caughtW : ∀ f : Fin 5,∀ d : Fin 5,(d.val + f.val < 5) -> inferW [] ⟨#[65]⟩ (mCaught f.val (f.val + 1 + d.val)) = inferP [] (5,es) codeCt (hndCt f.val (f.val + 1 + d.val)) 60 (beginP codeCt (true,[topT],[])) := by
 have key : ∀ f : Fin 5,∀ d : Fin 5,(d.val + f.val < 5) -> (mthA (mCaught f.val (f.val + 1 + d.val))).2 = 0 /\ badH [] (hndCt f.val (f.val + 1 + d.val)) = 0 := by decide +kernel
 intro f d h
 obtain ⟨k1,k2⟩ := key f d h
 unfold inferW
 rw [if_neg (by rintro (h | h); (· cases h); exact h k1),if_neg (by show ¬ ¬ badH [] (hndCt f.val (f.val + 1 + d.val)) = 0; rw [k2]; simp)]
 rfl
theorem caught_ok : okCode codeCt = true := by decide +kernel
theorem caught_fact (f d : Nat) (h : d + f < 5) : ∃ R,inferW [] ⟨#[65]⟩ (mCaught f (f + 1 + d)) = some R /\ (2 <= f /\ f + 1 + d <= 4 -> R.2.2 = 0 /\ R.1.length = 10 /\ ∃ g t,R.1[6]? = some g /\ g.1 = true /\ g.2.1 = [t] /\ t.1 = 1) /\ (¬ (2 <= f /\ f + 1 + d <= 4) -> f = 4 -> R.2.2 = 29 /\ R.2.1 = 7) /\ (¬ (2 <= f /\ f + 1 + d <= 4) -> ¬ f = 4 -> R.2.2 = 29 /\ (R.2.1 = 6 ∨ R.2.1 = 7)) := by
 have hb := caught_tab ⟨f,by omega⟩ ⟨d,by omega⟩ h
 have hw := caughtW ⟨f,by omega⟩ ⟨d,by omega⟩ h
 dsimp only at hb hw
 unfold caughtB at hb
 rw [hw]
 cases hi : inferP [] (5,es) codeCt (hndCt f (f + 1 + d)) 60 (beginP codeCt (true,[topT],[])) with
 | none => rw [hi] at hb; cases hb
 | some R =>
  rw [hi] at hb
  obtain ⟨l,a,x⟩ := R
  dsimp only at hb
  refine ⟨_,rfl,fun hc => ?_,fun hc h4 => ?_,fun hc h4 => ?_⟩
  ·rw [if_pos hc] at hb
   simp only [Bool.and_eq_true,beq_iff_eq] at hb
   obtain ⟨⟨⟨⟨b1,b2⟩,b3⟩,b4⟩,b5⟩ := hb
   obtain ⟨t,ht⟩ := List.length_eq_one_iff.1 b4
   refine ⟨b1,b2,l.getD 6 noFr,t,?_,b3,ht,?_⟩
   ·show l[6]? = _
    have b6 : l.length = 10 := b2
    rw [List.getD_eq_getElem?_getD,List.getElem?_eq_getElem (by omega)]
    rfl
   ·rw [ht] at b5
    exact b5
  ·rw [if_neg hc,if_pos h4] at hb
   simpa using hb
  ·rw [if_neg hc,if_neg h4] at hb
   simpa using hb
theorem caught_l (x y : Nat) (w : World) (hx : x < 256) (hy : y < 256) :
  Calls Tryz.prog 6 #[.int .u8 (x : Int),.int .u8 (y : Int)] w fun e w' => e = .returned (.bool true) /\ Below w.heap.size w w' := by
 obtain ⟨f,hf⟩ : ∃ k,x % 5 = k := ⟨_,rfl⟩
 have hf5 : f < 5 := by omega
 have hf1 : (x : Int) % 5 = (f : Int) := by omega
 have hf2 : (x : Int).tmod 5 = (f : Int) := by rw [Int.tmod_eq_emod_of_nonneg (by omega)]; omega
 obtain ⟨d,hd⟩ : ∃ k,y % (5 - f) = k := ⟨_,rfl⟩
 have hdf : d < 5 - f := by rw [<- hd]; exact Nat.mod_lt _ (by omega)
 have hd2 : (y : Int).tmod (5 - (f : Int)) = (d : Int) := by rw [Int.tmod_eq_emod_of_nonneg (by omega),show (5 - (f : Int)) = ((5 - f : Nat) : Int) by omega,<- Int.natCast_emod,hd]
 have hd1 : (y : Int) % (5 - (f : Int)) = (d : Int) := by rw [show (5 - (f : Int)) = ((5 - f : Nat) : Int) by omega,<- Int.natCast_emod,hd]
 have hne : ¬ (5 - (f : Int)) = 0 := by omega
 obtain ⟨e,he⟩ : ∃ k,f + 1 + d = k := ⟨_,rfl⟩
 have he1 : (f : Int) + 1 + (d : Int) = (e : Int) := by omega
 have HDF : Hid (d + f < 5 /\ f + 1 + d = e) := hid (by omega)
 clear hf hd hx he
 go_enter Tryz.func6,Tryz.ntmps6
 try simp only [List.append_eq,List.cons_append,List.nil_append]
 go_wp2_with fail
 refine (known_13 w).mono ?_
 rintro e_ w1 ⟨rfl,hb1⟩
 have HB1 := hid hb1
 clear hb1
 go_wp2_with fail
 refine (New_t [] none 0 anyB w1 (RdX.nil _ _ _ _) ⟨by decide,fun c hc => by cases hc⟩ (fun c hc => by cases hc)).mono ?_
 rintro e_ w2 ⟨tb,mb,vs,rfl,ht,hb2⟩
 have HT := hid ht
 have HB := hid (HB1.out.trans (hb2.mono HB1.out.size))
 clear ht hb2 HB1
 go_upto_region 5 with fail
 have hal := below_alR w2 (.cells #[.int .i64 1,.int .i32 0,.int .i64 0,.string ⟨#[]⟩,.string ⟨#[]⟩,.string ⟨#[]⟩,.string ⟨#[]⟩,.int .i64 5,.int .i32 0,.int .i64 0,.string ⟨#[]⟩,.string ⟨#[]⟩,.string ⟨#[]⟩,.string ⟨#[]⟩,.int .i64 2,.int .i32 0,.int .i64 0,.string ⟨#[]⟩,.string ⟨#[]⟩,.string ⟨#[]⟩,.string ⟨#[]⟩,.int .i64 5,.int .i32 0,.int .i64 0,.string ⟨#[]⟩,.string ⟨#[]⟩,.string ⟨#[]⟩,.string ⟨#[]⟩,.int .i64 40,.int .i32 0,.int .i64 0,.string ⟨#[]⟩,.string ⟨#[]⟩,.string ⟨#[]⟩,.string ⟨#[]⟩,.int .i64 6,.int .i32 0,.int .i64 0,.string ⟨#[]⟩,.string ⟨#[]⟩,.string ⟨#[]⟩,.string ⟨#[]⟩,.int .i64 4,.int .i32 0,.int .i64 0,.string ⟨#[]⟩,.string ⟨#[]⟩,.string ⟨#[]⟩,.string ⟨#[]⟩,.int .i64 13,.int .i32 0,.int .i64 0,.string ⟨#[]⟩,.string ⟨#[]⟩,.string ⟨#[]⟩,.string ⟨#[]⟩,.int .i64 6,.int .i32 0,.int .i64 0,.string ⟨#[]⟩,.string ⟨#[]⟩,.string ⟨#[]⟩,.string ⟨#[]⟩,.int .i64 40,.int .i32 0,.int .i64 0,.string ⟨#[]⟩,.string ⟨#[]⟩,.string ⟨#[]⟩,.string ⟨#[]⟩] 59)
 have HCD : Hid (RdX 7 (sP insC) (fun b => b < w2.heap.size + 1) (w2.alloc (.cells #[.int .i64 1,.int .i32 0,.int .i64 0,.string ⟨#[]⟩,.string ⟨#[]⟩,.string ⟨#[]⟩,.string ⟨#[]⟩,.int .i64 5,.int .i32 0,.int .i64 0,.string ⟨#[]⟩,.string ⟨#[]⟩,.string ⟨#[]⟩,.string ⟨#[]⟩,.int .i64 2,.int .i32 0,.int .i64 0,.string ⟨#[]⟩,.string ⟨#[]⟩,.string ⟨#[]⟩,.string ⟨#[]⟩,.int .i64 5,.int .i32 0,.int .i64 0,.string ⟨#[]⟩,.string ⟨#[]⟩,.string ⟨#[]⟩,.string ⟨#[]⟩,.int .i64 40,.int .i32 0,.int .i64 0,.string ⟨#[]⟩,.string ⟨#[]⟩,.string ⟨#[]⟩,.string ⟨#[]⟩,.int .i64 6,.int .i32 0,.int .i64 0,.string ⟨#[]⟩,.string ⟨#[]⟩,.string ⟨#[]⟩,.string ⟨#[]⟩,.int .i64 4,.int .i32 0,.int .i64 0,.string ⟨#[]⟩,.string ⟨#[]⟩,.string ⟨#[]⟩,.string ⟨#[]⟩,.int .i64 13,.int .i32 0,.int .i64 0,.string ⟨#[]⟩,.string ⟨#[]⟩,.string ⟨#[]⟩,.string ⟨#[]⟩,.int .i64 6,.int .i32 0,.int .i64 0,.string ⟨#[]⟩,.string ⟨#[]⟩,.string ⟨#[]⟩,.string ⟨#[]⟩,.int .i64 40,.int .i32 0,.int .i64 0,.string ⟨#[]⟩,.string ⟨#[]⟩,.string ⟨#[]⟩,.string ⟨#[]⟩] 59)) (.slice (some ⟨w2.heap.size,0,none⟩) 10 10) codeCt) := hid ((OwnX.lits (sz := 7) (T := 59) (c := insC) (fun _ => rfl) w2 codeCt #[.int .i64 1,.int .i32 0,.int .i64 0,.string ⟨#[]⟩,.string ⟨#[]⟩,.string ⟨#[]⟩,.string ⟨#[]⟩,.int .i64 5,.int .i32 0,.int .i64 0,.string ⟨#[]⟩,.string ⟨#[]⟩,.string ⟨#[]⟩,.string ⟨#[]⟩,.int .i64 2,.int .i32 0,.int .i64 0,.string ⟨#[]⟩,.string ⟨#[]⟩,.string ⟨#[]⟩,.string ⟨#[]⟩,.int .i64 5,.int .i32 0,.int .i64 0,.string ⟨#[]⟩,.string ⟨#[]⟩,.string ⟨#[]⟩,.string ⟨#[]⟩,.int .i64 40,.int .i32 0,.int .i64 0,.string ⟨#[]⟩,.string ⟨#[]⟩,.string ⟨#[]⟩,.string ⟨#[]⟩,.int .i64 6,.int .i32 0,.int .i64 0,.string ⟨#[]⟩,.string ⟨#[]⟩,.string ⟨#[]⟩,.string ⟨#[]⟩,.int .i64 4,.int .i32 0,.int .i64 0,.string ⟨#[]⟩,.string ⟨#[]⟩,.string ⟨#[]⟩,.string ⟨#[]⟩,.int .i64 13,.int .i32 0,.int .i64 0,.string ⟨#[]⟩,.string ⟨#[]⟩,.string ⟨#[]⟩,.string ⟨#[]⟩,.int .i64 6,.int .i32 0,.int .i64 0,.string ⟨#[]⟩,.string ⟨#[]⟩,.string ⟨#[]⟩,.string ⟨#[]⟩,.int .i64 40,.int .i32 0,.int .i64 0,.string ⟨#[]⟩,.string ⟨#[]⟩,.string ⟨#[]⟩,.string ⟨#[]⟩] rfl 10 rfl (by omega)).rd (sP.grow _) |>.step (sP.grow _) (fun b hb hl => by simpa using hl) (fun _ _ _ => rfl) (Nat.le_refl _))
 replace HT := hid (HT.out.old hal)
 replace HB := hid (HB.out.trans (hal.mono HB.out.size))
 obtain ⟨w3,hw3⟩ : ∃ z,z = w2.alloc (.cells #[.int .i64 1,.int .i32 0,.int .i64 0,.string ⟨#[]⟩,.string ⟨#[]⟩,.string ⟨#[]⟩,.string ⟨#[]⟩,.int .i64 5,.int .i32 0,.int .i64 0,.string ⟨#[]⟩,.string ⟨#[]⟩,.string ⟨#[]⟩,.string ⟨#[]⟩,.int .i64 2,.int .i32 0,.int .i64 0,.string ⟨#[]⟩,.string ⟨#[]⟩,.string ⟨#[]⟩,.string ⟨#[]⟩,.int .i64 5,.int .i32 0,.int .i64 0,.string ⟨#[]⟩,.string ⟨#[]⟩,.string ⟨#[]⟩,.string ⟨#[]⟩,.int .i64 40,.int .i32 0,.int .i64 0,.string ⟨#[]⟩,.string ⟨#[]⟩,.string ⟨#[]⟩,.string ⟨#[]⟩,.int .i64 6,.int .i32 0,.int .i64 0,.string ⟨#[]⟩,.string ⟨#[]⟩,.string ⟨#[]⟩,.string ⟨#[]⟩,.int .i64 4,.int .i32 0,.int .i64 0,.string ⟨#[]⟩,.string ⟨#[]⟩,.string ⟨#[]⟩,.string ⟨#[]⟩,.int .i64 13,.int .i32 0,.int .i64 0,.string ⟨#[]⟩,.string ⟨#[]⟩,.string ⟨#[]⟩,.string ⟨#[]⟩,.int .i64 6,.int .i32 0,.int .i64 0,.string ⟨#[]⟩,.string ⟨#[]⟩,.string ⟨#[]⟩,.string ⟨#[]⟩,.int .i64 40,.int .i32 0,.int .i64 0,.string ⟨#[]⟩,.string ⟨#[]⟩,.string ⟨#[]⟩,.string ⟨#[]⟩] 59) := ⟨_,rfl⟩
 have hsz : w2.heap.size + 1 = w3.heap.size := by rw [hw3]; simp
 rw [<- hw3] at HCD HT HB ⊢
 obtain ⟨gcd,hgc⟩ : ∃ z,w2.heap.size = z := ⟨_,rfl⟩
 rw [hgc] at HCD HT hsz ⊢
 clear hal hw3 hgc
 have hbn := below_alR w3 (.cells #[.string ⟨#[]⟩,.slice none 0 0,.int .i64 5,.string ⟨#[]⟩,.bool true,.bool false,.int .i64 1,.slice (some ⟨gcd,0,none⟩) 10 10,.slice none 0 0] 49)
 have HF := hid (heap_alloc_new w3 (.cells #[.string ⟨#[]⟩,.slice none 0 0,.int .i64 5,.string ⟨#[]⟩,.bool true,.bool false,.int .i64 1,.slice (some ⟨gcd,0,none⟩) 10 10,.slice none 0 0] 49))
 obtain ⟨w5,hw5⟩ : ∃ z,z = w3.alloc (.cells #[.string ⟨#[]⟩,.slice none 0 0,.int .i64 5,.string ⟨#[]⟩,.bool true,.bool false,.int .i64 1,.slice (some ⟨gcd,0,none⟩) 10 10,.slice none 0 0] 49) := ⟨_,rfl⟩
 replace HT := hid (HT.out.below hbn)
 have HW2 := hid HB.out.size
 replace HB := hid (HB.out.trans (hbn.mono HB.out.size))
 replace HCD := hid (HCD.out.step (sP.grow _) (fun _ h _ => h) (Keeps.of_below hbn) hbn.size)
 rw [<- hw5] at HF HT HB HCD ⊢
 obtain ⟨gm,hgm⟩ : ∃ z,w3.heap.size = z := ⟨_,rfl⟩
 rw [hgm] at HF hsz HW2
 have HGM : Hid (gcd + 1 = gm /\ w.heap.size <= gm) := hid ⟨hsz,HW2.out⟩
 rw [show gcd + 1 = gm from hsz]
 clear hbn hw5 hgm hsz HW2
 obtain ⟨ul,uc,uf⟩ := boxN HF.out
 have u0 := uc 0 _ rfl
 have u1 := uc 1 _ rfl
 have u2 := uc 2 _ rfl
 have u3 := uc 3 _ rfl
 have u4 := uc 4 _ rfl
 have u5 := uc 5 _ rfl
 have u6 := uc 6 _ rfl
 have u7 := uc 7 _ rfl
 have u8 := uc 8 _ rfl
 have uu0 := uf 0
 have uu1 := uf 1
 have uu2 := uf 2
 have uu3 := uf 3
 have uu4 := uf 4
 have uu5 := uf 5
 have uu6 := uf 6
 have uu7 := uf 7
 have uu8 := uf 8
 simp only [Nat.zero_add] at u0 u1 u2 u3 u4 u5 u6 u7 u8
 clear uc uf
 go_upto_region 8 with fail
 obtain ⟨w6,hw6⟩ : ∃ z,z = w5.setCell ⟨gm,8,none⟩ (.slice (some ⟨w5.heap.size,0,none⟩) 1 1) := ⟨_,rfl⟩
 have kS : Kpt [gm] w5 w6 := by rw [hw6]; exact Kpt.set _ _ _ _ _ (by simp)
 have hs6 : w5.heap.size = w6.heap.size := by rw [hw6]; simp
 have HF6 : Hid (w6.heap[gm]? = some (.cells #[.string ⟨#[]⟩,.slice none 0 0,.int .i64 5,.string ⟨#[]⟩,.bool true,.bool false,.int .i64 1,.slice (some ⟨gcd,0,none⟩) 10 10,.slice (some ⟨w5.heap.size,0,none⟩) 1 1] 49 (0,0))) := hid (by rw [hw6,heap_setCell_same _ _ 8 _ _ _ HF.out]; rfl)
 rw [<- hw6]
 rw [hs6] at HF6 ⊢
 replace HT := hid (TrW_ne (r := gm) HT.out (fun b hb => by have := HGM.out; omega) kS)
 replace HB := hid (HB.out.trans (kS.below (fun x hx => by simp at hx; have := HGM.out; omega) HB.out.size))
 replace HCD := hid (HCD.out.step (sP.grow _) (ok' := anyB) (fun _ _ _ => trivial) (fun b hb hl => kS.2 b hl (by have := HGM.out; simp; omega)) kS.size)
 have hal := below_alR w6 (.cells #[.int .i64 (f : Int),.int .i64 (e : Int),.int .i64 5,.string ⟨#[70,97,117,108,116]⟩] 68)
 have HHD := hid (rdX_lit1 (sz := 4) (c := hndC) (fun _ => rfl) w6 (((f : Int),(e : Int),5,⟨#[70,97,117,108,116]⟩) : Hnd) #[.int .i64 (f : Int),.int .i64 (e : Int),.int .i64 5,.string ⟨#[70,97,117,108,116]⟩] 68 rfl)
 replace HT := hid (HT.out.below hal)
 replace HB := hid (HB.out.trans (hal.mono HB.out.size))
 replace HCD := hid (HCD.out.any (sP.grow _) hal)
 replace HF6 := hid (blk_b HF6.out hal)
 obtain ⟨w7,hw7⟩ : ∃ z,z = w6.alloc (.cells #[.int .i64 (f : Int),.int .i64 (e : Int),.int .i64 5,.string ⟨#[70,97,117,108,116]⟩] 68) := ⟨_,rfl⟩
 obtain ⟨gh,hgh⟩ : ∃ z,w6.heap.size = z := ⟨_,rfl⟩
 rw [<- hw7] at HT HB HCD HF6 HHD ⊢
 rw [hgh] at HF6 HHD ⊢
 clear hal hw7 hgh hw6 kS hs6 HF
 clear ul u0 u1 u2 u3 u4 u5 u6 u7 u8 uu0 uu1 uu2 uu3 uu4 uu5 uu6 uu7 uu8
 obtain ⟨ul,uc,uf⟩ := boxN HF6.out
 have u0 := uc 0 _ rfl
 have u1 := uc 1 _ rfl
 have u2 := uc 2 _ rfl
 have u3 := uc 3 _ rfl
 have u4 := uc 4 _ rfl
 have u5 := uc 5 _ rfl
 have u6 := uc 6 _ rfl
 have u7 := uc 7 _ rfl
 have u8 := uc 8 _ rfl
 simp only [Nat.zero_add] at u0 u1 u2 u3 u4 u5 u6 u7 u8
 clear uc uf
 go_wp2_with fail
 clear ul u0 u1 u2 u3 u4 u5 u6 u7 u8
 obtain ⟨⟨Rl,Ra,Re⟩,hR,f1,f2,f3⟩ := caught_fact f d HDF.out.1
 rw [HDF.out.2] at hR f1 f2 f3
 dsimp only at f1 f2 f3
 have HF1 := hid f1
 have HF2 := hid f2
 have HF3 := hid f3
 have HRR := hid hR
 clear f1 f2 f3 hR
 refine (Infer_w _ tb [] ⟨#[65]⟩ (mCaught f e) none (some ⟨gcd,0,none⟩) (some ⟨gh,0,none⟩) 0 0 10 10 1 1 (Rl,Ra,Re) w7 (.inl ⟨tb,mb,vs,rfl,HT.out⟩) (fun c hc => by cases hc) (RdX.nil _ _ _ _) HCD.out HHD.out ⟨by decide,Nat.zero_le _,fun t ht => (by cases ht),Nat.zero_le _,(by show codeCt.length <= 1000; decide),(by show (hndCt f e).length <= 100; simp [hndCt]),fun x hx => by (have hx2 : x ∈ hndCt f e := hx; unfold hndCt at hx2; rw [List.mem_singleton.1 hx2]; show (5 : Nat) <= 1000; decide),(fun x hx => (by decide : ∀ x ∈ codeCt,x.2.2.2.2.1.size <= 1000) x hx),(by show (1 : Int) <= 1000; decide)⟩ caught_ok HRR.out).mono ?_
 rintro e_ w8 ⟨pr,cr,rfl,hrd,hbn⟩
 dsimp only at hrd ⊢
 have HRD := hid hrd
 replace HF6 := hid (blk_b HF6.out hbn)
 replace HB := hid (HB.out.trans (hbn.mono HB.out.size))
 clear hrd hbn HT HCD HHD
 by_cases hc1 : 2 <= f /\ e <= 4
 ·obtain ⟨rfl,hRl,g,t,hg,hg1,hg2,ht1⟩ := HF1.out hc1
  clear HF1 HF2 HF3
  have hc2 : (2 : Int) <= (f : Int) := by omega
  have hc3 : (e : Int) <= 4 := by omega
  obtain ⟨g1,gL,gS⟩ := g
  dsimp only at hg1 hg2
  subst hg1 hg2
  obtain ⟨t1,t2⟩ := t
  dsimp only at ht1
  subst ht1
  obtain ⟨br,orr,rfl,-,-,-,hbr,hcr⟩ := HRD.out.place (fun e0 => by rw [e0] at hg; simp at hg)
  obtain ⟨vs6,⟨pl,cl,ps,cs,rfl,hl1,hl2⟩,hc6⟩ := hcr 6 _ hg
  obtain ⟨bl,ol,rfl,-,-,-,hbl,hcl⟩ := hl1.place (by simp)
  have k0 := (sP_at (hcl 0 _ rfl)).two
  have m0 := hc6 0 _ rfl
  have m1 := hc6 1 _ rfl
  dsimp only [List.length_cons,List.length_nil] at m1
  simp only [Nat.add_zero,Nat.zero_mul,Nat.zero_add] at m0 m1 k0
  obtain ⟨k1,k2⟩ := k0
  clear hcr hl1 hl2 hcl hc6 HRD
  obtain ⟨ul,uc,uf⟩ := boxN HF6.out
  have u0 := uc 0 _ rfl
  have u1 := uc 1 _ rfl
  have u2 := uc 2 _ rfl
  have u3 := uc 3 _ rfl
  have u4 := uc 4 _ rfl
  have u5 := uc 5 _ rfl
  have u6 := uc 6 _ rfl
  have u7 := uc 7 _ rfl
  have u8 := uc 8 _ rfl
  simp only [Nat.zero_add] at u0 u1 u2 u3 u4 u5 u6 u7 u8
  clear uc uf
  go_wp2_with fail
  go_ret
  exact ⟨rfl,HB.out⟩
 ·by_cases h4 : f = 4
  ·obtain ⟨rfl,rfl⟩ := HF2.out hc1 h4
   clear HF1 HF2 HF3
   subst h4
   have e4 : ¬ (e : Int) <= 4 := by omega
   go_wp2_with fail
   go_ret
   exact ⟨rfl,HB.out⟩
  ·obtain ⟨rfl,ha⟩ := HF3.out hc1 h4
   clear HF1 HF2 HF3
   have h4b : ((f : Int) == 4) = false := by simp; omega
   obtain ⟨bb,hbb⟩ : ∃ z,(decide ((2 : Int) <= (f : Int)) && decide ((e : Int) <= 4)) = z := ⟨_,rfl⟩
   obtain rfl : bb = false := by rw [<- hbb]; simp; omega
   by_cases h2 : 2 <= f
   ·have h2b : decide ((2 : Int) <= (f : Int)) = true := by simp; omega
    have h3b : decide ((e : Int) <= 4) = false := by simp; omega
    clear hbb
    rcases ha with rfl | rfl
    all_goals (go_wp2_with fail; go_ret; exact ⟨rfl,HB.out⟩)
   ·have h2b : decide ((2 : Int) <= (f : Int)) = false := by simp; omega
    clear hbb
    rcases ha with rfl | rfl
    all_goals (go_wp2_with fail; go_ret; exact ⟨rfl,HB.out⟩)
end Go.Proofs.YtfpeakkbbfnhcaaGreat.R
