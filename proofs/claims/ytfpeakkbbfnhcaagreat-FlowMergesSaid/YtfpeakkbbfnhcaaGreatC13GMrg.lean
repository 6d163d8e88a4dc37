/- Texts that the proof is made of, joined. No condition. -/
import Derived.Test.YtfpeakkbbfnhcaaGreatC1322
import Derived.Test.YtfpeakkbbfnhcaaGreatC13GMrgP
import Derived.Test.YtfpeakkbbfnhcaaGreatC13JUse
import Derived.Deep.DeepCutAuto
import Derived.Deep.CutBlock
import Derived.Test.YtfpeakkbbfnhcaaGreatC13H
set_option linter.unusedVariables false
set_option linter.unusedSimpArgs false
set_option maxRecDepth 100000
set_option maxHeartbeats 16000000
namespace Go.Proofs.YtfpeakkbbfnhcaaGreat.R
open Go.RowKit Go.Proofs.YtfpeakkbbfnhcaaGreat.D Go.Proofs.YtfpeakkbbfnhcaaGreat.O Go.Proofs.YtfpeakkbbfnhcaaGreat.A
theorem nm6_at (u : Nat) (h : u < 6) : (#[.string ⟨#[65]⟩,.string ⟨#[66]⟩,.string ⟨#[66,97,115,101]⟩,.string ⟨#[73]⟩,.string ⟨#[79,98,106,101,99,116]⟩,.string ⟨#[77,105,100]⟩] : Array Value)[u]? = some (.string (nmM.getD u es)) := by
 rcases (by omega : u = 0 ∨ u = 1 ∨ u = 2 ∨ u = 3 ∨ u = 4 ∨ u = 5) with rfl | rfl | rfl | rfl | rfl | rfl <;> rfl
theorem nm6_al (u : Nat) (h : u < 6) : ([.string ⟨#[65]⟩,.string ⟨#[66]⟩,.string ⟨#[66,97,115,101]⟩,.string ⟨#[73]⟩,.string ⟨#[79,98,106,101,99,116]⟩,.string ⟨#[77,105,100]⟩] : List Value)[u]'h = .string (nmM.getD u es) := by
 rcases (by omega : u = 0 ∨ u = 1 ∨ u = 2 ∨ u = 3 ∨ u = 4 ∨ u = 5) with rfl | rfl | rfl | rfl | rfl | rfl <;> rfl
theorem nm5_at (u : Nat) (h : u < 5) : (#[.string ⟨#[65]⟩,.string ⟨#[66]⟩,.string ⟨#[67]⟩,.string ⟨#[68]⟩,.string ⟨#[]⟩] : Array Value)[u]? = some (.string (nmC.getD u es)) := by
 rcases (by omega : u = 0 ∨ u = 1 ∨ u = 2 ∨ u = 3 ∨ u = 4) with rfl | rfl | rfl | rfl | rfl <;> rfl
theorem nm4_al (u : Nat) (h : u < 4) : ([.string ⟨#[65]⟩,.string ⟨#[66]⟩,.string ⟨#[67]⟩,.string ⟨#[68]⟩] : List Value)[u]'h = .string (nmC.getD u es) := by
 rcases (by omega : u = 0 ∨ u = 1 ∨ u = 2 ∨ u = 3) with rfl | rfl | rfl | rfl <;> rfl
theorem nmC_sz (u : Nat) : (nmC.getD u es).size <= 1000 := by
 rcases (by omega : u = 0 ∨ u = 1 ∨ u = 2 ∨ u = 3 ∨ 4 <= u) with rfl | rfl | rfl | rfl | h
 ·decide
 ·decide
 ·decide
 ·decide
 ·rcases Nat.eq_or_lt_of_le h with rfl | h
  ·decide
  ·rw [List.getD_eq_getElem?_getD,List.getElem?_eq_none (by show 5 <= u; omega)]; decide
theorem nmM_sz (u : Nat) (h : u < 6) : (nmM.getD u es).size <= 1000 := by
 rcases (by omega : u = 0 ∨ u = 1 ∨ u = 2 ∨ u = 3 ∨ u = 4 ∨ u = 5) with rfl | rfl | rfl | rfl | rfl | rfl <;> decide
def madeO (n : Nat) : Int := if n = 4 then 3 else 25
theorem made_eq (n : Nat) (h : n < 5) : madeP n = (madeO n,0,0,es,nmC.getD n es,es,es) := by
 rcases (by omega : n = 0 ∨ n = 1 ∨ n = 2 ∨ n = 3 ∨ n = 4) with rfl | rfl | rfl | rfl | rfl <;> rfl
theorem txt_nil {b : ByteArray} (h : ¬ b = es) : (b.toList == []) = false := by
 have := Go.Proofs.YtfpeakkbbfnhcaaGreat.txt_ne h
 rwa [show (es : ByteArray).toList = [] from by decide +kernel] at this
theorem cell5 {W : World} {g n : Nat} {c : ByteArray} (h : W.heap[g]? = some (.cells #[.string ⟨#[65]⟩,.string ⟨#[66]⟩,.string ⟨#[67]⟩,.string ⟨#[68]⟩,.string ⟨#[]⟩] 9 (0,0))) (hn : n < 5) (hc : nmC.getD n es = c) : W.cell? ⟨g,n,none⟩ = some (.string c) := by
 have := nm5_at n hn
 rw [hc] at this
 simp [World.cell?,h,this]
theorem code_szM (x y : Nat) (hx : x < 5) (hy : y < 5) : ∀ i ∈ codeM x y,i.2.2.2.2.1.size <= 1000 := by
 intro i hi
 unfold codeM at hi
 simp only [List.mem_cons,List.not_mem_nil,or_false] at hi
 rcases hi with rfl | rfl | rfl | rfl | rfl | rfl
 ·exact Nat.zero_le _
 ·exact Nat.zero_le _
 ·rw [made_eq x hx]; exact nmC_sz x
 ·exact Nat.zero_le _
 ·rw [made_eq y hy]; exact nmC_sz y
 ·exact Nat.zero_le _
theorem both_szT : ∀ b3 b6 b2 : Bool,∀ x y : Fin 5,(bothM (tabT b3 b6 b2) x.val y.val).size <= 1000 := by decide +kernel
theorem both_sz {T : List Sk} (b3 b6 b2 : Bool) (h : tabT b3 b6 b2 = T) (x y : Nat) (hx : x < 5) (hy : y < 5) : (bothM T x y).size <= maxLen := by
 subst h
 exact sz_small (both_szT b3 b6 b2 ⟨x,hx⟩ ⟨y,hy⟩)
theorem mset7 (W : World) (g : Nat) (v0 v1 v2 v3 v4 v5 v6 : Value) : Kpt [g] W (((((((W.setCell ⟨g,0,none⟩ v0).setCell ⟨g,1,none⟩ v1).setCell ⟨g,2,none⟩ v2).setCell ⟨g,3,none⟩ v3).setCell ⟨g,4,none⟩ v4).setCell ⟨g,5,none⟩ v5).setCell ⟨g,6,none⟩ v6) :=
 ((((((Kpt.set [g] W g 0 v0 (by simp)).trans (Kpt.set [g] _ g 1 v1 (by simp)) (fun _ h => .inl h)).trans (Kpt.set [g] _ g 2 v2 (by simp)) (fun _ h => .inl h)).trans (Kpt.set [g] _ g 3 v3 (by simp)) (fun _ h => .inl h)).trans (Kpt.set [g] _ g 4 v4 (by simp)) (fun _ h => .inl h)).trans (Kpt.set [g] _ g 5 v5 (by simp)) (fun _ h => .inl h)).trans (Kpt.set [g] _ g 6 v6 (by simp)) (fun _ h => .inl h)
theorem mset1 (W : World) (g j : Nat) (v : Value) : Kpt [g] W (W.setCell ⟨g,j,none⟩ v) := Kpt.set [g] W g j v (by simp)
theorem made_w (x n : Nat) (w : World) (hx : x < 256) (hn : x % 5 = n) : Calls Tryz.prog 16 #[.int .u8 (x : Int)] w fun e w' => e = .returned (.agg #[.int .i64 (madeO n),.int .i32 0,.int .i64 0,.string ⟨#[]⟩,.string (nmC.getD n es),.string ⟨#[]⟩,.string ⟨#[]⟩]) /\ Below w.heap.size w w' := by
 have h1 : (x : Int) % 5 = (n : Int) := by omega
 have h2 : (x : Int).tmod 5 = (n : Int) := by rw [Int.tmod_eq_emod_of_nonneg (by omega)]; omega
 have hn5 : n < 5 := by omega
 obtain ⟨o,ho⟩ : ∃ z,madeO n = z := ⟨_,rfl⟩
 obtain ⟨cn,hcn⟩ : ∃ z,nmC.getD n es = z := ⟨_,rfl⟩
 rw [ho,hcn]
 have HO := hid ho
 have HCN := hid hcn
 clear ho hcn
 obtain ⟨wn,hwn⟩ : ∃ z,z = w.alloc (.cells #[.int .i64 0,.int .i32 0,.int .i64 0,.string ⟨#[]⟩,.string ⟨#[]⟩,.string ⟨#[]⟩,.string ⟨#[]⟩] 59) := ⟨_,rfl⟩
 have HB : Hid (Below w.heap.size w wn) := hid (by rw [hwn]; exact below_alR _ _)
 have HI : Hid (wn.heap[w.heap.size]? = some (.cells #[.int .i64 0,.int .i32 0,.int .i64 0,.string ⟨#[]⟩,.string ⟨#[]⟩,.string ⟨#[]⟩,.string ⟨#[]⟩] 59 (0,0))) := hid (by rw [hwn]; exact heap_alloc_new _ _)
 go_enter Tryz.func16,Tryz.ntmps16
 go_upto_region 1 with fail
 rw [<- hwn]
 clear hwn
 obtain ⟨g,hg⟩ : ∃ z,w.heap.size = z := ⟨_,rfl⟩
 rw [hg] at HI ⊢
 have HG := hid hg
 clear hg
 by_cases h4 : n = 4
 ·subst h4
  obtain rfl : 3 = o := HO.out
  obtain rfl : (⟨#[]⟩ : ByteArray) = cn := HCN.out
  obtain ⟨zl,zc,zf⟩ := boxN HI.out
  have z0 := zc 0 _ rfl
  have z1 := zc 1 _ rfl
  have z2 := zc 2 _ rfl
  have z3 := zc 3 _ rfl
  have z4 := zc 4 _ rfl
  have z5 := zc 5 _ rfl
  have z6 := zc 6 _ rfl
  simp only [Nat.zero_add] at z0 z1 z2 z3 z4 z5 z6
  go_wp2_with fail
  refine bodyPost_ret (v := .agg #[.int .i64 3,.int .i32 0,.int .i64 0,.string ⟨#[]⟩,.string ⟨#[]⟩,.string ⟨#[]⟩,.string ⟨#[]⟩]) (by simp [*,results,Tryz.results16,go_sem]) rfl ?_
  refine ⟨rfl,?_⟩
  first | exact HB.out.trans (Kpt.below (S := [g]) (mset7 _ _ _ _ _ _ _ _ _) (fun x hx => by simp at hx; have := HG.out; omega) HB.out.size) | exact HB.out.trans (Kpt.below (S := [g]) (mset1 _ _ _ _) (fun x hx => by simp at hx; have := HG.out; omega) HB.out.size)
 ·have hn4 : n < 4 := by omega
  have h4b : ((n : Int) == 4) = false := by simp; omega
  have hn4' : (n : Int) < 4 := by omega
  have hn0 : (0 : Int) <= (n : Int) := by omega
  have hnt : (n : Int).toNat = n := by omega
  have hal := nm4_al n hn4
  obtain rfl : 25 = o := by have h9 := HO.out; unfold madeO at h9; rw [if_neg h4] at h9; exact h9
  rw [HCN.out] at hal
  clear h4
  have hbl := below_alR wn (.cells #[.string ⟨#[65]⟩,.string ⟨#[66]⟩,.string ⟨#[67]⟩,.string ⟨#[68]⟩] 9)
  have HI2 := hid (blk_b HI.out hbl)
  have HB2 := hid (HB.out.trans (hbl.mono HB.out.size))
  clear hbl
  obtain ⟨zl,zc,zf⟩ := boxN HI2.out
  have z0 := zc 0 _ rfl
  have z1 := zc 1 _ rfl
  have z2 := zc 2 _ rfl
  have z3 := zc 3 _ rfl
  have z4 := zc 4 _ rfl
  have z5 := zc 5 _ rfl
  have z6 := zc 6 _ rfl
  simp only [Nat.zero_add] at z0 z1 z2 z3 z4 z5 z6
  go_wp2_with fail
  refine bodyPost_ret (v := .agg #[.int .i64 25,.int .i32 0,.int .i64 0,.string ⟨#[]⟩,.string cn,.string ⟨#[]⟩,.string ⟨#[]⟩]) (by simp [*,results,Tryz.results16,go_sem]) rfl ?_
  refine ⟨rfl,?_⟩
  exact HB2.out.trans (Kpt.below (S := [g]) (mset7 _ _ _ _ _ _ _ _ _) (fun x hx => by simp at hx; have := HG.out; omega) HB2.out.size)
theorem merge_fact (b3 b6 b2 : Bool) (u x y : Nat) (hu : u < 6) (hx : x < 5) (hy : y < 5) : ∃ R,inferW (tabT b3 b6 b2) ⟨#[65]⟩ (mMerge u x y) = some R /\ (fitsM (tabT b3 b6 b2) u x y = false -> R.2.2 = 29 /\ R.2.1 = 5) /\ (fitsM (tabT b3 b6 b2) u x y = true -> R.2.2 = 0 /\ R.1.length = 6 /\ ∃ f t,R.1[5]? = some f /\ f.2.2 = [t] /\ (bothM (tabT b3 b6 b2) x y = es -> t.1 = 6) /\ (¬ bothM (tabT b3 b6 b2) x y = es -> t.2 = bothM (tabT b3 b6 b2) x y)) := by
 have hb := merge_tab b3 b6 b2 u x y hu hx hy
 unfold mergeB at hb
 cases hi : inferW (tabT b3 b6 b2) ⟨#[65]⟩ (mMerge u x y) with
 | none => rw [hi] at hb; cases hb
 | some R =>
  rw [hi] at hb
  obtain ⟨l,a,e⟩ := R
  dsimp only at hb
  refine ⟨_,rfl,fun hf => ?_,fun hf => ?_⟩
  ·rw [if_pos hf] at hb
   simpa using hb
  ·rw [if_neg (by rw [hf]; simp)] at hb
   simp only [Bool.and_eq_true,beq_iff_eq] at hb
   obtain ⟨b1,b2',b4,b5⟩ := hb
   obtain ⟨t,ht⟩ := List.length_eq_one_iff.1 b4
   refine ⟨b1,b2',l.getD 5 noFr,t,?_,ht,fun h0 => ?_,fun h0 => ?_⟩
   ·show l[5]? = _
    rw [List.getD_eq_getElem?_getD,List.getElem?_eq_getElem (by omega)]
    rfl
   ·rw [if_pos h0,ht] at b5
    simpa using b5
   ·rw [if_neg h0,ht] at b5
    simpa using b5
theorem merges_l (k0 k1 k2 k3 x y z : Nat) (w : World) (h0 : k0 < 256) (h1 : k1 < 256) (h2 : k2 < 256) (h3 : k3 < 256) (hx : x < 256) (hy : y < 256) (hz : z < 256) :
  Calls Tryz.prog 5 #[.agg #[.int .u8 (k0 : Int),.int .u8 (k1 : Int),.int .u8 (k2 : Int),.int .u8 (k3 : Int)],.int .u8 (x : Int),.int .u8 (y : Int),.int .u8 (z : Int)] w fun e w' => e = .returned (.bool true) /\ Below w.heap.size w w' := by
 obtain ⟨u,hu⟩ : ∃ k,z % 6 = k := ⟨_,rfl⟩
 have hu1 : (z : Int) % 6 = (u : Int) := by omega
 have hu2 : (z : Int).tmod 6 = (u : Int) := by rw [Int.tmod_eq_emod_of_nonneg (by omega)]; omega
 obtain ⟨m,hm⟩ : ∃ k,x % 5 = k := ⟨_,rfl⟩
 have hm1 : (x : Int) % 5 = (m : Int) := by omega
 have hm2 : (x : Int).tmod 5 = (m : Int) := by rw [Int.tmod_eq_emod_of_nonneg (by omega)]; omega
 obtain ⟨n,hn⟩ : ∃ k,y % 5 = k := ⟨_,rfl⟩
 have hn1 : (y : Int) % 5 = (n : Int) := by omega
 have hn2 : (y : Int).tmod 5 = (n : Int) := by rw [Int.tmod_eq_emod_of_nonneg (by omega)]; omega
 have HSM : Hid (u < 6 /\ m < 5 /\ n < 5) := hid (by omega)
 have HXM : Hid (x < 256 /\ x % 5 = m) := hid ⟨hx,hm⟩
 have HYN : Hid (y < 256 /\ y % 5 = n) := hid ⟨hy,hn⟩
 clear hx hm hy hn hu hz
 obtain ⟨w0,hw0⟩ : ∃ x,x = w.alloc (.cells #[.int .u8 (k0 : Int),.int .u8 (k1 : Int),.int .u8 (k2 : Int),.int .u8 (k3 : Int)] 22) := ⟨_,rfl⟩
 have HB0 : Hid (Below w.heap.size w w0) := hid (by rw [hw0]; exact below_alR _ _)
 have HX0 : Hid (w0.heap[w.heap.size]? = some (.cells #[.int .u8 (k0 : Int),.int .u8 (k1 : Int),.int .u8 (k2 : Int),.int .u8 (k3 : Int)] 22 (0,0))) := hid (by rw [hw0]; exact heap_alloc_new _ _)
 go_enter Tryz.func5,Tryz.ntmps5
 try simp only [List.append_eq,List.cons_append,List.nil_append]
 go_wp2_with fail
 rw [<- hw0]
 clear hw0
 obtain ⟨kb,hkb⟩ : ∃ x,w.heap.size = x := ⟨_,rfl⟩
 rw [hkb] at HX0 ⊢
 clear hkb
 refine (known_13 w0).mono ?_
 rintro e w1 ⟨rfl,hb1⟩
 have hX1 := (hb1.block _ (Array.getElem?_eq_some_iff.1 HX0.out).1).trans HX0.out
 have HB1 := hid (HB0.out.trans (hb1.mono HB0.out.size))
 obtain ⟨xl,xc,-⟩ := boxN hX1
 have x0 := xc 0 _ rfl
 have x1 := xc 1 _ rfl
 have x2 := xc 2 _ rfl
 have x3 := xc 3 _ rfl
 simp only [Nat.zero_add] at x0 x1 x2 x3
 clear hb1 hX1 HX0 HB0 xc
 go_wp2_with fail
 refine (archive_0 k0 k1 k2 k3 w1 h0 h1 h2 h3).mono ?_
 rintro e w2 ⟨p1,n1,c1,rfl,hr1,hb2⟩
 obtain ⟨_,_,e1,-⟩ := hr1.len
 simp only [Value.slice.injEq] at e1
 obtain ⟨rfl,rfl,rfl⟩ := e1
 have HR1 := hid hr1
 have HB2 := hid (HB1.out.trans (hb2.mono HB1.out.size))
 clear hr1 hb2 HB1 x0 x1 x2 x3 xl h0 h1 h2 h3
 go_wp2_with fail
 refine (New_t _ _ _ _ w2 HR1.out (seat_sz8 k0 k1 k2 k3) (seat_few k0 k1 k2 k3)).mono ?_
 rintro e w3 ⟨tb,mb,vs,rfl,ht,hb3⟩
 have HT := hid ht
 have HKF : Hid (∀ c ∈ keepL (archS k0 k1 k2 k3 [] []),FewC c) := hid (keep_few (seat_few k0 k1 k2 k3))
 have HKS := hid (seat_kept k0 k1 k2 k3)
 obtain ⟨K,hK⟩ : ∃ z,keepL (archS k0 k1 k2 k3 [] []) = z := ⟨_,rfl⟩
 rw [hK] at HT HKF HKS
 obtain ⟨okt,hokt⟩ : ∃ z,z = fun b => w2.heap.size <= b := ⟨_,rfl⟩
 rw [<- hokt] at HT
 obtain ⟨R,hR,f1,f2⟩ := merge_fact (bitS k0 3) (bitS k0 6) (bitS k2 2) u m n HSM.out.1 HSM.out.2.1 HSM.out.2.2
 obtain ⟨T,hTb⟩ : ∃ z,tabT (bitS k0 3) (bitS k0 6) (bitS k2 2) = z := ⟨_,rfl⟩
 rw [hTb] at HKS hR f1 f2
 have HTB := hid hTb
 have HRR := hid hR
 have HF1 := hid f1
 have HF2 := hid f2
 have HB := hid (HB2.out.trans (hb3.mono HB2.out.size))
 clear ht hb3 hK hokt hR f1 f2 hTb HB2 HR1
 have u6 : u < 6 := HSM.out.1
 have hu6 : (u : Int) < 6 := by omega
 have hu0 : (0 : Int) <= (u : Int) := by omega
 have hut : (u : Int).toNat = u := by omega
 have hal := nm6_al u u6
 have haa := nm6_at u u6
 obtain ⟨wt,hwt⟩ : ∃ z,nmM.getD u es = z := ⟨_,rfl⟩
 rw [hwt] at hal haa
 have HWT := hid hwt
 have HWS : Hid (wt.size <= 1000) := hid (by rw [<- hwt]; exact nmM_sz u u6)
 clear hwt
 go_upto_region 5 with fail
 have hbn := below_alR w3 (.cells #[.string ⟨#[65]⟩,.string ⟨#[66]⟩,.string ⟨#[66,97,115,101]⟩,.string ⟨#[73]⟩,.string ⟨#[79,98,106,101,99,116]⟩,.string ⟨#[77,105,100]⟩] 9)
 obtain ⟨w4,hw4⟩ : ∃ z,z = w3.alloc (.cells #[.string ⟨#[65]⟩,.string ⟨#[66]⟩,.string ⟨#[66,97,115,101]⟩,.string ⟨#[73]⟩,.string ⟨#[79,98,106,101,99,116]⟩,.string ⟨#[77,105,100]⟩] 9) := ⟨_,rfl⟩
 replace HT := hid (HT.out.below hbn)
 replace HB := hid (HB.out.trans (hbn.mono HB.out.size))
 rw [<- hw4] at HT HB ⊢
 obtain ⟨gl6,hgl6⟩ : ∃ z,w3.heap.size = z := ⟨_,rfl⟩
 rw [hgl6]
 clear hbn hw4 hgl6 hal haa hu6 hu0 hut u6
 obtain ⟨o1,ho1⟩ : ∃ z,madeO m = z := ⟨_,rfl⟩
 obtain ⟨c1,hc1⟩ : ∃ z,nmC.getD m es = z := ⟨_,rfl⟩
 obtain ⟨o2,ho2⟩ : ∃ z,madeO n = z := ⟨_,rfl⟩
 obtain ⟨c2,hc2⟩ : ∃ z,nmC.getD n es = z := ⟨_,rfl⟩
 have HOC : Hid (madeO m = o1 /\ nmC.getD m es = c1 /\ madeO n = o2 /\ nmC.getD n es = c2) := hid ⟨ho1,hc1,ho2,hc2⟩
 clear ho1 hc1 ho2 hc2
 go_wp2_with fail
 refine (made_w x m w4 HXM.out.1 HXM.out.2).mono ?_
 rw [HOC.out.1,HOC.out.2.1]
 rintro e w5 ⟨rfl,hbn⟩
 replace HT := hid (HT.out.below hbn)
 replace HB := hid (HB.out.trans (hbn.mono HB.out.size))
 clear hbn
 go_wp2_with fail
 refine (made_w y n w5 HYN.out.1 HYN.out.2).mono ?_
 rw [HOC.out.2.2.1,HOC.out.2.2.2]
 rintro e w6 ⟨rfl,hbn⟩
 replace HT := hid (HT.out.below hbn)
 replace HB := hid (HB.out.trans (hbn.mono HB.out.size))
 clear hbn
 go_upto_region 6 with fail
 have hbm := jbl2 w6 (.cells #[.int .i64 42,.int .i32 0,.int .i64 0,.string ⟨#[]⟩,.string ⟨#[]⟩,.string ⟨#[]⟩,.string ⟨#[]⟩,.int .i64 20,.int .i32 0,.int .i64 4,.string ⟨#[]⟩,.string ⟨#[]⟩,.string ⟨#[]⟩,.string ⟨#[]⟩,.int .i64 o1,.int .i32 0,.int .i64 0,.string ⟨#[]⟩,.string c1,.string ⟨#[]⟩,.string ⟨#[]⟩,.int .i64 19,.int .i32 0,.int .i64 5,.string ⟨#[]⟩,.string ⟨#[]⟩,.string ⟨#[]⟩,.string ⟨#[]⟩,.int .i64 o2,.int .i32 0,.int .i64 0,.string ⟨#[]⟩,.string c2,.string ⟨#[]⟩,.string ⟨#[]⟩,.int .i64 39,.int .i32 0,.int .i64 0,.string ⟨#[]⟩,.string ⟨#[]⟩,.string ⟨#[]⟩,.string ⟨#[]⟩] 59) (.cells #[.string ⟨#[]⟩,.slice none 0 0,.int .i64 4,.string wt,.bool true,.bool false,.int .i64 0,.slice (some ⟨w6.heap.size,0,none⟩) 6 6,.slice none 0 0] 49)
 obtain ⟨w7,hw7⟩ : ∃ z,z = (w6.alloc (.cells #[.int .i64 42,.int .i32 0,.int .i64 0,.string ⟨#[]⟩,.string ⟨#[]⟩,.string ⟨#[]⟩,.string ⟨#[]⟩,.int .i64 20,.int .i32 0,.int .i64 4,.string ⟨#[]⟩,.string ⟨#[]⟩,.string ⟨#[]⟩,.string ⟨#[]⟩,.int .i64 o1,.int .i32 0,.int .i64 0,.string ⟨#[]⟩,.string c1,.string ⟨#[]⟩,.string ⟨#[]⟩,.int .i64 19,.int .i32 0,.int .i64 5,.string ⟨#[]⟩,.string ⟨#[]⟩,.string ⟨#[]⟩,.string ⟨#[]⟩,.int .i64 o2,.int .i32 0,.int .i64 0,.string ⟨#[]⟩,.string c2,.string ⟨#[]⟩,.string ⟨#[]⟩,.int .i64 39,.int .i32 0,.int .i64 0,.string ⟨#[]⟩,.string ⟨#[]⟩,.string ⟨#[]⟩,.string ⟨#[]⟩] 59)).alloc (.cells #[.string ⟨#[]⟩,.slice none 0 0,.int .i64 4,.string wt,.bool true,.bool false,.int .i64 0,.slice (some ⟨w6.heap.size,0,none⟩) 6 6,.slice none 0 0] 49) := ⟨_,rfl⟩
 have HF : Hid (w7.heap[w6.heap.size + 1]? = some (.cells #[.string ⟨#[]⟩,.slice none 0 0,.int .i64 4,.string wt,.bool true,.bool false,.int .i64 0,.slice (some ⟨w6.heap.size,0,none⟩) 6 6,.slice none 0 0] 49 (0,0))) := hid (by rw [hw7]; exact jal2 _ _ _ _)
 have HC : Hid (w7.heap[w6.heap.size]? = some (.cells #[.int .i64 42,.int .i32 0,.int .i64 0,.string ⟨#[]⟩,.string ⟨#[]⟩,.string ⟨#[]⟩,.string ⟨#[]⟩,.int .i64 20,.int .i32 0,.int .i64 4,.string ⟨#[]⟩,.string ⟨#[]⟩,.string ⟨#[]⟩,.string ⟨#[]⟩,.int .i64 o1,.int .i32 0,.int .i64 0,.string ⟨#[]⟩,.string c1,.string ⟨#[]⟩,.string ⟨#[]⟩,.int .i64 19,.int .i32 0,.int .i64 5,.string ⟨#[]⟩,.string ⟨#[]⟩,.string ⟨#[]⟩,.string ⟨#[]⟩,.int .i64 o2,.int .i32 0,.int .i64 0,.string ⟨#[]⟩,.string c2,.string ⟨#[]⟩,.string ⟨#[]⟩,.int .i64 39,.int .i32 0,.int .i64 0,.string ⟨#[]⟩,.string ⟨#[]⟩,.string ⟨#[]⟩,.string ⟨#[]⟩] 59 (0,0))) := hid (by rw [hw7]; exact (heap_alloc_old _ _ (by simp)).trans (heap_alloc_new _ _))
 rw [<- hw7] at hbm ⊢
 replace HT := hid (HT.out.below hbm)
 replace HB := hid (HB.out.trans (hbm.mono HB.out.size))
 obtain ⟨gc,hgc⟩ : ∃ z,w6.heap.size = z := ⟨_,rfl⟩
 rw [hgc] at HF HC ⊢
 obtain ⟨gm,hgm⟩ : ∃ z,gc + 1 = z := ⟨_,rfl⟩
 rw [hgm] at HF ⊢
 clear hbm hw7 hgc hgm
 have HCR : Hid (RdX 7 (sP insC) anyB w7 (.slice (some ⟨gc,0,none⟩) 6 6) (codeM m n)) := hid (rd_box (sz := 7) (c := insC) (fun _ => rfl) HC.out (codeM m n) (by unfold codeM; rw [made_eq m HSM.out.2.1,made_eq n HSM.out.2.2,HOC.out.1,HOC.out.2.1,HOC.out.2.2.1,HOC.out.2.2.2]; rfl) 6 rfl)
 obtain ⟨Rl,Ra,Re⟩ := R
 have HMR : Hid ((mMerge u m n).ret = (4,wt)) := hid (by show ((4 : Int),nmM.getD u es) = _; rw [HWT.out])
 obtain ⟨vl,vc,vf⟩ := boxN HF.out
 have v0 := vc 0 _ rfl
 have v1 := vc 1 _ rfl
 have v2 := vc 2 _ rfl
 have v3 := vc 3 _ rfl
 have v4 := vc 4 _ rfl
 have v5 := vc 5 _ rfl
 have v6 := vc 6 _ rfl
 have v7 := vc 7 _ rfl
 have v8 := vc 8 _ rfl
 simp only [Nat.zero_add] at v0 v1 v2 v3 v4 v5 v6 v7 v8
 clear vc vf
 go_wp2_with fail
 clear vl v0 v1 v2 v3 v4 v5 v6 v7 v8
 have hinf := Infer_w okt tb K ⟨#[65]⟩ (mMerge u m n) none (some ⟨gc,0,none⟩) none 0 0 6 6 0 0 (Rl,Ra,Re) w7 (.inl ⟨tb,mb,vs,rfl,HT.out⟩) HKF.out (RdX.nil _ _ _ _) HCR.out (RdX.nil _ _ _ _) ⟨by decide,(by rw [HMR.out]; exact HWS.out),fun t ht => (by cases ht),Nat.zero_le _,(by show (6 : Nat) <= 1000; decide),Nat.zero_le _,fun x hx => (by cases hx),code_szM m n HSM.out.2.1 HSM.out.2.2,(by show (0 : Int) <= 1000; decide)⟩ (merge_ok ⟨m,HSM.out.2.1⟩ ⟨n,HSM.out.2.2⟩) (by rw [HKS.out]; exact HRR.out)
 rw [show (mMerge u m n).ret.1 = 4 from rfl,show (mMerge u m n).ret.2 = wt from by rw [HMR.out]] at hinf
 refine hinf.mono ?_
 clear hinf
 rintro e w8 ⟨pr,cr,rfl,hrd,hbn⟩
 dsimp only at hrd ⊢
 have HRD := hid hrd
 replace HT := hid (HT.out.below hbn)
 replace HB := hid (HB.out.trans (hbn.mono HB.out.size))
 clear hrd hbn HCR HC HF
 go_upto_region 7 with fail
 go_cut [15,16] from 48 to 58 (fun s15 s16 wx => s15 = .string c1 /\ s16 = .string c2 /\ Hid (Below w8.heap.size w8 wx))
 case first =>
  have m5 : (m : Int) < 5 := by have := HSM.out; omega
  have n5 : (n : Int) < 5 := by have := HSM.out; omega
  have m0 : (0 : Int) <= (m : Int) := by omega
  have n0 : (0 : Int) <= (n : Int) := by omega
  have mt : (m : Int).toNat = m := by omega
  have nt : (n : Int).toNat = n := by omega
  obtain ⟨wd,hwd⟩ : ∃ z,z = w8.drew := ⟨_,rfl⟩
  have HBX : Hid (Below w8.heap.size w8 wd) := hid (by rw [hwd]; exact (Below.refl _ _).drew)
  refine wp_region_held_drew (S := fun _ => True) (by kernel_rfl) trivial (fun hh => ?_)
  rw [<- hwd]
  clear hwd
  refine tkA 1 _ hh ?_
  try go_frame
  refine tkA 2 _ hh ?_
  try go_frame
  refine tkA 6 _ hh ?_
  try go_frame
  refine tkA 7 _ hh ?_
  try go_frame
  refine rdH [0,5] ?_
  refine AllReadyH.cons (o := _) (by simp only [List.getElem?_toArray,List.getElem?_cons_zero]; rfl) (fun KX hKX => ?_) ?_
  ·clear hh
   go_simp
   have hbn := below_alR wd (.cells #[.string ⟨#[65]⟩,.string ⟨#[66]⟩,.string ⟨#[67]⟩,.string ⟨#[68]⟩,.string ⟨#[]⟩] 9)
   have HLA := hid (heap_alloc_new wd (.cells #[.string ⟨#[65]⟩,.string ⟨#[66]⟩,.string ⟨#[67]⟩,.string ⟨#[68]⟩,.string ⟨#[]⟩] 9))
   obtain ⟨wb0,hw_⟩ : ∃ z,z = wd.alloc (.cells #[.string ⟨#[65]⟩,.string ⟨#[66]⟩,.string ⟨#[67]⟩,.string ⟨#[68]⟩,.string ⟨#[]⟩] 9) := ⟨_,rfl⟩
   replace HBX := hid (HBX.out.trans (hbn.mono HBX.out.size))
   rw [<- hw_] at HLA HBX  ⊢
   obtain ⟨gA,hg_⟩ : ∃ z,wd.heap.size = z := ⟨_,rfl⟩
   rw [hg_] at HLA ⊢
   clear hbn hw_ hg_
   refine hKX.out _ _ trivial (fun hh => ?_)
   clear hKX KX
   try go_frame
   refine tkA 3 _ hh ?_
   try go_frame
   refine rdH [4,5] ?_
   refine AllReadyH.cons (o := _) (by simp only [List.getElem?_toArray,List.getElem?_cons_succ,List.getElem?_cons_zero]; rfl) (fun KX hKX => ?_) ?_
   ·clear hh
    have ld0 : World.cell? _ ⟨gA,m,none⟩ = some (.string c1) := cell5 HLA.out HSM.out.2.1 HOC.out.2.1
    go_simp
    clear ld0
    refine hKX.out _ _ trivial (fun hh => ?_)
    clear hKX KX
    try go_frame
    refine tkA 10 _ hh ?_
    try go_frame
    refine rdH [5] ?_
    refine AllReadyH.cons (o := _) (by simp only [List.getElem?_toArray,List.getElem?_cons_succ,List.getElem?_cons_zero]; rfl) (fun KX hKX => ?_) AllReadyH.nil
    clear hh
    go_simp
    have hbn := below_alR wb0 (.cells #[.string ⟨#[65]⟩,.string ⟨#[66]⟩,.string ⟨#[67]⟩,.string ⟨#[68]⟩,.string ⟨#[]⟩] 9)
    have HLB := hid (heap_alloc_new wb0 (.cells #[.string ⟨#[65]⟩,.string ⟨#[66]⟩,.string ⟨#[67]⟩,.string ⟨#[68]⟩,.string ⟨#[]⟩] 9))
    obtain ⟨wb1,hw_⟩ : ∃ z,z = wb0.alloc (.cells #[.string ⟨#[65]⟩,.string ⟨#[66]⟩,.string ⟨#[67]⟩,.string ⟨#[68]⟩,.string ⟨#[]⟩] 9) := ⟨_,rfl⟩
    replace HLA := hid (blk_b HLA.out hbn)
    replace HBX := hid (HBX.out.trans (hbn.mono HBX.out.size))
    rw [<- hw_] at HLB HBX HLA ⊢
    obtain ⟨gB,hg_⟩ : ∃ z,wb0.heap.size = z := ⟨_,rfl⟩
    rw [hg_] at HLB ⊢
    clear hbn hw_ hg_
    refine hKX.out _ _ trivial (fun hh => ?_)
    clear hKX KX
    try go_frame
    refine tkA 8 _ hh ?_
    try go_frame
    refine rdH [9] ?_
    refine AllReadyH.cons (o := _) (by simp only [List.getElem?_toArray,List.getElem?_cons_succ,List.getElem?_cons_zero]; rfl) (fun KX hKX => ?_) AllReadyH.nil
    clear hh
    have ld1 : World.cell? _ ⟨gB,n,none⟩ = some (.string c2) := cell5 HLB.out HSM.out.2.2 HOC.out.2.2.2
    go_simp
    clear ld1
    refine hKX.out _ _ trivial (fun hh => ?_)
    clear hKX KX
    try go_frame
    refine tkA 11 _ hh ?_
    try go_frame
    refine wpAnyH_done (by kernel_rfl) ?_ _
    clear hh
    go_wp2_with fail
    go_meet
    case rel => exact ⟨rfl,rfl,HBX⟩
   refine AllReadyH.cons (o := _) (by simp only [List.getElem?_toArray,List.getElem?_cons_succ,List.getElem?_cons_zero]; rfl) (fun KX hKX => ?_) AllReadyH.nil
   clear hh
   go_simp
   have hbn := below_alR wb0 (.cells #[.string ⟨#[65]⟩,.string ⟨#[66]⟩,.string ⟨#[67]⟩,.string ⟨#[68]⟩,.string ⟨#[]⟩] 9)
   have HLB := hid (heap_alloc_new wb0 (.cells #[.string ⟨#[65]⟩,.string ⟨#[66]⟩,.string ⟨#[67]⟩,.string ⟨#[68]⟩,.string ⟨#[]⟩] 9))
   obtain ⟨wb1,hw_⟩ : ∃ z,z = wb0.alloc (.cells #[.string ⟨#[65]⟩,.string ⟨#[66]⟩,.string ⟨#[67]⟩,.string ⟨#[68]⟩,.string ⟨#[]⟩] 9) := ⟨_,rfl⟩
   replace HLA := hid (blk_b HLA.out hbn)
   replace HBX := hid (HBX.out.trans (hbn.mono HBX.out.size))
   rw [<- hw_] at HLB HBX HLA ⊢
   obtain ⟨gB,hg_⟩ : ∃ z,wb0.heap.size = z := ⟨_,rfl⟩
   rw [hg_] at HLB ⊢
   clear hbn hw_ hg_
   refine hKX.out _ _ trivial (fun hh => ?_)
   clear hKX KX
   try go_frame
   refine tkA 8 _ hh ?_
   try go_frame
   refine rdH [4,9] ?_
   refine AllReadyH.cons (o := _) (by simp only [List.getElem?_toArray,List.getElem?_cons_succ,List.getElem?_cons_zero]; rfl) (fun KX hKX => ?_) ?_
   ·clear hh
    have ld0 : World.cell? _ ⟨gA,m,none⟩ = some (.string c1) := cell5 HLA.out HSM.out.2.1 HOC.out.2.1
    go_simp
    clear ld0
    refine hKX.out _ _ trivial (fun hh => ?_)
    clear hKX KX
    try go_frame
    refine tkA 10 _ hh ?_
    try go_frame
    refine rdH [9] ?_
    refine AllReadyH.cons (o := _) (by simp only [List.getElem?_toArray,List.getElem?_cons_succ,List.getElem?_cons_zero]; rfl) (fun KX hKX => ?_) AllReadyH.nil
    clear hh
    have ld1 : World.cell? _ ⟨gB,n,none⟩ = some (.string c2) := cell5 HLB.out HSM.out.2.2 HOC.out.2.2.2
    go_simp
    clear ld1
    refine hKX.out _ _ trivial (fun hh => ?_)
    clear hKX KX
    try go_frame
    refine tkA 11 _ hh ?_
    try go_frame
    refine wpAnyH_done (by kernel_rfl) ?_ _
    clear hh
    go_wp2_with fail
    go_meet
    case rel => exact ⟨rfl,rfl,HBX⟩
   refine AllReadyH.cons (o := _) (by simp only [List.getElem?_toArray,List.getElem?_cons_succ,List.getElem?_cons_zero]; rfl) (fun KX hKX => ?_) AllReadyH.nil
   clear hh
   have ld1 : World.cell? _ ⟨gB,n,none⟩ = some (.string c2) := cell5 HLB.out HSM.out.2.2 HOC.out.2.2.2
   go_simp
   clear ld1
   refine hKX.out _ _ trivial (fun hh => ?_)
   clear hKX KX
   try go_frame
   refine rdH [4] ?_
   refine AllReadyH.cons (o := _) (by simp only [List.getElem?_toArray,List.getElem?_cons_succ,List.getElem?_cons_zero]; rfl) (fun KX hKX => ?_) AllReadyH.nil
   clear hh
   have ld0 : World.cell? _ ⟨gA,m,none⟩ = some (.string c1) := cell5 HLA.out HSM.out.2.1 HOC.out.2.1
   go_simp
   clear ld0
   refine hKX.out _ _ trivial (fun hh => ?_)
   clear hKX KX
   try go_frame
   refine tkA 10 _ hh ?_
   try go_frame
   refine tkA 11 _ hh ?_
   try go_frame
   refine wpAnyH_done (by kernel_rfl) ?_ _
   clear hh
   go_wp2_with fail
   go_meet
   case rel => exact ⟨rfl,rfl,HBX⟩
  refine AllReadyH.cons (o := _) (by simp only [List.getElem?_toArray,List.getElem?_cons_succ,List.getElem?_cons_zero]; rfl) (fun KX hKX => ?_) AllReadyH.nil
  clear hh
  go_simp
  have hbn := below_alR wd (.cells #[.string ⟨#[65]⟩,.string ⟨#[66]⟩,.string ⟨#[67]⟩,.string ⟨#[68]⟩,.string ⟨#[]⟩] 9)
  have HLB := hid (heap_alloc_new wd (.cells #[.string ⟨#[65]⟩,.string ⟨#[66]⟩,.string ⟨#[67]⟩,.string ⟨#[68]⟩,.string ⟨#[]⟩] 9))
  obtain ⟨wb1,hw_⟩ : ∃ z,z = wd.alloc (.cells #[.string ⟨#[65]⟩,.string ⟨#[66]⟩,.string ⟨#[67]⟩,.string ⟨#[68]⟩,.string ⟨#[]⟩] 9) := ⟨_,rfl⟩
  replace HBX := hid (HBX.out.trans (hbn.mono HBX.out.size))
  rw [<- hw_] at HLB HBX  ⊢
  obtain ⟨gB,hg_⟩ : ∃ z,wd.heap.size = z := ⟨_,rfl⟩
  rw [hg_] at HLB ⊢
  clear hbn hw_ hg_
  refine hKX.out _ _ trivial (fun hh => ?_)
  clear hKX KX
  try go_frame
  refine tkA 8 _ hh ?_
  try go_frame
  refine rdH [0,9] ?_
  refine AllReadyH.cons (o := _) (by simp only [List.getElem?_toArray,List.getElem?_cons_zero]; rfl) (fun KX hKX => ?_) ?_
  ·clear hh
   go_simp
   have hbn := below_alR wb1 (.cells #[.string ⟨#[65]⟩,.string ⟨#[66]⟩,.string ⟨#[67]⟩,.string ⟨#[68]⟩,.string ⟨#[]⟩] 9)
   have HLA := hid (heap_alloc_new wb1 (.cells #[.string ⟨#[65]⟩,.string ⟨#[66]⟩,.string ⟨#[67]⟩,.string ⟨#[68]⟩,.string ⟨#[]⟩] 9))
   obtain ⟨wb0,hw_⟩ : ∃ z,z = wb1.alloc (.cells #[.string ⟨#[65]⟩,.string ⟨#[66]⟩,.string ⟨#[67]⟩,.string ⟨#[68]⟩,.string ⟨#[]⟩] 9) := ⟨_,rfl⟩
   replace HLB := hid (blk_b HLB.out hbn)
   replace HBX := hid (HBX.out.trans (hbn.mono HBX.out.size))
   rw [<- hw_] at HLA HBX HLB ⊢
   obtain ⟨gA,hg_⟩ : ∃ z,wb1.heap.size = z := ⟨_,rfl⟩
   rw [hg_] at HLA ⊢
   clear hbn hw_ hg_
   refine hKX.out _ _ trivial (fun hh => ?_)
   clear hKX KX
   try go_frame
   refine tkA 3 _ hh ?_
   try go_frame
   refine rdH [4,9] ?_
   refine AllReadyH.cons (o := _) (by simp only [List.getElem?_toArray,List.getElem?_cons_succ,List.getElem?_cons_zero]; rfl) (fun KX hKX => ?_) ?_
   ·clear hh
    have ld0 : World.cell? _ ⟨gA,m,none⟩ = some (.string c1) := cell5 HLA.out HSM.out.2.1 HOC.out.2.1
    go_simp
    clear ld0
    refine hKX.out _ _ trivial (fun hh => ?_)
    clear hKX KX
    try go_frame
    refine tkA 10 _ hh ?_
    try go_frame
    refine rdH [9] ?_
    refine AllReadyH.cons (o := _) (by simp only [List.getElem?_toArray,List.getElem?_cons_succ,List.getElem?_cons_zero]; rfl) (fun KX hKX => ?_) AllReadyH.nil
    clear hh
    have ld1 : World.cell? _ ⟨gB,n,none⟩ = some (.string c2) := cell5 HLB.out HSM.out.2.2 HOC.out.2.2.2
    go_simp
    clear ld1
    refine hKX.out _ _ trivial (fun hh => ?_)
    clear hKX KX
    try go_frame
    refine tkA 11 _ hh ?_
    try go_frame
    refine wpAnyH_done (by kernel_rfl) ?_ _
    clear hh
    go_wp2_with fail
    go_meet
    case rel => exact ⟨rfl,rfl,HBX⟩
   refine AllReadyH.cons (o := _) (by simp only [List.getElem?_toArray,List.getElem?_cons_succ,List.getElem?_cons_zero]; rfl) (fun KX hKX => ?_) AllReadyH.nil
   clear hh
   have ld1 : World.cell? _ ⟨gB,n,none⟩ = some (.string c2) := cell5 HLB.out HSM.out.2.2 HOC.out.2.2.2
   go_simp
   clear ld1
   refine hKX.out _ _ trivial (fun hh => ?_)
   clear hKX KX
   try go_frame
   refine rdH [4] ?_
   refine AllReadyH.cons (o := _) (by simp only [List.getElem?_toArray,List.getElem?_cons_succ,List.getElem?_cons_zero]; rfl) (fun KX hKX => ?_) AllReadyH.nil
   clear hh
   have ld0 : World.cell? _ ⟨gA,m,none⟩ = some (.string c1) := cell5 HLA.out HSM.out.2.1 HOC.out.2.1
   go_simp
   clear ld0
   refine hKX.out _ _ trivial (fun hh => ?_)
   clear hKX KX
   try go_frame
   refine tkA 10 _ hh ?_
   try go_frame
   refine tkA 11 _ hh ?_
   try go_frame
   refine wpAnyH_done (by kernel_rfl) ?_ _
   clear hh
   go_wp2_with fail
   go_meet
   case rel => exact ⟨rfl,rfl,HBX⟩
  refine AllReadyH.cons (o := _) (by simp only [List.getElem?_toArray,List.getElem?_cons_succ,List.getElem?_cons_zero]; rfl) (fun KX hKX => ?_) AllReadyH.nil
  clear hh
  have ld1 : World.cell? _ ⟨gB,n,none⟩ = some (.string c2) := cell5 HLB.out HSM.out.2.2 HOC.out.2.2.2
  go_simp
  clear ld1
  refine hKX.out _ _ trivial (fun hh => ?_)
  clear hKX KX
  try go_frame
  refine rdH [0] ?_
  refine AllReadyH.cons (o := _) (by simp only [List.getElem?_toArray,List.getElem?_cons_zero]; rfl) (fun KX hKX => ?_) AllReadyH.nil
  clear hh
  go_simp
  have hbn := below_alR wb1 (.cells #[.string ⟨#[65]⟩,.string ⟨#[66]⟩,.string ⟨#[67]⟩,.string ⟨#[68]⟩,.string ⟨#[]⟩] 9)
  have HLA := hid (heap_alloc_new wb1 (.cells #[.string ⟨#[65]⟩,.string ⟨#[66]⟩,.string ⟨#[67]⟩,.string ⟨#[68]⟩,.string ⟨#[]⟩] 9))
  obtain ⟨wb0,hw_⟩ : ∃ z,z = wb1.alloc (.cells #[.string ⟨#[65]⟩,.string ⟨#[66]⟩,.string ⟨#[67]⟩,.string ⟨#[68]⟩,.string ⟨#[]⟩] 9) := ⟨_,rfl⟩
  replace HLB := hid (blk_b HLB.out hbn)
  replace HBX := hid (HBX.out.trans (hbn.mono HBX.out.size))
  rw [<- hw_] at HLA HBX HLB ⊢
  obtain ⟨gA,hg_⟩ : ∃ z,wb1.heap.size = z := ⟨_,rfl⟩
  rw [hg_] at HLA ⊢
  clear hbn hw_ hg_
  refine hKX.out _ _ trivial (fun hh => ?_)
  clear hKX KX
  try go_frame
  refine tkA 3 _ hh ?_
  try go_frame
  refine rdH [4] ?_
  refine AllReadyH.cons (o := _) (by simp only [List.getElem?_toArray,List.getElem?_cons_succ,List.getElem?_cons_zero]; rfl) (fun KX hKX => ?_) AllReadyH.nil
  clear hh
  have ld0 : World.cell? _ ⟨gA,m,none⟩ = some (.string c1) := cell5 HLA.out HSM.out.2.1 HOC.out.2.1
  go_simp
  clear ld0
  refine hKX.out _ _ trivial (fun hh => ?_)
  clear hKX KX
  try go_frame
  refine tkA 10 _ hh ?_
  try go_frame
  refine tkA 11 _ hh ?_
  try go_frame
  refine wpAnyH_done (by kernel_rfl) ?_ _
  clear hh
  go_wp2_with fail
  go_meet
  case rel => exact ⟨rfl,rfl,HBX⟩
 case rest =>
  obtain ⟨rfl,rfl,hbx⟩ := hcut
  replace HT := hid (HT.out.below hbx.out)
  have HRD9 := hid (HRD.out.any frP.grow hbx.out)
  replace HB := hid (HB.out.trans (hbx.out.mono HB.out.size))
  clear hbx HRD
  obtain ⟨bt,hbt⟩ : ∃ z,bothM T m n = z := ⟨_,rfl⟩
  have HBT := hid hbt
  rw [hbt] at HF2
  obtain ⟨fit,hfit⟩ : ∃ z,fitsM T u m n = z := ⟨_,rfl⟩
  have HFT := hid hfit
  rw [hfit] at HF1 HF2
  have HCZ : Hid (c1.size <= maxLen /\ c2.size <= maxLen) := hid ⟨by rw [<- HOC.out.2.1]; exact sz_small (nmC_sz m),by rw [<- HOC.out.2.2.2]; exact sz_small (nmC_sz n)⟩
  have HBE : Hid ((if c1 = es then c2 else if ¬ c2 = es then commonT T c1 c2 else c1) = bt) := hid (by rw [<- hbt,<- HOC.out.2.1,<- HOC.out.2.2.2]; rfl)
  have HBZ : Hid (bt.size <= maxLen) := hid (by rw [<- hbt]; exact both_sz (bitS k0 3) (bitS k0 6) (bitS k2 2) HTB.out m n HSM.out.2.1 HSM.out.2.2)
  clear hbt hfit
  go_upto_block 0 with fail
  go_cut [17] from 59 to 70 (fun s17 wx => s17 = .string bt /\ Hid (Below wc.heap.size wc wx))
  case first =>
   by_cases e1 : c1 = es
   ·obtain rfl : c1 = (⟨#[]⟩ : ByteArray) := e1
    obtain rfl : c2 = bt := by have h9 := HBE.out; rw [if_pos (show (⟨#[]⟩ : ByteArray) = es from rfl)] at h9; exact h9
    go_wp2_with fail
    go_meet
    case rel => exact ⟨rfl,hid (Below.refl _ _)⟩
   ·have q1 : (c1.toList == []) = false := txt_nil e1
    by_cases e2 : c2 = es
    ·obtain rfl : c1 = bt := by have h9 := HBE.out; rw [if_neg e1,if_neg (by simpa using e2)] at h9; exact h9
     obtain rfl : c2 = (⟨#[]⟩ : ByteArray) := e2
     clear e1
     go_wp2_with fail
     go_meet
     case rel => exact ⟨rfl,hid (Below.refl _ _)⟩
    ·have q2 : (c2.toList == []) = false := txt_nil e2
     obtain rfl : commonT T c1 c2 = bt := by have h9 := HBE.out; rw [if_neg e1,if_pos (by simpa using e2)] at h9; exact h9
     clear e1 e2
     go_wp2_with fail
     refine (Common_t okt tb mb vs K c1 c2 wc HT.out HCZ.out.1 HCZ.out.2).mono ?_
     rw [HKS.out]
     rintro e wq ⟨rfl,hbn⟩
     have HQ := hid hbn
     clear hbn
     go_wp2_with fail
     go_meet
     case rel => exact ⟨rfl,HQ⟩
  case rest =>
   obtain ⟨rfl,hbx⟩ := hcut
   replace HT := hid (HT.out.below hbx.out)
   replace HRD9 := hid (HRD9.out.any frP.grow hbx.out)
   replace HB := hid (HB.out.trans (hbx.out.mono HB.out.size))
   clear hbx
   have HFE : Hid ((decide (bt = es) || subT T bt wt) = fit) := hid (by have h9 := HFT.out; unfold fitsM at h9; rw [HBT.out,HWT.out] at h9; exact h9)
   go_upto_region 13 with fail
   go_cut [18] from 70 to 78 (fun s18 wx => s18 = .bool fit /\ Hid (Below wc.heap.size wc wx))
   case first =>
    by_cases e1 : bt = es
    ·obtain rfl : true = fit := by have h9 := HFE.out; rw [decide_eq_true e1] at h9; exact h9
     obtain rfl : bt = (⟨#[]⟩ : ByteArray) := e1
     go_wp2_with fail
     go_meet
     case rel => exact ⟨rfl,hid (Below.refl _ _)⟩
    ·have q1 : (bt.toList == []) = false := txt_nil e1
     obtain rfl : subT T bt wt = fit := by have h9 := HFE.out; rw [decide_eq_false e1] at h9; exact h9
     clear e1
     go_wp2_with fail
     refine (Sub_t okt tb mb vs K bt wt wc HT.out HBZ.out (sz_small HWS.out)).mono ?_
     rw [HKS.out]
     rintro e wq ⟨rfl,hbn⟩
     have HQ := hid hbn
     clear hbn
     go_wp2_with fail
     go_meet
     case rel => exact ⟨rfl,HQ⟩
   case rest =>
    obtain ⟨rfl,hbx⟩ := hcut
    replace HRD9 := hid (HRD9.out.any frP.grow hbx.out)
    replace HB := hid (HB.out.trans (hbx.out.mono HB.out.size))
    clear hbx HT
    cases fit with
    | false =>
     obtain ⟨rfl,rfl⟩ := HF1.out rfl
     clear HF1 HF2
     go_wp2_with fail
     go_ret
     exact ⟨rfl,HB.out⟩
    | true =>
     obtain ⟨hr1,hr2,f,t,hf,hft,ht1,ht2⟩ := HF2.out rfl
     try dsimp only at hr1 hr2 hf
     subst hr1
     have HT1 := hid ht1
     have HT2 := hid ht2
     obtain ⟨g1,gL,gS⟩ := f
     try dsimp only at hft
     subst hft
     obtain ⟨t1,t2⟩ := t
     obtain ⟨br,orr,rfl,-,-,-,hbr,hcr⟩ := HRD9.out.place (fun e0 => by rw [e0] at hf; simp at hf)
     obtain ⟨vs6,⟨pl,cl,ps,cs,rfl,hl1,hl2⟩,hc6⟩ := hcr 5 _ hf
     obtain ⟨bl,ol,rfl,-,-,-,hbl,hcl⟩ := hl2.place (by simp)
     have k0' := (sP_at (hcl 0 _ rfl)).two
     have m0 := hc6 0 _ rfl
     have m2 := hc6 2 _ rfl
     try dsimp only [List.length_cons,List.length_nil] at m2
     simp only [Nat.add_zero,Nat.zero_mul,Nat.zero_add] at m0 m2 k0'
     obtain ⟨q1,q2⟩ := k0'
     rw [hr2]
     clear hcr hl1 hl2 hcl hc6 hf HF1 HF2 ht1 ht2
     by_cases e1 : bt = es
     ·obtain rfl : bt = (⟨#[]⟩ : ByteArray) := e1
      obtain rfl : t1 = 6 := HT1.out rfl
      clear HT1 HT2
      go_wp2_with fail
      go_ret
      exact ⟨rfl,HB.out⟩
     ·obtain rfl : t2 = bt := HT2.out e1
      have e2 : (t2.toList == []) = false := txt_nil e1
      have e3 : (t2.toList == t2.toList) = true := by simp
      clear e1 HT1 HT2
      go_wp2_with fail
      go_ret
      exact ⟨rfl,HB.out⟩
end Go.Proofs.YtfpeakkbbfnhcaaGreat.R
