/- Texts that the proof is made of, joined. No condition. -/
import Derived.Test.YtpkjlgdbaajpoaaGreatC1220
import Derived.Deep.DeepCutAuto
import Derived.Deep.CutBlock
import Derived.Test.YtpkjlgdbaajpoaaGreatC1210
import Derived.Test.YtpkjlgdbaajpoaaGreatC125
import Derived.Test.YtpkjlgdbaajpoaaGreatC12H
set_option linter.unusedVariables false
set_option linter.unusedSimpArgs false
set_option maxRecDepth 100000
set_option maxHeartbeats 16000000
namespace Go.Proofs.YtpkjlgdbaajpoaaGreat.R
open Go.RowKit Go.Proofs.YtpkjlgdbaajpoaaGreat.D Go.Proofs.YtpkjlgdbaajpoaaGreat.O Go.Proofs.YtpkjlgdbaajpoaaGreat.A
theorem rfits_r0 (vt : Value) (s1 : ByteArray) (w : World)  :
  Calls Tryz.prog 22 #[vt,.agg #[.int .i64 4,.string s1],.agg #[.int .i64 4,.string s1]] w fun e w' => e = .returned (.bool (true)) /\ Below w.heap.size w w' := by
 obtain ⟨wn,hw4⟩ : ∃ x,x = ((w.alloc (.cells #[.int .i64 4,.string s1] 26)).alloc (.cells #[.int .i64 4,.string s1] 26)) := ⟨_,rfl⟩
 have HB : Hid (Below w.heap.size w wn) := hid (by rw [hw4]; exact (jbl2 _ _ _))
 have HA : Hid (wn.heap[w.heap.size]? = some (.cells #[.int .i64 4,.string s1] 26 (0,0))) := hid (by rw [hw4,(below_alR _ _).block _ (by simp)]; exact heap_alloc_new _ _)
 have HC : Hid (wn.heap[w.heap.size + 1]? = some (.cells #[.int .i64 4,.string s1] 26 (0,0))) := hid (by rw [hw4]; exact jal2 _ _ _ _)
 go_enter Tryz.func22,Tryz.ntmps22
 go_upto_region 1 with fail
 rw [<- hw4]
 clear hw4
 obtain ⟨g,hg⟩ : ∃ z,w.heap.size = z := ⟨_,rfl⟩
 rw [hg] at HA HC ⊢
 have HG := hid hg
 have HBT := HB
 clear hg
 obtain ⟨al,a0,a1⟩ := c2_at HA.out
 obtain ⟨cl,c0,c1⟩ := c2_at HC.out
 go_wp2_with fail
 go_ret
 exact ⟨rfl,HB.out⟩
theorem rfits_r (rb : Nat) (s1 s2 : ByteArray) (ok : Nat -> Prop) (p : Option Addr) (cap : Nat) (A : List Cls) (w : World) (hs : ¬ s1 = s2) (V : Bool) (hv : subT (A.map skOf) s1 s2 = V) (h : RfW ok w rb p cap A) (hifs : ∀ s,(ifsT (A.map skOf) s).length <= 1000) :
  Calls Tryz.prog 22 #[.pointer (some ⟨rb,0,none⟩),.agg #[.int .i64 4,.string s1],.agg #[.int .i64 4,.string s2]] w fun e w' => e = .returned (.bool (V)) /\ Below w.heap.size w w' := by
 have HT := hid h
 have HV := hid hv
 have HI := hid hifs
 clear h hv hifs
 obtain ⟨wn,hw4⟩ : ∃ x,x = ((w.alloc (.cells #[.int .i64 4,.string s1] 26)).alloc (.cells #[.int .i64 4,.string s2] 26)) := ⟨_,rfl⟩
 have HB : Hid (Below w.heap.size w wn) := hid (by rw [hw4]; exact (jbl2 _ _ _))
 have HA : Hid (wn.heap[w.heap.size]? = some (.cells #[.int .i64 4,.string s1] 26 (0,0))) := hid (by rw [hw4,(below_alR _ _).block _ (by simp)]; exact heap_alloc_new _ _)
 have HC : Hid (wn.heap[w.heap.size + 1]? = some (.cells #[.int .i64 4,.string s2] 26 (0,0))) := hid (by rw [hw4]; exact jal2 _ _ _ _)
 go_enter Tryz.func22,Tryz.ntmps22
 go_upto_region 1 with fail
 rw [<- hw4]
 clear hw4
 obtain ⟨g,hg⟩ : ∃ z,w.heap.size = z := ⟨_,rfl⟩
 rw [hg] at HA HC ⊢
 have HG := hid hg
 have HBT := HB
 clear hg
 have t12 := Go.Proofs.YtpkjlgdbaajpoaaGreat.txt_ne hs
 have t13 : ¬ s1.toList = s2.toList := fun h => by rw [h] at t12; simp at t12
 obtain ⟨al,a0,a1⟩ := c2_at HA.out
 obtain ⟨cl,c0,c1⟩ := c2_at HC.out
 go_wp2_with fail
 clear al a0 a1 cl c0 c1
 refine (Sub_r rb p cap A s1 s2 _ (HT.out.below HBT.out) HI.out).mono ?_
 rw [HV.out]
 rintro e wn ⟨rfl,hbn⟩
 replace HA := hid ((hbn.block _ (Array.getElem?_eq_some_iff.1 HA.out).1).trans HA.out)
 replace HC := hid ((hbn.block _ (Array.getElem?_eq_some_iff.1 HC.out).1).trans HC.out)
 replace HBT := hid (HBT.out.trans (hbn.mono HBT.out.size))
 replace HB := hid (HB.out.trans (hbn.mono HB.out.size))
 clear hbn
 obtain ⟨al,a0,a1⟩ := c2_at HA.out
 obtain ⟨cl,c0,c1⟩ := c2_at HC.out
 go_wp2_with fail
 go_ret
 exact ⟨rfl,HB.out⟩
theorem rfits_n3 (vt : Value) (s1 s2 : ByteArray) (w : World)  :
  Calls Tryz.prog 22 #[vt,.agg #[.int .i64 6,.string s1],.agg #[.int .i64 3,.string s2]] w fun e w' => e = .returned (.bool (true)) /\ Below w.heap.size w w' := by
 obtain ⟨wn,hw4⟩ : ∃ x,x = ((w.alloc (.cells #[.int .i64 6,.string s1] 26)).alloc (.cells #[.int .i64 3,.string s2] 26)) := ⟨_,rfl⟩
 have HB : Hid (Below w.heap.size w wn) := hid (by rw [hw4]; exact (jbl2 _ _ _))
 have HA : Hid (wn.heap[w.heap.size]? = some (.cells #[.int .i64 6,.string s1] 26 (0,0))) := hid (by rw [hw4,(below_alR _ _).block _ (by simp)]; exact heap_alloc_new _ _)
 have HC : Hid (wn.heap[w.heap.size + 1]? = some (.cells #[.int .i64 3,.string s2] 26 (0,0))) := hid (by rw [hw4]; exact jal2 _ _ _ _)
 go_enter Tryz.func22,Tryz.ntmps22
 go_upto_region 1 with fail
 rw [<- hw4]
 clear hw4
 obtain ⟨g,hg⟩ : ∃ z,w.heap.size = z := ⟨_,rfl⟩
 rw [hg] at HA HC ⊢
 have HG := hid hg
 have HBT := HB
 clear hg
 obtain ⟨al,a0,a1⟩ := c2_at HA.out
 obtain ⟨cl,c0,c1⟩ := c2_at HC.out
 go_wp2_with fail
 go_ret
 exact ⟨rfl,HB.out⟩
theorem rfits_n4 (vt : Value) (s1 s2 : ByteArray) (w : World)  :
  Calls Tryz.prog 22 #[vt,.agg #[.int .i64 6,.string s1],.agg #[.int .i64 4,.string s2]] w fun e w' => e = .returned (.bool (true)) /\ Below w.heap.size w w' := by
 obtain ⟨wn,hw4⟩ : ∃ x,x = ((w.alloc (.cells #[.int .i64 6,.string s1] 26)).alloc (.cells #[.int .i64 4,.string s2] 26)) := ⟨_,rfl⟩
 have HB : Hid (Below w.heap.size w wn) := hid (by rw [hw4]; exact (jbl2 _ _ _))
 have HA : Hid (wn.heap[w.heap.size]? = some (.cells #[.int .i64 6,.string s1] 26 (0,0))) := hid (by rw [hw4,(below_alR _ _).block _ (by simp)]; exact heap_alloc_new _ _)
 have HC : Hid (wn.heap[w.heap.size + 1]? = some (.cells #[.int .i64 4,.string s2] 26 (0,0))) := hid (by rw [hw4]; exact jal2 _ _ _ _)
 go_enter Tryz.func22,Tryz.ntmps22
 go_upto_region 1 with fail
 rw [<- hw4]
 clear hw4
 obtain ⟨g,hg⟩ : ∃ z,w.heap.size = z := ⟨_,rfl⟩
 rw [hg] at HA HC ⊢
 have HG := hid hg
 have HBT := HB
 clear hg
 obtain ⟨al,a0,a1⟩ := c2_at HA.out
 obtain ⟨cl,c0,c1⟩ := c2_at HC.out
 go_wp2_with fail
 go_ret
 exact ⟨rfl,HB.out⟩
theorem rfits_n6 (vt : Value) (s1 : ByteArray) (w : World)  :
  Calls Tryz.prog 22 #[vt,.agg #[.int .i64 6,.string s1],.agg #[.int .i64 6,.string s1]] w fun e w' => e = .returned (.bool (true)) /\ Below w.heap.size w w' := by
 obtain ⟨wn,hw4⟩ : ∃ x,x = ((w.alloc (.cells #[.int .i64 6,.string s1] 26)).alloc (.cells #[.int .i64 6,.string s1] 26)) := ⟨_,rfl⟩
 have HB : Hid (Below w.heap.size w wn) := hid (by rw [hw4]; exact (jbl2 _ _ _))
 have HA : Hid (wn.heap[w.heap.size]? = some (.cells #[.int .i64 6,.string s1] 26 (0,0))) := hid (by rw [hw4,(below_alR _ _).block _ (by simp)]; exact heap_alloc_new _ _)
 have HC : Hid (wn.heap[w.heap.size + 1]? = some (.cells #[.int .i64 6,.string s1] 26 (0,0))) := hid (by rw [hw4]; exact jal2 _ _ _ _)
 go_enter Tryz.func22,Tryz.ntmps22
 go_upto_region 1 with fail
 rw [<- hw4]
 clear hw4
 obtain ⟨g,hg⟩ : ∃ z,w.heap.size = z := ⟨_,rfl⟩
 rw [hg] at HA HC ⊢
 have HG := hid hg
 have HBT := HB
 clear hg
 obtain ⟨al,a0,a1⟩ := c2_at HA.out
 obtain ⟨cl,c0,c1⟩ := c2_at HC.out
 go_wp2_with fail
 go_ret
 exact ⟨rfl,HB.out⟩
theorem rfits_n6s (vt : Value) (s1 s2 : ByteArray) (w : World) (hs : ¬ s1 = s2) :
  Calls Tryz.prog 22 #[vt,.agg #[.int .i64 6,.string s1],.agg #[.int .i64 6,.string s2]] w fun e w' => e = .returned (.bool (false)) /\ Below w.heap.size w w' := by
 obtain ⟨wn,hw4⟩ : ∃ x,x = ((w.alloc (.cells #[.int .i64 6,.string s1] 26)).alloc (.cells #[.int .i64 6,.string s2] 26)) := ⟨_,rfl⟩
 have HB : Hid (Below w.heap.size w wn) := hid (by rw [hw4]; exact (jbl2 _ _ _))
 have HA : Hid (wn.heap[w.heap.size]? = some (.cells #[.int .i64 6,.string s1] 26 (0,0))) := hid (by rw [hw4,(below_alR _ _).block _ (by simp)]; exact heap_alloc_new _ _)
 have HC : Hid (wn.heap[w.heap.size + 1]? = some (.cells #[.int .i64 6,.string s2] 26 (0,0))) := hid (by rw [hw4]; exact jal2 _ _ _ _)
 go_enter Tryz.func22,Tryz.ntmps22
 go_upto_region 1 with fail
 rw [<- hw4]
 clear hw4
 obtain ⟨g,hg⟩ : ∃ z,w.heap.size = z := ⟨_,rfl⟩
 rw [hg] at HA HC ⊢
 have HG := hid hg
 have HBT := HB
 clear hg
 have t12 := Go.Proofs.YtpkjlgdbaajpoaaGreat.txt_ne hs
 have t13 : ¬ s1.toList = s2.toList := fun h => by rw [h] at t12; simp at t12
 obtain ⟨al,a0,a1⟩ := c2_at HA.out
 obtain ⟨cl,c0,c1⟩ := c2_at HC.out
 go_wp2_with fail
 go_ret
 exact ⟨rfl,HB.out⟩
theorem rfits_n (vt : Value) (k2 : Int) (s1 s2 : ByteArray) (w : World) (n23 : ¬ k2 = 3) (n24 : ¬ k2 = 4) (n26 : ¬ k2 = 6) :
  Calls Tryz.prog 22 #[vt,.agg #[.int .i64 6,.string s1],.agg #[.int .i64 k2,.string s2]] w fun e w' => e = .returned (.bool (false)) /\ Below w.heap.size w w' := by
 obtain ⟨wn,hw4⟩ : ∃ x,x = ((w.alloc (.cells #[.int .i64 6,.string s1] 26)).alloc (.cells #[.int .i64 k2,.string s2] 26)) := ⟨_,rfl⟩
 have HB : Hid (Below w.heap.size w wn) := hid (by rw [hw4]; exact (jbl2 _ _ _))
 have HA : Hid (wn.heap[w.heap.size]? = some (.cells #[.int .i64 6,.string s1] 26 (0,0))) := hid (by rw [hw4,(below_alR _ _).block _ (by simp)]; exact heap_alloc_new _ _)
 have HC : Hid (wn.heap[w.heap.size + 1]? = some (.cells #[.int .i64 k2,.string s2] 26 (0,0))) := hid (by rw [hw4]; exact jal2 _ _ _ _)
 go_enter Tryz.func22,Tryz.ntmps22
 go_upto_region 1 with fail
 rw [<- hw4]
 clear hw4
 obtain ⟨g,hg⟩ : ∃ z,w.heap.size = z := ⟨_,rfl⟩
 rw [hg] at HA HC ⊢
 have HG := hid hg
 have HBT := HB
 clear hg
 have e26 : ¬ 6 = k2 := fun h => n26 h.symm
 have q23 : (k2 == 3) = false := by simpa using n23
 have q24 : (k2 == 4) = false := by simpa using n24
 have q26 : (k2 == 6) = false := by simpa using n26
 obtain ⟨al,a0,a1⟩ := c2_at HA.out
 obtain ⟨cl,c0,c1⟩ := c2_at HC.out
 go_wp2_with fail
 go_ret
 exact ⟨rfl,HB.out⟩
theorem rfits_4 (vt : Value) (k2 : Int) (s1 s2 : ByteArray) (w : World) (n24 : ¬ k2 = 4) :
  Calls Tryz.prog 22 #[vt,.agg #[.int .i64 4,.string s1],.agg #[.int .i64 k2,.string s2]] w fun e w' => e = .returned (.bool (false)) /\ Below w.heap.size w w' := by
 obtain ⟨wn,hw4⟩ : ∃ x,x = ((w.alloc (.cells #[.int .i64 4,.string s1] 26)).alloc (.cells #[.int .i64 k2,.string s2] 26)) := ⟨_,rfl⟩
 have HB : Hid (Below w.heap.size w wn) := hid (by rw [hw4]; exact (jbl2 _ _ _))
 have HA : Hid (wn.heap[w.heap.size]? = some (.cells #[.int .i64 4,.string s1] 26 (0,0))) := hid (by rw [hw4,(below_alR _ _).block _ (by simp)]; exact heap_alloc_new _ _)
 have HC : Hid (wn.heap[w.heap.size + 1]? = some (.cells #[.int .i64 k2,.string s2] 26 (0,0))) := hid (by rw [hw4]; exact jal2 _ _ _ _)
 go_enter Tryz.func22,Tryz.ntmps22
 go_upto_region 1 with fail
 rw [<- hw4]
 clear hw4
 obtain ⟨g,hg⟩ : ∃ z,w.heap.size = z := ⟨_,rfl⟩
 rw [hg] at HA HC ⊢
 have HG := hid hg
 have HBT := HB
 clear hg
 have e24 : ¬ 4 = k2 := fun h => n24 h.symm
 have q24 : (k2 == 4) = false := by simpa using n24
 obtain ⟨al,a0,a1⟩ := c2_at HA.out
 obtain ⟨cl,c0,c1⟩ := c2_at HC.out
 go_wp2_with fail
 go_ret
 exact ⟨rfl,HB.out⟩
theorem rfits_a7 (vt : Value) (s1 : ByteArray) (w : World)  :
  Calls Tryz.prog 22 #[vt,.agg #[.int .i64 7,.string s1],.agg #[.int .i64 7,.string s1]] w fun e w' => e = .returned (.bool (false)) /\ Below w.heap.size w w' := by
 obtain ⟨wn,hw4⟩ : ∃ x,x = ((w.alloc (.cells #[.int .i64 7,.string s1] 26)).alloc (.cells #[.int .i64 7,.string s1] 26)) := ⟨_,rfl⟩
 have HB : Hid (Below w.heap.size w wn) := hid (by rw [hw4]; exact (jbl2 _ _ _))
 have HA : Hid (wn.heap[w.heap.size]? = some (.cells #[.int .i64 7,.string s1] 26 (0,0))) := hid (by rw [hw4,(below_alR _ _).block _ (by simp)]; exact heap_alloc_new _ _)
 have HC : Hid (wn.heap[w.heap.size + 1]? = some (.cells #[.int .i64 7,.string s1] 26 (0,0))) := hid (by rw [hw4]; exact jal2 _ _ _ _)
 go_enter Tryz.func22,Tryz.ntmps22
 go_upto_region 1 with fail
 rw [<- hw4]
 clear hw4
 obtain ⟨g,hg⟩ : ∃ z,w.heap.size = z := ⟨_,rfl⟩
 rw [hg] at HA HC ⊢
 have HG := hid hg
 have HBT := HB
 clear hg
 obtain ⟨al,a0,a1⟩ := c2_at HA.out
 obtain ⟨cl,c0,c1⟩ := c2_at HC.out
 go_wp2_with fail
 go_ret
 exact ⟨rfl,HB.out⟩
theorem rfits_a (vt : Value) (k1 : Int) (s1 : ByteArray) (w : World) (n14 : ¬ k1 = 4) (n16 : ¬ k1 = 6) (n17 : ¬ k1 = 7) :
  Calls Tryz.prog 22 #[vt,.agg #[.int .i64 k1,.string s1],.agg #[.int .i64 k1,.string s1]] w fun e w' => e = .returned (.bool (true)) /\ Below w.heap.size w w' := by
 obtain ⟨wn,hw4⟩ : ∃ x,x = ((w.alloc (.cells #[.int .i64 k1,.string s1] 26)).alloc (.cells #[.int .i64 k1,.string s1] 26)) := ⟨_,rfl⟩
 have HB : Hid (Below w.heap.size w wn) := hid (by rw [hw4]; exact (jbl2 _ _ _))
 have HA : Hid (wn.heap[w.heap.size]? = some (.cells #[.int .i64 k1,.string s1] 26 (0,0))) := hid (by rw [hw4,(below_alR _ _).block _ (by simp)]; exact heap_alloc_new _ _)
 have HC : Hid (wn.heap[w.heap.size + 1]? = some (.cells #[.int .i64 k1,.string s1] 26 (0,0))) := hid (by rw [hw4]; exact jal2 _ _ _ _)
 go_enter Tryz.func22,Tryz.ntmps22
 go_upto_region 1 with fail
 rw [<- hw4]
 clear hw4
 obtain ⟨g,hg⟩ : ∃ z,w.heap.size = z := ⟨_,rfl⟩
 rw [hg] at HA HC ⊢
 have HG := hid hg
 have HBT := HB
 clear hg
 have q14 : (k1 == 4) = false := by simpa using n14
 have q16 : (k1 == 6) = false := by simpa using n16
 have q17 : (k1 != 7) = true := by simpa using n17
 obtain ⟨al,a0,a1⟩ := c2_at HA.out
 obtain ⟨cl,c0,c1⟩ := c2_at HC.out
 go_wp2_with fail
 go_ret
 exact ⟨rfl,HB.out⟩
theorem rfits_s (vt : Value) (k1 : Int) (s1 s2 : ByteArray) (w : World) (hs : ¬ s1 = s2) (n14 : ¬ k1 = 4) (n16 : ¬ k1 = 6) :
  Calls Tryz.prog 22 #[vt,.agg #[.int .i64 k1,.string s1],.agg #[.int .i64 k1,.string s2]] w fun e w' => e = .returned (.bool (false)) /\ Below w.heap.size w w' := by
 obtain ⟨wn,hw4⟩ : ∃ x,x = ((w.alloc (.cells #[.int .i64 k1,.string s1] 26)).alloc (.cells #[.int .i64 k1,.string s2] 26)) := ⟨_,rfl⟩
 have HB : Hid (Below w.heap.size w wn) := hid (by rw [hw4]; exact (jbl2 _ _ _))
 have HA : Hid (wn.heap[w.heap.size]? = some (.cells #[.int .i64 k1,.string s1] 26 (0,0))) := hid (by rw [hw4,(below_alR _ _).block _ (by simp)]; exact heap_alloc_new _ _)
 have HC : Hid (wn.heap[w.heap.size + 1]? = some (.cells #[.int .i64 k1,.string s2] 26 (0,0))) := hid (by rw [hw4]; exact jal2 _ _ _ _)
 go_enter Tryz.func22,Tryz.ntmps22
 go_upto_region 1 with fail
 rw [<- hw4]
 clear hw4
 obtain ⟨g,hg⟩ : ∃ z,w.heap.size = z := ⟨_,rfl⟩
 rw [hg] at HA HC ⊢
 have HG := hid hg
 have HBT := HB
 clear hg
 have t12 := Go.Proofs.YtpkjlgdbaajpoaaGreat.txt_ne hs
 have t13 : ¬ s1.toList = s2.toList := fun h => by rw [h] at t12; simp at t12
 have q14 : (k1 == 4) = false := by simpa using n14
 have q16 : (k1 == 6) = false := by simpa using n16
 obtain ⟨al,a0,a1⟩ := c2_at HA.out
 obtain ⟨cl,c0,c1⟩ := c2_at HC.out
 go_wp2_with fail
 go_ret
 exact ⟨rfl,HB.out⟩
theorem rfits_k (vt : Value) (k1 k2 : Int) (s1 s2 : ByteArray) (w : World) (h12 : ¬ k1 = k2) (n14 : ¬ k1 = 4) (n16 : ¬ k1 = 6) :
  Calls Tryz.prog 22 #[vt,.agg #[.int .i64 k1,.string s1],.agg #[.int .i64 k2,.string s2]] w fun e w' => e = .returned (.bool (false)) /\ Below w.heap.size w w' := by
 obtain ⟨wn,hw4⟩ : ∃ x,x = ((w.alloc (.cells #[.int .i64 k1,.string s1] 26)).alloc (.cells #[.int .i64 k2,.string s2] 26)) := ⟨_,rfl⟩
 have HB : Hid (Below w.heap.size w wn) := hid (by rw [hw4]; exact (jbl2 _ _ _))
 have HA : Hid (wn.heap[w.heap.size]? = some (.cells #[.int .i64 k1,.string s1] 26 (0,0))) := hid (by rw [hw4,(below_alR _ _).block _ (by simp)]; exact heap_alloc_new _ _)
 have HC : Hid (wn.heap[w.heap.size + 1]? = some (.cells #[.int .i64 k2,.string s2] 26 (0,0))) := hid (by rw [hw4]; exact jal2 _ _ _ _)
 go_enter Tryz.func22,Tryz.ntmps22
 go_upto_region 1 with fail
 rw [<- hw4]
 clear hw4
 obtain ⟨g,hg⟩ : ∃ z,w.heap.size = z := ⟨_,rfl⟩
 rw [hg] at HA HC ⊢
 have HG := hid hg
 have HBT := HB
 clear hg
 have e12 : (k1 == k2) = false := by simpa using h12
 have q14 : (k1 == 4) = false := by simpa using n14
 have q16 : (k1 == 6) = false := by simpa using n16
 obtain ⟨al,a0,a1⟩ := c2_at HA.out
 obtain ⟨cl,c0,c1⟩ := c2_at HC.out
 go_wp2_with fail
 go_ret
 exact ⟨rfl,HB.out⟩
theorem Fits_r {ok : Nat -> Prop} (rb : Nat) (p : Option Addr) (cap : Nat) (A : List Cls) (a b : Ty) (w : World) (h : RfW ok w rb p cap A) (hifs : ∀ s,(ifsT (A.map skOf) s).length <= 1000) :
  Calls Tryz.prog 22 #[.pointer (some ⟨rb,0,none⟩),tyv a,tyv b] w fun e w' => e = .returned (.bool (fitsT (A.map skOf) a b)) /\ Below w.heap.size w w' := by
 obtain ⟨k1,s1⟩ := a
 obtain ⟨k2,s2⟩ := b
 show Calls _ _ #[.pointer (some ⟨rb,0,none⟩),.agg #[.int .i64 k1,.string s1],.agg #[.int .i64 k2,.string s2]] w _
 by_cases h4 : k1 = 4 /\ k2 = 4
 ·obtain ⟨rfl,rfl⟩ := h4
  by_cases hs : s1 = s2
  ·subst hs
   rw [show fitsT (A.map skOf) (4,s1) (4,s1) = true from by unfold fitsT; rw [if_pos ⟨rfl,rfl⟩]; simp]
   exact rfits_r0 _ s1 w
  ·rw [show fitsT (A.map skOf) (4,s1) (4,s2) = subT (A.map skOf) s1 s2 from by
    unfold fitsT
    rw [if_pos ⟨rfl,rfl⟩,decide_eq_false (fun e => hs (congrArg Prod.snd e))]
    rfl]
   exact rfits_r rb s1 s2 ok p cap A w hs _ rfl h hifs
 ·by_cases h6 : k1 = 6
  ·subst h6
   by_cases h3 : k2 = 3 ∨ k2 = 4
   ·rw [show fitsT (A.map skOf) (6,s1) (k2,s2) = true from by unfold fitsT; rw [if_neg h4,if_pos ⟨rfl,h3⟩]]
    rcases h3 with rfl | rfl
    ·exact rfits_n3 _ s1 s2 w
    ·exact rfits_n4 _ s1 s2 w
   ·rw [show fitsT (A.map skOf) (6,s1) (k2,s2) = decide (((6,s1) : Ty) = (k2,s2)) from by unfold fitsT; rw [if_neg h4,if_neg (fun k => h3 k.2)]; simp]
    by_cases h26 : k2 = 6
    ·subst h26
     by_cases hs : s1 = s2
     ·subst hs
      rw [decide_eq_true rfl]
      exact rfits_n6 _ s1 w
     ·rw [decide_eq_false (fun e => hs (congrArg Prod.snd e))]
      exact rfits_n6s _ s1 s2 w hs
    ·rw [decide_eq_false (fun e => h26 (congrArg Prod.fst e).symm)]
     exact rfits_n _ k2 s1 s2 w (fun e => h3 (.inl e)) (fun e => h3 (.inr e)) h26
  ·rw [show fitsT (A.map skOf) (k1,s1) (k2,s2) = (decide (((k1,s1) : Ty) = (k2,s2)) && decide (k1 ≠ 7)) from by unfold fitsT; rw [if_neg h4,if_neg (fun k => h6 k.1)]]
   by_cases h14 : k1 = 4
   ·subst h14
    have n24 : ¬ k2 = 4 := fun e => h4 ⟨rfl,e⟩
    rw [decide_eq_false (fun e => n24 (congrArg Prod.fst e).symm),Bool.false_and]
    exact rfits_4 _ k2 s1 s2 w n24
   ·by_cases h12 : k1 = k2
    ·subst h12
     by_cases hs : s1 = s2
     ·subst hs
      by_cases h7 : k1 = 7
      ·subst h7
       rw [show (decide (((7,s1) : Ty) = (7,s1)) && decide ((7 : Int) ≠ 7)) = false from by simp]
       exact rfits_a7 _ s1 w
      ·rw [show (decide (((k1,s1) : Ty) = (k1,s1)) && decide (k1 ≠ 7)) = true from by simp [h7]]
       exact rfits_a _ k1 s1 w h14 h6 h7
     ·rw [decide_eq_false (fun e => hs (congrArg Prod.snd e)),Bool.false_and]
      exact rfits_s _ k1 s1 s2 w hs h14 h6
    ·rw [decide_eq_false (fun e => h12 (congrArg Prod.fst e)),Bool.false_and]
     exact rfits_k _ k1 k2 s1 s2 w h12 h14 h6
end Go.Proofs.YtpkjlgdbaajpoaaGreat.R
namespace Go.Proofs.YtpkjlgdbaajpoaaGreat.R
open Go.RowKit Go.Proofs.YtpkjlgdbaajpoaaGreat.D Go.Proofs.YtpkjlgdbaajpoaaGreat.O Go.Proofs.YtpkjlgdbaajpoaaGreat.A
theorem cells_fix {W : World} {ok : Nat -> Prop} {b o n c i : Nat} {A : List Ty} {t : Ty} (h : RdX 2 (sP tyC) ok W (.slice (some ⟨b,o,none⟩) n c) A) (hi : A[i]? = some t) : CellsAt W b (o + i * 2) (tyC t) := by
 obtain ⟨b',o',e,-,-,-,-,hc⟩ := h.place (fun e => by rw [e] at hi; simp at hi)
 cases e
 exact sP_at (hc i t hi)
theorem grown_bel2 {W W' : World} {B : Nat} {v : Value} {A : List Ty} (ho : OwnX 2 26 (sP tyC) W B v A) (hg : W.grownBy W' v.ownBlock) (hB : B <= W.heap.size) : Below B W W' :=
 (Kpt.of_grown (S := v.ownBlock.toList) hg (fun g e => .inl (by rw [e]; simp))).below (fun x hx => (ho.lt x (by simpa using hx)).1) hB
theorem All_r {ok : Nat -> Prop} (ok1 ok2 : Nat -> Prop) (rb : Nat) (p : Option Addr) (cap : Nat) (A : List Cls) (va vb : Value) (a b : List Ty) (w : World) (h : RfW ok w rb p cap A) (hra : RdX 2 (sP tyC) ok1 w va a) (hrb : RdX 2 (sP tyC) ok2 w vb b) (hla : a.length <= 100000) :
  Calls Tryz.prog 37 #[.pointer (some ⟨rb,0,none⟩),va,vb] w fun e w' => ∃ v,e = .returned (.tuple #[v,.bool (decide (a.length = b.length))]) /\ OwnX 2 26 (sP tyC) w' w.heap.size v (if a.length = b.length then allT (A.map skOf) a b else []) /\ Below w.heap.size w w' := by
 obtain ⟨pa,ca,rfl,hca⟩ := hra.len
 obtain ⟨pb,cb,rfl,hcb⟩ := hrb.len
 by_cases hl : a.length = b.length
 ·rw [decide_eq_true hl,if_pos hl]
  obtain ⟨n,hn⟩ : ∃ n,a.length = n := ⟨_,rfl⟩
  rw [<- hl] at hrb hcb ⊢
  have HJL := hid ((allT_len (T := A.map skOf) hl).trans hn)
  have HLA := hid hn
  have HLB := hid (hl.symm.trans hn)
  have HRA := hid hra
  have HRB := hid hrb
  have HT := hid h
  rw [hn] at HRA HRB hla ⊢
  replace HLA : Hid (a.length = n /\ n <= 100000 /\ (allT (A.map skOf) a b).length = n) := hid ⟨HLA.out,hla,HJL.out⟩
  clear hca hcb hl hn hra hrb h
  obtain ⟨J,hJ⟩ : ∃ J,allT (A.map skOf) a b = J := ⟨_,rfl⟩
  have HJ := hid hJ
  rw [hJ] at HJL HLA ⊢
  clear hJ
  have HB : Hid (Below w.heap.size w w) := hid (Below.refl _ _)
  have HO : Hid (OwnX 2 26 (sP tyC) w w.heap.size (.slice none 0 0) (J.take 0)) := hid (OwnX.nil _ _ _ _ _)
  go_enter Tryz.func37,Tryz.ntmps37
  go_wp2_with fail
  go_loopw [8,9] (fun v8 v wr => ∃ (i : Nat) (pv : Option Addr) (nv cv : Nat),v8 = .slice pv nv cv /\ v = .int .i64 (i : Int) /\ i <= n /\ Hid (OwnX 2 26 (sP tyC) wr w.heap.size (.slice pv nv cv) (J.take i)) /\ Hid (Below w.heap.size w wr)) (fun _ x _ => n - (intOf x).toNat)
  case atStart => exact ⟨0,none,0,0,rfl,rfl,by omega,HO,HB⟩
  case round =>
   clear HO HB
   obtain ⟨i,pv,nv,cv,rfl,rfl,hin,HO,HB⟩ := hrel
   by_cases hlt : i < n
   ·have hlt' : (i : Int) < (n : Int) := by omega
    obtain ⟨x,hx⟩ : ∃ x,a[i]? = some x := ⟨_,List.getElem?_eq_getElem (by have := HLA.out.1; omega)⟩
    obtain ⟨y,hy⟩ : ∃ y,b[i]? = some y := ⟨_,List.getElem?_eq_getElem (by have := HLB.out; omega)⟩
    have hj := allT_at (T := A.map skOf) hx hy
    obtain ⟨q,hq⟩ : ∃ q,joinT (A.map skOf) x y = q := ⟨_,rfl⟩
    rw [HJ.out,hq] at hj
    have HQ := hid hq
    have HN : Hid (J.take i ++ [q] = J.take (i + 1)) := hid (by rw [List.take_add_one,hj]; rfl)
    obtain ⟨ba,oa,rfl,-⟩ := HRA.out.place (fun e => by rw [e] at hx; simp at hx)
    obtain ⟨bb,ob,rfl,-⟩ := HRB.out.place (fun e => by rw [e] at hy; simp at hy)
    have HXA := hid hx
    have HXB := hid hy
    clear hx hy hj hq
    go_upto_region 7 with fail
    replace HO : Hid (OwnX 2 26 (sP tyC) wr.drew _ _ _) := hid HO.out
    replace HB := hid HB.out.drew
    refine wp_region_held_drew (S := fun W => (W.cell? ⟨ba,oa + i * 2,none⟩ = some (.int .i64 x.1) /\ W.cell? ⟨ba,oa + i * 2 + 1,none⟩ = some (.string x.2)) /\ (W.cell? ⟨bb,ob + i * 2,none⟩ = some (.int .i64 y.1) /\ W.cell? ⟨bb,ob + i * 2 + 1,none⟩ = some (.string y.2))) (by kernel_rfl) ⟨(cells_fix (HRA.out.any (sP.grow _) HB.out) HXA.out).two,(cells_fix (HRB.out.any (sP.grow _) HB.out) HXB.out).two⟩ (fun hh => ?_)
    refine tkA 0 _ hh ?_
    try go_frame
    refine tkA 1 _ hh ?_
    try go_frame
    refine tkA 2 _ hh ?_
    try go_frame
    refine tkA 3 _ hh ?_
    try go_frame
    refine tkA 4 _ hh ?_
    try go_frame
    refine tkB 5 _ hh ?_
    try go_frame
    refine tkA 6 _ hh ?_
    try go_frame
    refine tkA 7 _ hh ?_
    try go_frame
    refine tkA 8 _ hh ?_
    try go_frame
    refine tkB 9 _ hh ?_
    try go_frame
    refine rdH [10] ?_
    refine AllReadyH.cons (o := _) (by simp only [List.getElem?_toArray,List.getElem?_cons_succ,List.getElem?_cons_zero]; rfl) (fun KX hKX => ?_) AllReadyH.nil
    clear hh
    go_simp
    refine (Join_r rb p cap A x y _ (HT.out.below HB.out)).mono ?_
    rw [HQ.out,tyv_pair]
    rintro e wa ⟨rfl,hbn⟩
    replace HO := hid (HO.out.kptS (.of_below hbn : Kpt [] _ _) (fun _ _ => by simp))
    replace HB := hid (HB.out.trans (hbn.mono HB.out.size))
    clear hbn
    refine hKX.out _ _ ⟨(cells_fix (HRA.out.any (sP.grow _) HB.out) HXA.out).two,(cells_fix (HRB.out.any (sP.grow _) HB.out) HXB.out).two⟩ (fun hh => ?_)
    clear hKX KX
    try go_frame
    refine rdH [11] ?_
    refine AllReadyH.cons (o := _) (by simp only [List.getElem?_toArray,List.getElem?_cons_succ,List.getElem?_cons_zero]; rfl) (fun KX hKX => ?_) AllReadyH.nil
    clear hh
    go_simp
    have hsrc := hid (rdX_lit1 (sz := 2) (c := tyC) (fun _ => rfl) wa q #[.int .i64 q.1,.string q.2] 26 rfl)
    have hbn := below_alR wa (.cells #[.int .i64 q.1,.string q.2] 26)
    replace HO := hid (HO.out.kptS (.of_below hbn : Kpt [] _ _) (fun _ _ => by simp))
    replace HB := hid (HB.out.trans (hbn.mono HB.out.size))
    clear hbn
    refine hKX.out _ _ ⟨(cells_fix (HRA.out.any (sP.grow _) HB.out) HXA.out).two,(cells_fix (HRB.out.any (sP.grow _) HB.out) HXB.out).two⟩ (fun hh => ?_)
    clear hKX KX
    try go_frame
    refine rdH [12] ?_
    refine AllReadyH.cons (o := _) (by simp only [List.getElem?_toArray,List.getElem?_cons_succ,List.getElem?_cons_zero]; rfl) (fun KX hKX => ?_) AllReadyH.nil
    clear hh
    refine step_appM inf_typ shape_typ (by rfl) _ _ (by rfl) w.heap.size _ (J.take i) (by rfl) HO.out _ 0 1 1 [q] (by rfl) hsrc.out (by have := HLA.out; rw [List.length_take]; simp; omega) HB.out.size ?_
    intro v6 wb ho6 hg6 hl6
    obtain ⟨pv2,nv2,cv2,hv6⟩ := ho6.slice
    subst hv6
    have hbn := grown_bel2 HO.out hg6 HB.out.size
    replace HO := hid ho6
    replace HB := hid (HB.out.trans hbn)
    clear hbn ho6 hg6 hl6 hsrc
    refine hKX.out _ _ ⟨(cells_fix (HRA.out.any (sP.grow _) HB.out) HXA.out).two,(cells_fix (HRB.out.any (sP.grow _) HB.out) HXB.out).two⟩ (fun hh => ?_)
    clear hKX KX
    try go_frame
    refine tkA 13 _ hh ?_
    try go_frame
    refine wpAnyH_done (by kernel_rfl) ?_ _
    clear hh
    rw [HN.out] at HO
    go_wp2_with fail
    go_roundw
    case rel => exact ⟨i + 1,pv2,nv2,cv2,rfl,by go_num,by omega,HO,HB⟩
    case measure => simp [intOf]; omega
   ·obtain rfl : i = n := by omega
    have hlt' : ¬ (i : Int) < (i : Int) := by omega
    go_wp2_with fail
    go_ret2
    refine ⟨_,rfl,?_,HB.out⟩
    have := HO.out
    rw [List.take_of_length_le (by have := HJL.out; omega)] at this
    exact this
 ·rw [decide_eq_false hl,if_neg hl]
  have hl' : ¬ (a.length : Int) = (b.length : Int) := by omega
  have hl2 : ((a.length : Int) != (b.length : Int)) = true := by simpa using hl'
  clear hra hrb h
  go_enter Tryz.func37,Tryz.ntmps37
  go_wp2_with fail
  go_ret2
  exact ⟨_,rfl,OwnX.nil _ _ _ _ _,Below.refl _ _⟩
end Go.Proofs.YtpkjlgdbaajpoaaGreat.R
namespace Go.Proofs.YtpkjlgdbaajpoaaGreat.R
open Go.RowKit Go.Proofs.YtpkjlgdbaajpoaaGreat.D Go.Proofs.YtpkjlgdbaajpoaaGreat.O Go.Proofs.YtpkjlgdbaajpoaaGreat.A
theorem same_g {ok1 ok2 : Nat -> Prop} (va vb : Value) (a b : List Ty) (w : World) (hra : RdX 2 (sP tyC) ok1 w va a) (hrb : RdX 2 (sP tyC) ok2 w vb b) (hla : a.length <= 100000) :
  Calls Tryz.prog 38 #[va,vb] w fun e w' => e = .returned (.bool (decide (a = b))) /\ Below w.heap.size w w' := by
 obtain ⟨pa,ca,rfl,hca⟩ := hra.len
 obtain ⟨pb,cb,rfl,hcb⟩ := hrb.len
 by_cases hl : a.length = b.length
 ·obtain ⟨n,hn⟩ : ∃ n,a.length = n := ⟨_,rfl⟩
  have HLA := hid hn
  have HLB := hid (hl.symm.trans hn)
  rw [<- hl] at hrb ⊢
  rw [hn] at hra hrb hla ⊢
  have HRA := hid hra
  have HRB := hid hrb
  clear hra hrb hca hcb hn hl
  have HB : Hid (Below w.heap.size w w) := hid (Below.refl _ _)
  have HE : Hid (a.take 0 = b.take 0) := hid rfl
  obtain ⟨R,hR⟩ : ∃ r,decide (a = b) = r := ⟨_,rfl⟩
  rw [hR]
  have HR := hid hR
  clear hR
  go_enter Tryz.func38,Tryz.ntmps38
  go_wp2_with fail
  go_loopw [5] (fun v wr => ∃ i : Nat,v = .int .i64 (i : Int) /\ i <= n /\ Hid (a.take i = b.take i) /\ Hid (Below w.heap.size w wr)) (fun x _ => n - (intOf x).toNat)
  case atStart => exact ⟨0,rfl,by omega,HE,HB⟩
  case round =>
   clear HB HE
   obtain ⟨i,rfl,hin,HE,HB⟩ := hrel
   by_cases hlt : i < n
   ·have hlt' : (i : Int) < (n : Int) := by omega
    obtain ⟨⟨xk,xs⟩,hx⟩ : ∃ x,a[i]? = some x := ⟨_,List.getElem?_eq_getElem (by have := HLA.out; omega)⟩
    obtain ⟨⟨yk,ys⟩,hy⟩ : ∃ x,b[i]? = some x := ⟨_,List.getElem?_eq_getElem (by have := HLB.out; omega)⟩
    obtain ⟨ba,oa,rfl,-⟩ := HRA.out.place (fun e => by rw [e] at hx; simp at hx)
    obtain ⟨bb,ob,rfl,-⟩ := HRB.out.place (fun e => by rw [e] at hy; simp at hy)
    replace HB := hid HB.out.drew
    have HCA := hid (cells_fix (HRA.out.any (sP.grow _) HB.out) hx)
    have HCC := hid (cells_fix (HRB.out.any (sP.grow _) HB.out) hy)
    by_cases hk : yk = xk
    ·subst hk
     by_cases hs : xs = ys
     ·subst hs
      have HN : Hid (a.take (i + 1) = b.take (i + 1)) := hid (by rw [List.take_add_one,List.take_add_one,HE.out,hx,hy])
      clear hx hy
      go_upto_region 6 with fail
      refine wp_region_held_drew (S := fun W => (W.cell? ⟨ba,oa + i * 2,none⟩ = some (.int .i64 yk) /\ W.cell? ⟨ba,oa + i * 2 + 1,none⟩ = some (.string xs)) /\ (W.cell? ⟨bb,ob + i * 2,none⟩ = some (.int .i64 yk) /\ W.cell? ⟨bb,ob + i * 2 + 1,none⟩ = some (.string xs))) (by kernel_rfl) ⟨HCA.out.two,HCC.out.two⟩ (fun hh => ?_)
      refine tkA 0 _ hh ?_
      try go_frame
      refine tkA 1 _ hh ?_
      try go_frame
      refine tkA 2 _ hh ?_
      try go_frame
      refine tkB 3 _ hh ?_
      try go_frame
      refine tkA 4 _ hh ?_
      try go_frame
      refine tkA 5 _ hh ?_
      try go_frame
      refine tkA 6 _ hh ?_
      try go_frame
      refine tkB 7 _ hh ?_
      try go_frame
      refine tkA 8 _ hh ?_
      try go_frame
      refine wpAnyH_done (by kernel_rfl) ?_ _
      clear hh HCA HCC
      go_wp2_with fail
      go_roundw
      case rel => exact ⟨i + 1,by go_num,by omega,HN,HB⟩
      case measure => simp [intOf]; omega
     ·have t12 := Go.Proofs.YtpkjlgdbaajpoaaGreat.txt_ne hs
      have t13 : ¬ xs.toList = ys.toList := fun h => by rw [h] at t12; simp at t12
      have hne : R = false := by
       rw [<- HR.out]
       exact decide_eq_false (fun e => by rw [e,hy] at hx; simp at hx; exact hs hx.symm)
      clear hx hy hs
      go_upto_region 6 with fail
      refine wp_region_held_drew (S := fun W => (W.cell? ⟨ba,oa + i * 2,none⟩ = some (.int .i64 yk) /\ W.cell? ⟨ba,oa + i * 2 + 1,none⟩ = some (.string xs)) /\ (W.cell? ⟨bb,ob + i * 2,none⟩ = some (.int .i64 yk) /\ W.cell? ⟨bb,ob + i * 2 + 1,none⟩ = some (.string ys))) (by kernel_rfl) ⟨HCA.out.two,HCC.out.two⟩ (fun hh => ?_)
      refine tkA 0 _ hh ?_
      try go_frame
      refine tkA 1 _ hh ?_
      try go_frame
      refine tkA 2 _ hh ?_
      try go_frame
      refine tkB 3 _ hh ?_
      try go_frame
      refine tkA 4 _ hh ?_
      try go_frame
      refine tkA 5 _ hh ?_
      try go_frame
      refine tkA 6 _ hh ?_
      try go_frame
      refine tkB 7 _ hh ?_
      try go_frame
      refine tkA 8 _ hh ?_
      try go_frame
      refine wpAnyH_done (by kernel_rfl) ?_ _
      clear hh HCA HCC
      go_wp2_with fail
      go_ret
      subst hne
      exact ⟨rfl,HB.out⟩
    ·have hk1 : ¬ xk = yk := fun e => hk e.symm
     have hk2 : (xk == yk) = false := by simpa using hk1
     have hne : R = false := by
      rw [<- HR.out]
      exact decide_eq_false (fun e => by rw [e,hy] at hx; simp at hx; exact hk hx.1)
     clear hx hy
     go_upto_region 6 with fail
     refine wp_region_held_drew (S := fun W => (W.cell? ⟨ba,oa + i * 2,none⟩ = some (.int .i64 xk) /\ W.cell? ⟨ba,oa + i * 2 + 1,none⟩ = some (.string xs)) /\ (W.cell? ⟨bb,ob + i * 2,none⟩ = some (.int .i64 yk) /\ W.cell? ⟨bb,ob + i * 2 + 1,none⟩ = some (.string ys))) (by kernel_rfl) ⟨HCA.out.two,HCC.out.two⟩ (fun hh => ?_)
     refine tkA 0 _ hh ?_
     try go_frame
     refine tkA 1 _ hh ?_
     try go_frame
     refine tkA 2 _ hh ?_
     try go_frame
     refine tkB 3 _ hh ?_
     try go_frame
     refine tkA 4 _ hh ?_
     try go_frame
     refine tkA 5 _ hh ?_
     try go_frame
     refine tkA 6 _ hh ?_
     try go_frame
     refine tkB 7 _ hh ?_
     try go_frame
     refine tkA 8 _ hh ?_
     try go_frame
     refine wpAnyH_done (by kernel_rfl) ?_ _
     clear hh HCA HCC
     go_wp2_with fail
     go_ret
     subst hne
     exact ⟨rfl,HB.out⟩
   ·obtain rfl : i = n := by omega
    have hlt' : ¬ (i : Int) < (i : Int) := by omega
    have hne : R = true := by
     rw [<- HR.out]
     have h := HE.out
     rw [List.take_of_length_le (by have := HLA.out; omega),List.take_of_length_le (by have := HLB.out; omega)] at h
     exact decide_eq_true h
    go_wp2_with fail
    go_ret
    subst hne
    exact ⟨rfl,HB.out⟩
 ·rw [decide_eq_false (fun e => hl (by rw [e]))]
  have hl' : ¬ (a.length : Int) = (b.length : Int) := by omega
  have hl2 : ((a.length : Int) != (b.length : Int)) = true := by simpa using hl'
  clear hra hrb
  go_enter Tryz.func38,Tryz.ntmps38
  go_wp2_with fail
  go_ret
  exact ⟨rfl,Below.refl _ _⟩
end Go.Proofs.YtpkjlgdbaajpoaaGreat.R
namespace Go.Proofs.YtpkjlgdbaajpoaaGreat.R
open Go.RowKit Go.Proofs.YtpkjlgdbaajpoaaGreat.D Go.Proofs.YtpkjlgdbaajpoaaGreat.O Go.Proofs.YtpkjlgdbaajpoaaGreat.A
theorem ref_12 (s : ByteArray) (w : World) : Calls Tryz.prog 42 #[.string s] w fun e w' => e = .returned (.agg #[.int .i64 4,.string s]) /\ Below w.heap.size w w' := by
 go_enter Tryz.func42,Tryz.ntmps42
 go_wp2_with fail
 refine bodyPost_ret (v := .agg #[.int .i64 4,.string s]) (by simp [*,results,Tryz.results42,go_sem]) rfl ?_
 exact ⟨rfl,below_alR _ _⟩
theorem kind_12 (k : Int) (w : World) : Calls Tryz.prog 44 #[.int .i64 k] w fun e w' => e = .returned (.agg #[.int .i64 k,.string ⟨#[]⟩]) /\ Below w.heap.size w w' := by
 go_enter Tryz.func44,Tryz.ntmps44
 go_wp2_with fail
 refine bodyPost_ret (v := .agg #[.int .i64 k,.string ⟨#[]⟩]) (by simp [*,results,Tryz.results44,go_sem]) rfl ?_
 exact ⟨rfl,below_alR _ _⟩
theorem Same_12 (va vb : Value) (a b : Fr) (w : World) (ha : RdF w va a) (hb : RdF w vb b) (hz : a.2.1.length <= 100000 /\ a.2.2.length <= 100000) :
  Calls Tryz.prog 14 #[va,vb] w fun e w' => e = .returned (.bool (decide (a = b))) /\ Below w.heap.size w w' := by
 obtain ⟨pl,cl,ps,cs,rfl,h1,h2⟩ := ha
 obtain ⟨pm,cm,pt,ct,rfl,h3,h4⟩ := hb
 obtain ⟨ra,la,sa⟩ := a
 obtain ⟨rb,lb,sb⟩ := b
 dsimp only at h1 h2 h3 h4 ⊢
 have hl := hz.1
 have hs := hz.2
 dsimp only at hl hs
 clear hz
 by_cases hr : ra = rb
 ·subst hr
  have er : (ra == ra) = true := by simp
  rw [show decide (((ra,la,sa) : Fr) = (ra,lb,sb)) = (decide (la = lb) && decide (sa = sb)) by by_cases e1 : la = lb <;> by_cases e2 : sa = sb <;> simp [e1,e2]]
  obtain ⟨wn,hwn⟩ : ∃ x,x = (w.alloc (.cells #[.bool ra,.slice pl la.length cl,.slice ps sa.length cs] 44)).alloc (.cells #[.bool ra,.slice pm lb.length cm,.slice pt sb.length ct] 44) := ⟨_,rfl⟩
  have HB : Hid (Below w.heap.size w wn) := hid (by rw [hwn]; exact jbl2 _ _ _)
  have HA : Hid (wn.heap[w.heap.size]? = some (.cells #[.bool ra,.slice pl la.length cl,.slice ps sa.length cs] 44 (0,0))) := hid (by rw [hwn,(below_alR _ _).block _ (by simp)]; exact heap_alloc_new _ _)
  have HC : Hid (wn.heap[w.heap.size + 1]? = some (.cells #[.bool ra,.slice pm lb.length cm,.slice pt sb.length ct] 44 (0,0))) := hid (by rw [hwn]; exact jal2 _ _ _ _)
  have H1 := hid (h1.any (sP.grow _) HB.out)
  have H2 := hid (h2.any (sP.grow _) HB.out)
  have H3 := hid (h3.any (sP.grow _) HB.out)
  have H4 := hid (h4.any (sP.grow _) HB.out)
  clear h1 h2 h3 h4
  go_enter Tryz.func14,Tryz.ntmps14
  go_upto_region 1 with fail
  rw [<- hwn]
  clear hwn
  obtain ⟨g,hg⟩ : ∃ z,w.heap.size = z := ⟨_,rfl⟩
  rw [hg] at HA HC ⊢
  clear hg
  obtain ⟨al,a0,a1,a2⟩ := c3_at HA.out
  obtain ⟨xl,c0,c1,c2⟩ := c3_at HC.out
  go_wp2_with fail
  clear al a0 a1 a2 xl c0 c1 c2
  refine (same_g _ _ la lb _ H1.out H3.out hl).mono ?_
  rintro e w1 ⟨rfl,hbn⟩
  replace HA := hid (blk_b HA.out hbn)
  replace HC := hid (blk_b HC.out hbn)
  replace H2 := hid (H2.out.any (sP.grow _) hbn)
  replace H4 := hid (H4.out.any (sP.grow _) hbn)
  replace HB := hid (HB.out.trans (hbn.mono HB.out.size))
  clear hbn H1 H3
  obtain ⟨al,a0,a1,a2⟩ := c3_at HA.out
  obtain ⟨xl,c0,c1,c2⟩ := c3_at HC.out
  cases hL : decide (la = lb) with
  | false =>
   have HLd := hid hL
   clear hL
   go_wp2_with fail
   go_ret
   exact ⟨by rw [HLd.out]; rfl,HB.out⟩
  | true =>
   have HLd := hid hL
   clear hL
   go_wp2_with fail
   clear al a0 a1 a2 xl c0 c1 c2
   refine (same_g _ _ sa sb _ H2.out H4.out hs).mono ?_
   rintro e w2 ⟨rfl,hbn⟩
   replace HB := hid (HB.out.trans (hbn.mono HB.out.size))
   clear hbn
   go_wp2_with fail
   go_ret
   exact ⟨by rw [HLd.out,Bool.true_and]; rfl,HB.out⟩
 ·have er : (ra == rb) = false := by simpa using hr
  rw [decide_eq_false (fun e => hr (congrArg Prod.fst e))]
  clear h1 h2 h3 h4
  go_enter Tryz.func14,Tryz.ntmps14
  go_wp2_with fail
  go_ret
  exact ⟨by simp [*],jbl2 _ _ _⟩
theorem Caught_12 (va : Value) (a : Fr) (c : ByteArray) (w : World) (ha : RdF w va a) :
  Calls Tryz.prog 17 #[va,.string c] w fun e w' => ∃ vg,e = .returned vg /\ RdF w' vg (caughtP a c) /\ Below w.heap.size w w' := by
 obtain ⟨pl,cl,ps,cs,rfl,h1,h2⟩ := ha
 obtain ⟨ra,la,sa⟩ := a
 dsimp only at h1 h2 ⊢
 obtain ⟨wn,hwn⟩ : ∃ x,x = (w.alloc (.cells #[.bool ra,.slice pl la.length cl,.slice ps sa.length cs] 44)).alloc (.cells #[.bool false,.slice none 0 0,.slice none 0 0] 44) := ⟨_,rfl⟩
 have HB : Hid (Below w.heap.size w wn) := hid (by rw [hwn]; exact jbl2 _ _ _)
 have HA : Hid (wn.heap[w.heap.size]? = some (.cells #[.bool ra,.slice pl la.length cl,.slice ps sa.length cs] 44 (0,0))) := hid (by rw [hwn,(below_alR _ _).block _ (by simp)]; exact heap_alloc_new _ _)
 have HR : Hid (wn.heap[w.heap.size + 1]? = some (.cells #[.bool false,.slice none 0 0,.slice none 0 0] 44 (0,0))) := hid (by rw [hwn]; exact jal2 _ _ _ _)
 have H1 := hid ((rd_own h1).any (sP.grow _) HB.out)
 clear h1 h2
 go_enter Tryz.func17,Tryz.ntmps17
 go_upto_region 1 with fail
 rw [<- hwn]
 clear hwn
 obtain ⟨g,hg⟩ : ∃ z,w.heap.size = z := ⟨_,rfl⟩
 rw [hg] at HA HR H1 ⊢
 have HG : Hid (w.heap.size = g) := hid hg
 clear hg
 replace HA : Hid (wn.drew.heap[g]? = _) := hid HA.out
 replace HR : Hid (wn.drew.heap[g + 1]? = _) := hid HR.out
 replace H1 : Hid (RdX 2 (sP tyC) _ wn.drew _ _) := hid H1.out
 replace HB := hid HB.out.drew
 refine wp_region_held_drew (S := fun W => g < W.heap.size /\ W.cell? ⟨g,0,none⟩ = some (.bool ra) /\ W.cell? ⟨g,1,none⟩ = some (.slice pl la.length cl) /\ W.cell? ⟨g,2,none⟩ = some (.slice ps sa.length cs)) (by kernel_rfl) (by first | exact c3_at HA.out | exact c3_kpt (c3_at HA.out) (set3_kpt _ _ _ _ _ _ _ _) (by omega)) (fun hh => ?_)
 refine tkA 0 _ hh ?_
 try go_frame
 refine tkB 1 _ hh ?_
 try go_frame
 refine tkA 2 _ hh ?_
 try go_frame
 refine tkB 3 _ hh ?_
 try go_frame
 refine tkA 4 _ hh ?_
 try go_frame
 refine rdH [5] ?_
 refine AllReadyH.cons (o := _) (by simp only [List.getElem?_toArray,List.getElem?_cons_succ,List.getElem?_cons_zero]; rfl) (fun KX hKX => ?_) AllReadyH.nil
 clear hh
 go_simp
 refine (ref_12 c _).mono ?_
 rintro e wa ⟨rfl,hbn⟩
 replace HA := hid (blk_b HA.out hbn)
 replace HR := hid (blk_b HR.out hbn)
 replace H1 := hid (H1.out.any (sP.grow _) hbn)
 replace HB := hid (HB.out.trans (hbn.mono HB.out.size))
 clear hbn
 refine hKX.out _ _ (by first | exact c3_at HA.out | exact c3_kpt (c3_at HA.out) (set3_kpt _ _ _ _ _ _ _ _) (by omega)) (fun hh => ?_)
 clear hKX KX
 try go_frame
 refine rdH [6] ?_
 refine AllReadyH.cons (o := _) (by simp only [List.getElem?_toArray,List.getElem?_cons_succ,List.getElem?_cons_zero]; rfl) (fun KX hKX => ?_) AllReadyH.nil
 clear hh
 go_simp
 have HRP := HR
 have hsrc := hid ((OwnX.lits (sz := 2) (T := 26) (c := tyC) (fun _ => rfl) wa [((4,c) : Ty)] #[.int .i64 4,.string c] rfl 1 rfl (by omega)).rd (sP.grow _))
 have hbn := below_alR wa (.cells #[.int .i64 4,.string c] 26)
 replace HA := hid (blk_b HA.out hbn)
 replace HR := hid (blk_b HR.out hbn)
 replace H1 := hid (H1.out.any (sP.grow _) hbn)
 replace HB := hid (HB.out.trans (hbn.mono HB.out.size))
 clear hbn
 obtain ⟨wb,hwb⟩ : ∃ z,z = wa.alloc (.cells #[.int .i64 4,.string c] 26) := ⟨_,rfl⟩
 obtain ⟨gs,hgs⟩ : ∃ z,wa.heap.size = z := ⟨_,rfl⟩
 rw [<- hwb] at hsrc HA HR H1 HB ⊢
 rw [hgs] at hsrc ⊢
 have HGS : Hid (g + 1 < gs) := hid (by have := (Array.getElem?_eq_some_iff.1 HRP.out).1; omega)
 clear hwb hgs HRP
 refine hKX.out _ _ (by first | exact c3_at HA.out | exact c3_kpt (c3_at HA.out) (set3_kpt _ _ _ _ _ _ _ _) (by omega)) (fun hh => ?_)
 clear hKX KX
 try go_frame
 refine tkA 7 _ hh ?_
 try go_frame
 refine rdH [8] ?_
 refine AllReadyH.cons (o := _) (by simp only [List.getElem?_toArray,List.getElem?_cons_succ,List.getElem?_cons_zero]; rfl) (fun KX hKX => ?_) AllReadyH.nil
 clear hh
 obtain ⟨rl,rc,rf⟩ := boxN HR.out
 have r0 := rc 0 _ rfl
 have r1 := rc 1 _ rfl
 have r2 := rc 2 _ rfl
 have u0 := rf 0
 have u1 := rf 1
 have u2 := rf 2
 simp only [Nat.zero_add] at r0 r1 r2
 clear rc rf
 go_simp
 refine hKX.out _ _ (by first | exact c3_at HA.out | exact c3_kpt (c3_at HA.out) (set3_kpt _ _ _ _ _ _ _ _) (by omega)) (fun hh => ?_)
 clear hKX KX
 try go_frame
 refine wpAnyH_done (by kernel_rfl) ?_ _
 clear hh
 go_wp2_with fail
 refine bodyPost_ret (v := .agg #[.bool ra,.slice pl la.length cl,.slice (some ⟨gs,0,none⟩) 1 1]) (by simp [*,results,Tryz.results17,go_sem]) rfl ?_
 have hk := set3_kpt wb (g + 1) 0 1 2 (.bool ra) (.slice pl la.length cl) (.slice (some ⟨gs,0,none⟩) 1 1)
 refine ⟨_,rfl,⟨pl,cl,some ⟨gs,0,none⟩,1,rfl,rd_ne H1.out (fun b hb => by omega) hk,rd_ne hsrc.out (fun b hb => by have := HGS.out; omega) hk⟩,HB.out.trans (hk.below (fun x hx => by simp at hx; have := HG.out; omega) HB.out.size)⟩
end Go.Proofs.YtpkjlgdbaajpoaaGreat.R
namespace Go.Proofs.YtpkjlgdbaajpoaaGreat.R
open Go.RowKit Go.Proofs.YtpkjlgdbaajpoaaGreat.D Go.Proofs.YtpkjlgdbaajpoaaGreat.O Go.Proofs.YtpkjlgdbaajpoaaGreat.A
theorem cell_b {W W' : World} {g k : Nat} {v : Value} (h : W.cell? ⟨g,k,none⟩ = some v) (hg : g < W.heap.size) (hb : Below W.heap.size W W') : W'.cell? ⟨g,k,none⟩ = some v := by
 rw [<- h]; simp only [World.cell?,hb.block g hg]
theorem cell_kp {W W' : World} {g k r : Nat} {v : Value} (h : W.cell? ⟨g,k,none⟩ = some v) (hg : g < W.heap.size) (hk : Kpt [r] W W') (hne : g ≠ r) : W'.cell? ⟨g,k,none⟩ = some v := by
 rw [<- h]; simp only [World.cell?,hk.2 g hg (by simpa using hne)]
theorem c3_kp {W W' : World} {g r : Nat} {u v x : Value} (h : g < W.heap.size /\ W.cell? ⟨g,0,none⟩ = some u /\ W.cell? ⟨g,1,none⟩ = some v /\ W.cell? ⟨g,2,none⟩ = some x) (hk : Kpt [r] W W') (hne : g ≠ r) : g < W'.heap.size /\ W'.cell? ⟨g,0,none⟩ = some u /\ W'.cell? ⟨g,1,none⟩ = some v /\ W'.cell? ⟨g,2,none⟩ = some x :=
 ⟨Nat.lt_of_lt_of_le h.1 hk.size,cell_kp h.2.1 h.1 hk hne,cell_kp h.2.2.1 h.1 hk hne,cell_kp h.2.2.2 h.1 hk hne⟩
def M9 (W : World) (g : Nat) : Prop := g < W.heap.size /\ W.cell? ⟨g,0,none⟩ = some (.string ⟨#[]⟩) /\ W.cell? ⟨g,1,none⟩ = some (.slice none 0 0) /\ W.cell? ⟨g,2,none⟩ = some (.int .i64 5) /\ W.cell? ⟨g,3,none⟩ = some (.string ⟨#[]⟩) /\ W.cell? ⟨g,4,none⟩ = some (.bool true) /\ W.cell? ⟨g,5,none⟩ = some (.bool false) /\ W.cell? ⟨g,6,none⟩ = some (.int .i64 0) /\ W.cell? ⟨g,7,none⟩ = some (.slice none 0 0) /\ W.cell? ⟨g,8,none⟩ = some (.slice none 0 0)
theorem m9_at {W : World} {g : Nat} (h : W.heap[g]? = some (.cells #[.string ⟨#[]⟩,.slice none 0 0,.int .i64 5,.string ⟨#[]⟩,.bool true,.bool false,.int .i64 0,.slice none 0 0,.slice none 0 0] 30 (0,0))) : M9 W g := by
 refine ⟨(Array.getElem?_eq_some_iff.1 h).1,?_,?_,?_,?_,?_,?_,?_,?_,?_⟩ <;> simp [World.cell?,h]
theorem m9_kp {W W' : World} {g r : Nat} (h : M9 W g) (hk : Kpt [r] W W') (hne : g ≠ r) : M9 W' g := by
 obtain ⟨h1,c0,c1,c2,c3,c4,c5,c6,c7,c8⟩ := h
 exact ⟨Nat.lt_of_lt_of_le h1 hk.size,cell_kp c0 h1 hk hne,cell_kp c1 h1 hk hne,cell_kp c2 h1 hk hne,cell_kp c3 h1 hk hne,cell_kp c4 h1 hk hne,cell_kp c5 h1 hk hne,cell_kp c6 h1 hk hne,cell_kp c7 h1 hk hne,cell_kp c8 h1 hk hne⟩
theorem heap3_set {W : World} {g : Nat} {a b c u v x : Value} {T : TypeId} (h : W.heap[g]? = some (.cells #[a,b,c] T (0,0))) : (((W.setCell ⟨g,0,none⟩ u).setCell ⟨g,1,none⟩ v).setCell ⟨g,2,none⟩ x).heap[g]? = some (.cells #[u,v,x] T (0,0)) := by
 have h1 := heap_setCell_same W g 0 _ _ u h
 have h2 := heap_setCell_same _ g 1 _ _ v h1
 exact heap_setCell_same _ g 2 _ _ x h2
theorem rdf_mk {W : World} {ps : Option Addr} {ns cs : Nat} (h : RdX 2 (sP tyC) anyB W (.slice ps ns cs) (List.replicate ns intT)) : RdF W (.agg #[.bool true,.slice none 0 0,.slice ps ns cs]) (true,[],List.replicate ns intT) :=
 ⟨none,0,ps,cs,by simp,RdX.nil _ _ _ _,by simpa using h⟩
theorem szf_int (n : Nat) (h : n <= 100) : SzF (true,[],List.replicate n intT) :=
 ⟨fun t ht => (by cases ht),fun t ht => by rw [(List.mem_replicate.1 ht).2]; exact Nat.zero_le _,by simp,by simp; omega⟩
end Go.Proofs.YtpkjlgdbaajpoaaGreat.R
