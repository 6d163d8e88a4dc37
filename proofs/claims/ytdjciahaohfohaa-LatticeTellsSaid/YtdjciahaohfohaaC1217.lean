/- Texts that the proof is made of, joined. No condition. -/
import Derived.Test.YtdjciahaohfohaaC1216
import Derived.Deep.DeepCutAuto
import Derived.Deep.CutBlock
import Derived.Test.YtdjciahaohfohaaC1210
import Derived.Test.YtdjciahaohfohaaC125
import Derived.Test.YtdjciahaohfohaaC12H
set_option linter.unusedVariables false
set_option linter.unusedSimpArgs false
set_option maxRecDepth 100000
set_option maxHeartbeats 16000000
namespace Go.Proofs.Ytdjciahaohfohaa.R
open Go.RowKit Go.Proofs.Ytdjciahaohfohaa.D Go.Proofs.Ytdjciahaohfohaa.O Go.Proofs.Ytdjciahaohfohaa.A
set_option maxHeartbeats 4000000 in
set_option maxRecDepth 100000 in
theorem rfits_r0 (vt : Value) (s1 : ByteArray) (w : World)  :
    Calls Try.prog 15 #[vt, .agg #[.int .i64 4, .string s1], .agg #[.int .i64 4, .string s1]] w fun e w' => e = .returned (.bool (true)) ∧ Below w.heap.size w w' := by
  obtain ⟨wn, hw4⟩ : ∃ x, x = ((w.alloc (.cells #[.int .i64 4, .string s1] 24)).alloc (.cells #[.int .i64 4, .string s1] 24)) := ⟨_, rfl⟩
  have HB : Hid (Below w.heap.size w wn) := Lib.hid (by rw [hw4]; exact (jbl2 _ _ _))
  have HA : Hid (wn.heap[w.heap.size]? = some (.cells #[.int .i64 4, .string s1] 24 (0, 0))) := Lib.hid (by rw [hw4, (below_alR _ _).block _ (by simp)]; exact heap_alloc_new _ _)
  have HC : Hid (wn.heap[w.heap.size + 1]? = some (.cells #[.int .i64 4, .string s1] 24 (0, 0))) := Lib.hid (by rw [hw4]; exact jal2 _ _ _ _)
  go_enter Try.func15, Try.ntmps15
  go_upto_region 1 with fail
  rw [← hw4]
  clear hw4
  obtain ⟨g, hg⟩ : ∃ z, w.heap.size = z := ⟨_, rfl⟩
  rw [hg] at HA HC ⊢
  have HG := Lib.hid hg
  have HBT := HB
  clear hg
  obtain ⟨al, a0, a1⟩ := c2_at HA.out
  obtain ⟨cl, c0, c1⟩ := c2_at HC.out
  go_wp2_with fail
  go_ret
  exact ⟨rfl, HB.out⟩
set_option maxHeartbeats 4000000 in
set_option maxRecDepth 100000 in
theorem rfits_r (rb : Nat) (s1 s2 : ByteArray) (ok : Nat → Prop) (p : Option Addr) (cap : Nat) (A : List Cls) (w : World) (hs : ¬ s1 = s2) (V : Bool) (hv : subT (A.map skOf) s1 s2 = V) (h : RfW ok w rb p cap A) (hifs : ∀ s, (ifsT (A.map skOf) s).length ≤ 1000) :
    Calls Try.prog 15 #[.pointer (some ⟨rb, 0, none⟩), .agg #[.int .i64 4, .string s1], .agg #[.int .i64 4, .string s2]] w fun e w' => e = .returned (.bool (V)) ∧ Below w.heap.size w w' := by
  have HT := Lib.hid h
  have HV := Lib.hid hv
  have HI := Lib.hid hifs
  clear h hv hifs
  obtain ⟨wn, hw4⟩ : ∃ x, x = ((w.alloc (.cells #[.int .i64 4, .string s1] 24)).alloc (.cells #[.int .i64 4, .string s2] 24)) := ⟨_, rfl⟩
  have HB : Hid (Below w.heap.size w wn) := Lib.hid (by rw [hw4]; exact (jbl2 _ _ _))
  have HA : Hid (wn.heap[w.heap.size]? = some (.cells #[.int .i64 4, .string s1] 24 (0, 0))) := Lib.hid (by rw [hw4, (below_alR _ _).block _ (by simp)]; exact heap_alloc_new _ _)
  have HC : Hid (wn.heap[w.heap.size + 1]? = some (.cells #[.int .i64 4, .string s2] 24 (0, 0))) := Lib.hid (by rw [hw4]; exact jal2 _ _ _ _)
  go_enter Try.func15, Try.ntmps15
  go_upto_region 1 with fail
  rw [← hw4]
  clear hw4
  obtain ⟨g, hg⟩ : ∃ z, w.heap.size = z := ⟨_, rfl⟩
  rw [hg] at HA HC ⊢
  have HG := Lib.hid hg
  have HBT := HB
  clear hg
  have t12 := Go.Proofs.Ytdjciahaohfohaa.txt_ne hs
  have t13 : ¬ s1.toList = s2.toList := fun h => by rw [h] at t12; simp at t12
  obtain ⟨al, a0, a1⟩ := c2_at HA.out
  obtain ⟨cl, c0, c1⟩ := c2_at HC.out
  go_wp2_with fail
  clear al a0 a1 cl c0 c1
  refine (Sub_r rb p cap A s1 s2 _ (HT.out.below HBT.out) HI.out).mono ?_
  rw [HV.out]
  rintro e wn ⟨rfl, hbn⟩
  replace HA := Lib.hid ((hbn.block _ (Array.getElem?_eq_some_iff.1 HA.out).1).trans HA.out)
  replace HC := Lib.hid ((hbn.block _ (Array.getElem?_eq_some_iff.1 HC.out).1).trans HC.out)
  replace HBT := Lib.hid (HBT.out.trans (hbn.mono HBT.out.size))
  replace HB := Lib.hid (HB.out.trans (hbn.mono HB.out.size))
  clear hbn
  obtain ⟨al, a0, a1⟩ := c2_at HA.out
  obtain ⟨cl, c0, c1⟩ := c2_at HC.out
  go_wp2_with fail
  go_ret
  exact ⟨rfl, HB.out⟩
set_option maxHeartbeats 4000000 in
set_option maxRecDepth 100000 in
theorem rfits_n3 (vt : Value) (s1 s2 : ByteArray) (w : World)  :
    Calls Try.prog 15 #[vt, .agg #[.int .i64 6, .string s1], .agg #[.int .i64 3, .string s2]] w fun e w' => e = .returned (.bool (true)) ∧ Below w.heap.size w w' := by
  obtain ⟨wn, hw4⟩ : ∃ x, x = ((w.alloc (.cells #[.int .i64 6, .string s1] 24)).alloc (.cells #[.int .i64 3, .string s2] 24)) := ⟨_, rfl⟩
  have HB : Hid (Below w.heap.size w wn) := Lib.hid (by rw [hw4]; exact (jbl2 _ _ _))
  have HA : Hid (wn.heap[w.heap.size]? = some (.cells #[.int .i64 6, .string s1] 24 (0, 0))) := Lib.hid (by rw [hw4, (below_alR _ _).block _ (by simp)]; exact heap_alloc_new _ _)
  have HC : Hid (wn.heap[w.heap.size + 1]? = some (.cells #[.int .i64 3, .string s2] 24 (0, 0))) := Lib.hid (by rw [hw4]; exact jal2 _ _ _ _)
  go_enter Try.func15, Try.ntmps15
  go_upto_region 1 with fail
  rw [← hw4]
  clear hw4
  obtain ⟨g, hg⟩ : ∃ z, w.heap.size = z := ⟨_, rfl⟩
  rw [hg] at HA HC ⊢
  have HG := Lib.hid hg
  have HBT := HB
  clear hg
  obtain ⟨al, a0, a1⟩ := c2_at HA.out
  obtain ⟨cl, c0, c1⟩ := c2_at HC.out
  go_wp2_with fail
  go_ret
  exact ⟨rfl, HB.out⟩
set_option maxHeartbeats 4000000 in
set_option maxRecDepth 100000 in
theorem rfits_n4 (vt : Value) (s1 s2 : ByteArray) (w : World)  :
    Calls Try.prog 15 #[vt, .agg #[.int .i64 6, .string s1], .agg #[.int .i64 4, .string s2]] w fun e w' => e = .returned (.bool (true)) ∧ Below w.heap.size w w' := by
  obtain ⟨wn, hw4⟩ : ∃ x, x = ((w.alloc (.cells #[.int .i64 6, .string s1] 24)).alloc (.cells #[.int .i64 4, .string s2] 24)) := ⟨_, rfl⟩
  have HB : Hid (Below w.heap.size w wn) := Lib.hid (by rw [hw4]; exact (jbl2 _ _ _))
  have HA : Hid (wn.heap[w.heap.size]? = some (.cells #[.int .i64 6, .string s1] 24 (0, 0))) := Lib.hid (by rw [hw4, (below_alR _ _).block _ (by simp)]; exact heap_alloc_new _ _)
  have HC : Hid (wn.heap[w.heap.size + 1]? = some (.cells #[.int .i64 4, .string s2] 24 (0, 0))) := Lib.hid (by rw [hw4]; exact jal2 _ _ _ _)
  go_enter Try.func15, Try.ntmps15
  go_upto_region 1 with fail
  rw [← hw4]
  clear hw4
  obtain ⟨g, hg⟩ : ∃ z, w.heap.size = z := ⟨_, rfl⟩
  rw [hg] at HA HC ⊢
  have HG := Lib.hid hg
  have HBT := HB
  clear hg
  obtain ⟨al, a0, a1⟩ := c2_at HA.out
  obtain ⟨cl, c0, c1⟩ := c2_at HC.out
  go_wp2_with fail
  go_ret
  exact ⟨rfl, HB.out⟩
set_option maxHeartbeats 4000000 in
set_option maxRecDepth 100000 in
theorem rfits_n6 (vt : Value) (s1 : ByteArray) (w : World)  :
    Calls Try.prog 15 #[vt, .agg #[.int .i64 6, .string s1], .agg #[.int .i64 6, .string s1]] w fun e w' => e = .returned (.bool (true)) ∧ Below w.heap.size w w' := by
  obtain ⟨wn, hw4⟩ : ∃ x, x = ((w.alloc (.cells #[.int .i64 6, .string s1] 24)).alloc (.cells #[.int .i64 6, .string s1] 24)) := ⟨_, rfl⟩
  have HB : Hid (Below w.heap.size w wn) := Lib.hid (by rw [hw4]; exact (jbl2 _ _ _))
  have HA : Hid (wn.heap[w.heap.size]? = some (.cells #[.int .i64 6, .string s1] 24 (0, 0))) := Lib.hid (by rw [hw4, (below_alR _ _).block _ (by simp)]; exact heap_alloc_new _ _)
  have HC : Hid (wn.heap[w.heap.size + 1]? = some (.cells #[.int .i64 6, .string s1] 24 (0, 0))) := Lib.hid (by rw [hw4]; exact jal2 _ _ _ _)
  go_enter Try.func15, Try.ntmps15
  go_upto_region 1 with fail
  rw [← hw4]
  clear hw4
  obtain ⟨g, hg⟩ : ∃ z, w.heap.size = z := ⟨_, rfl⟩
  rw [hg] at HA HC ⊢
  have HG := Lib.hid hg
  have HBT := HB
  clear hg
  obtain ⟨al, a0, a1⟩ := c2_at HA.out
  obtain ⟨cl, c0, c1⟩ := c2_at HC.out
  go_wp2_with fail
  go_ret
  exact ⟨rfl, HB.out⟩
set_option maxHeartbeats 4000000 in
set_option maxRecDepth 100000 in
theorem rfits_n6s (vt : Value) (s1 s2 : ByteArray) (w : World) (hs : ¬ s1 = s2) :
    Calls Try.prog 15 #[vt, .agg #[.int .i64 6, .string s1], .agg #[.int .i64 6, .string s2]] w fun e w' => e = .returned (.bool (false)) ∧ Below w.heap.size w w' := by
  obtain ⟨wn, hw4⟩ : ∃ x, x = ((w.alloc (.cells #[.int .i64 6, .string s1] 24)).alloc (.cells #[.int .i64 6, .string s2] 24)) := ⟨_, rfl⟩
  have HB : Hid (Below w.heap.size w wn) := Lib.hid (by rw [hw4]; exact (jbl2 _ _ _))
  have HA : Hid (wn.heap[w.heap.size]? = some (.cells #[.int .i64 6, .string s1] 24 (0, 0))) := Lib.hid (by rw [hw4, (below_alR _ _).block _ (by simp)]; exact heap_alloc_new _ _)
  have HC : Hid (wn.heap[w.heap.size + 1]? = some (.cells #[.int .i64 6, .string s2] 24 (0, 0))) := Lib.hid (by rw [hw4]; exact jal2 _ _ _ _)
  go_enter Try.func15, Try.ntmps15
  go_upto_region 1 with fail
  rw [← hw4]
  clear hw4
  obtain ⟨g, hg⟩ : ∃ z, w.heap.size = z := ⟨_, rfl⟩
  rw [hg] at HA HC ⊢
  have HG := Lib.hid hg
  have HBT := HB
  clear hg
  have t12 := Go.Proofs.Ytdjciahaohfohaa.txt_ne hs
  have t13 : ¬ s1.toList = s2.toList := fun h => by rw [h] at t12; simp at t12
  obtain ⟨al, a0, a1⟩ := c2_at HA.out
  obtain ⟨cl, c0, c1⟩ := c2_at HC.out
  go_wp2_with fail
  go_ret
  exact ⟨rfl, HB.out⟩
set_option maxHeartbeats 4000000 in
set_option maxRecDepth 100000 in
theorem rfits_n (vt : Value) (k2 : Int) (s1 s2 : ByteArray) (w : World) (n23 : ¬ k2 = 3) (n24 : ¬ k2 = 4) (n26 : ¬ k2 = 6) :
    Calls Try.prog 15 #[vt, .agg #[.int .i64 6, .string s1], .agg #[.int .i64 k2, .string s2]] w fun e w' => e = .returned (.bool (false)) ∧ Below w.heap.size w w' := by
  obtain ⟨wn, hw4⟩ : ∃ x, x = ((w.alloc (.cells #[.int .i64 6, .string s1] 24)).alloc (.cells #[.int .i64 k2, .string s2] 24)) := ⟨_, rfl⟩
  have HB : Hid (Below w.heap.size w wn) := Lib.hid (by rw [hw4]; exact (jbl2 _ _ _))
  have HA : Hid (wn.heap[w.heap.size]? = some (.cells #[.int .i64 6, .string s1] 24 (0, 0))) := Lib.hid (by rw [hw4, (below_alR _ _).block _ (by simp)]; exact heap_alloc_new _ _)
  have HC : Hid (wn.heap[w.heap.size + 1]? = some (.cells #[.int .i64 k2, .string s2] 24 (0, 0))) := Lib.hid (by rw [hw4]; exact jal2 _ _ _ _)
  go_enter Try.func15, Try.ntmps15
  go_upto_region 1 with fail
  rw [← hw4]
  clear hw4
  obtain ⟨g, hg⟩ : ∃ z, w.heap.size = z := ⟨_, rfl⟩
  rw [hg] at HA HC ⊢
  have HG := Lib.hid hg
  have HBT := HB
  clear hg
  have e26 : ¬ 6 = k2 := fun h => n26 h.symm
  have q23 : (k2 == 3) = false := by simpa using n23
  have q24 : (k2 == 4) = false := by simpa using n24
  have q26 : (k2 == 6) = false := by simpa using n26
  obtain ⟨al, a0, a1⟩ := c2_at HA.out
  obtain ⟨cl, c0, c1⟩ := c2_at HC.out
  go_wp2_with fail
  go_ret
  exact ⟨rfl, HB.out⟩
set_option maxHeartbeats 4000000 in
set_option maxRecDepth 100000 in
theorem rfits_4 (vt : Value) (k2 : Int) (s1 s2 : ByteArray) (w : World) (n24 : ¬ k2 = 4) :
    Calls Try.prog 15 #[vt, .agg #[.int .i64 4, .string s1], .agg #[.int .i64 k2, .string s2]] w fun e w' => e = .returned (.bool (false)) ∧ Below w.heap.size w w' := by
  obtain ⟨wn, hw4⟩ : ∃ x, x = ((w.alloc (.cells #[.int .i64 4, .string s1] 24)).alloc (.cells #[.int .i64 k2, .string s2] 24)) := ⟨_, rfl⟩
  have HB : Hid (Below w.heap.size w wn) := Lib.hid (by rw [hw4]; exact (jbl2 _ _ _))
  have HA : Hid (wn.heap[w.heap.size]? = some (.cells #[.int .i64 4, .string s1] 24 (0, 0))) := Lib.hid (by rw [hw4, (below_alR _ _).block _ (by simp)]; exact heap_alloc_new _ _)
  have HC : Hid (wn.heap[w.heap.size + 1]? = some (.cells #[.int .i64 k2, .string s2] 24 (0, 0))) := Lib.hid (by rw [hw4]; exact jal2 _ _ _ _)
  go_enter Try.func15, Try.ntmps15
  go_upto_region 1 with fail
  rw [← hw4]
  clear hw4
  obtain ⟨g, hg⟩ : ∃ z, w.heap.size = z := ⟨_, rfl⟩
  rw [hg] at HA HC ⊢
  have HG := Lib.hid hg
  have HBT := HB
  clear hg
  have e24 : ¬ 4 = k2 := fun h => n24 h.symm
  have q24 : (k2 == 4) = false := by simpa using n24
  obtain ⟨al, a0, a1⟩ := c2_at HA.out
  obtain ⟨cl, c0, c1⟩ := c2_at HC.out
  go_wp2_with fail
  go_ret
  exact ⟨rfl, HB.out⟩
set_option maxHeartbeats 4000000 in
set_option maxRecDepth 100000 in
theorem rfits_a7 (vt : Value) (s1 : ByteArray) (w : World)  :
    Calls Try.prog 15 #[vt, .agg #[.int .i64 7, .string s1], .agg #[.int .i64 7, .string s1]] w fun e w' => e = .returned (.bool (false)) ∧ Below w.heap.size w w' := by
  obtain ⟨wn, hw4⟩ : ∃ x, x = ((w.alloc (.cells #[.int .i64 7, .string s1] 24)).alloc (.cells #[.int .i64 7, .string s1] 24)) := ⟨_, rfl⟩
  have HB : Hid (Below w.heap.size w wn) := Lib.hid (by rw [hw4]; exact (jbl2 _ _ _))
  have HA : Hid (wn.heap[w.heap.size]? = some (.cells #[.int .i64 7, .string s1] 24 (0, 0))) := Lib.hid (by rw [hw4, (below_alR _ _).block _ (by simp)]; exact heap_alloc_new _ _)
  have HC : Hid (wn.heap[w.heap.size + 1]? = some (.cells #[.int .i64 7, .string s1] 24 (0, 0))) := Lib.hid (by rw [hw4]; exact jal2 _ _ _ _)
  go_enter Try.func15, Try.ntmps15
  go_upto_region 1 with fail
  rw [← hw4]
  clear hw4
  obtain ⟨g, hg⟩ : ∃ z, w.heap.size = z := ⟨_, rfl⟩
  rw [hg] at HA HC ⊢
  have HG := Lib.hid hg
  have HBT := HB
  clear hg
  obtain ⟨al, a0, a1⟩ := c2_at HA.out
  obtain ⟨cl, c0, c1⟩ := c2_at HC.out
  go_wp2_with fail
  go_ret
  exact ⟨rfl, HB.out⟩
set_option maxHeartbeats 4000000 in
set_option maxRecDepth 100000 in
theorem rfits_a (vt : Value) (k1 : Int) (s1 : ByteArray) (w : World) (n14 : ¬ k1 = 4) (n16 : ¬ k1 = 6) (n17 : ¬ k1 = 7) :
    Calls Try.prog 15 #[vt, .agg #[.int .i64 k1, .string s1], .agg #[.int .i64 k1, .string s1]] w fun e w' => e = .returned (.bool (true)) ∧ Below w.heap.size w w' := by
  obtain ⟨wn, hw4⟩ : ∃ x, x = ((w.alloc (.cells #[.int .i64 k1, .string s1] 24)).alloc (.cells #[.int .i64 k1, .string s1] 24)) := ⟨_, rfl⟩
  have HB : Hid (Below w.heap.size w wn) := Lib.hid (by rw [hw4]; exact (jbl2 _ _ _))
  have HA : Hid (wn.heap[w.heap.size]? = some (.cells #[.int .i64 k1, .string s1] 24 (0, 0))) := Lib.hid (by rw [hw4, (below_alR _ _).block _ (by simp)]; exact heap_alloc_new _ _)
  have HC : Hid (wn.heap[w.heap.size + 1]? = some (.cells #[.int .i64 k1, .string s1] 24 (0, 0))) := Lib.hid (by rw [hw4]; exact jal2 _ _ _ _)
  go_enter Try.func15, Try.ntmps15
  go_upto_region 1 with fail
  rw [← hw4]
  clear hw4
  obtain ⟨g, hg⟩ : ∃ z, w.heap.size = z := ⟨_, rfl⟩
  rw [hg] at HA HC ⊢
  have HG := Lib.hid hg
  have HBT := HB
  clear hg
  have q14 : (k1 == 4) = false := by simpa using n14
  have q16 : (k1 == 6) = false := by simpa using n16
  have q17 : (k1 != 7) = true := by simpa using n17
  obtain ⟨al, a0, a1⟩ := c2_at HA.out
  obtain ⟨cl, c0, c1⟩ := c2_at HC.out
  go_wp2_with fail
  go_ret
  exact ⟨rfl, HB.out⟩
set_option maxHeartbeats 4000000 in
set_option maxRecDepth 100000 in
theorem rfits_s (vt : Value) (k1 : Int) (s1 s2 : ByteArray) (w : World) (hs : ¬ s1 = s2) (n14 : ¬ k1 = 4) (n16 : ¬ k1 = 6) :
    Calls Try.prog 15 #[vt, .agg #[.int .i64 k1, .string s1], .agg #[.int .i64 k1, .string s2]] w fun e w' => e = .returned (.bool (false)) ∧ Below w.heap.size w w' := by
  obtain ⟨wn, hw4⟩ : ∃ x, x = ((w.alloc (.cells #[.int .i64 k1, .string s1] 24)).alloc (.cells #[.int .i64 k1, .string s2] 24)) := ⟨_, rfl⟩
  have HB : Hid (Below w.heap.size w wn) := Lib.hid (by rw [hw4]; exact (jbl2 _ _ _))
  have HA : Hid (wn.heap[w.heap.size]? = some (.cells #[.int .i64 k1, .string s1] 24 (0, 0))) := Lib.hid (by rw [hw4, (below_alR _ _).block _ (by simp)]; exact heap_alloc_new _ _)
  have HC : Hid (wn.heap[w.heap.size + 1]? = some (.cells #[.int .i64 k1, .string s2] 24 (0, 0))) := Lib.hid (by rw [hw4]; exact jal2 _ _ _ _)
  go_enter Try.func15, Try.ntmps15
  go_upto_region 1 with fail
  rw [← hw4]
  clear hw4
  obtain ⟨g, hg⟩ : ∃ z, w.heap.size = z := ⟨_, rfl⟩
  rw [hg] at HA HC ⊢
  have HG := Lib.hid hg
  have HBT := HB
  clear hg
  have t12 := Go.Proofs.Ytdjciahaohfohaa.txt_ne hs
  have t13 : ¬ s1.toList = s2.toList := fun h => by rw [h] at t12; simp at t12
  have q14 : (k1 == 4) = false := by simpa using n14
  have q16 : (k1 == 6) = false := by simpa using n16
  obtain ⟨al, a0, a1⟩ := c2_at HA.out
  obtain ⟨cl, c0, c1⟩ := c2_at HC.out
  go_wp2_with fail
  go_ret
  exact ⟨rfl, HB.out⟩
set_option maxHeartbeats 4000000 in
set_option maxRecDepth 100000 in
theorem rfits_k (vt : Value) (k1 k2 : Int) (s1 s2 : ByteArray) (w : World) (h12 : ¬ k1 = k2) (n14 : ¬ k1 = 4) (n16 : ¬ k1 = 6) :
    Calls Try.prog 15 #[vt, .agg #[.int .i64 k1, .string s1], .agg #[.int .i64 k2, .string s2]] w fun e w' => e = .returned (.bool (false)) ∧ Below w.heap.size w w' := by
  obtain ⟨wn, hw4⟩ : ∃ x, x = ((w.alloc (.cells #[.int .i64 k1, .string s1] 24)).alloc (.cells #[.int .i64 k2, .string s2] 24)) := ⟨_, rfl⟩
  have HB : Hid (Below w.heap.size w wn) := Lib.hid (by rw [hw4]; exact (jbl2 _ _ _))
  have HA : Hid (wn.heap[w.heap.size]? = some (.cells #[.int .i64 k1, .string s1] 24 (0, 0))) := Lib.hid (by rw [hw4, (below_alR _ _).block _ (by simp)]; exact heap_alloc_new _ _)
  have HC : Hid (wn.heap[w.heap.size + 1]? = some (.cells #[.int .i64 k2, .string s2] 24 (0, 0))) := Lib.hid (by rw [hw4]; exact jal2 _ _ _ _)
  go_enter Try.func15, Try.ntmps15
  go_upto_region 1 with fail
  rw [← hw4]
  clear hw4
  obtain ⟨g, hg⟩ : ∃ z, w.heap.size = z := ⟨_, rfl⟩
  rw [hg] at HA HC ⊢
  have HG := Lib.hid hg
  have HBT := HB
  clear hg
  have e12 : (k1 == k2) = false := by simpa using h12
  have q14 : (k1 == 4) = false := by simpa using n14
  have q16 : (k1 == 6) = false := by simpa using n16
  obtain ⟨al, a0, a1⟩ := c2_at HA.out
  obtain ⟨cl, c0, c1⟩ := c2_at HC.out
  go_wp2_with fail
  go_ret
  exact ⟨rfl, HB.out⟩
theorem Fits_r {ok : Nat → Prop} (rb : Nat) (p : Option Addr) (cap : Nat) (A : List Cls) (a b : Ty) (w : World) (h : RfW ok w rb p cap A) (hifs : ∀ s, (ifsT (A.map skOf) s).length ≤ 1000) :
    Calls Try.prog 15 #[.pointer (some ⟨rb, 0, none⟩), tyv a, tyv b] w fun e w' => e = .returned (.bool (fitsT (A.map skOf) a b)) ∧ Below w.heap.size w w' := by
  obtain ⟨k1, s1⟩ := a
  obtain ⟨k2, s2⟩ := b
  show Calls _ _ #[.pointer (some ⟨rb, 0, none⟩), .agg #[.int .i64 k1, .string s1], .agg #[.int .i64 k2, .string s2]] w _
  by_cases h4 : k1 = 4 ∧ k2 = 4
  · obtain ⟨rfl, rfl⟩ := h4
    by_cases hs : s1 = s2
    · subst hs
      rw [show fitsT (A.map skOf) (4, s1) (4, s1) = true from by unfold fitsT; rw [if_pos ⟨rfl, rfl⟩]; simp]
      exact rfits_r0 _ s1 w
    · rw [show fitsT (A.map skOf) (4, s1) (4, s2) = subT (A.map skOf) s1 s2 from by
        unfold fitsT
        rw [if_pos ⟨rfl, rfl⟩, decide_eq_false (fun e => hs (congrArg Prod.snd e))]
        rfl]
      exact rfits_r rb s1 s2 ok p cap A w hs _ rfl h hifs
  · by_cases h6 : k1 = 6
    · subst h6
      by_cases h3 : k2 = 3 ∨ k2 = 4
      · rw [show fitsT (A.map skOf) (6, s1) (k2, s2) = true from by unfold fitsT; rw [if_neg h4, if_pos ⟨rfl, h3⟩]]
        rcases h3 with rfl | rfl
        · exact rfits_n3 _ s1 s2 w
        · exact rfits_n4 _ s1 s2 w
      · rw [show fitsT (A.map skOf) (6, s1) (k2, s2) = decide (((6, s1) : Ty) = (k2, s2)) from by unfold fitsT; rw [if_neg h4, if_neg (fun k => h3 k.2)]; simp]
        by_cases h26 : k2 = 6
        · subst h26
          by_cases hs : s1 = s2
          · subst hs
            rw [decide_eq_true rfl]
            exact rfits_n6 _ s1 w
          · rw [decide_eq_false (fun e => hs (congrArg Prod.snd e))]
            exact rfits_n6s _ s1 s2 w hs
        · rw [decide_eq_false (fun e => h26 (congrArg Prod.fst e).symm)]
          exact rfits_n _ k2 s1 s2 w (fun e => h3 (.inl e)) (fun e => h3 (.inr e)) h26
    · rw [show fitsT (A.map skOf) (k1, s1) (k2, s2) = (decide (((k1, s1) : Ty) = (k2, s2)) && decide (k1 ≠ 7)) from by unfold fitsT; rw [if_neg h4, if_neg (fun k => h6 k.1)]]
      by_cases h14 : k1 = 4
      · subst h14
        have n24 : ¬ k2 = 4 := fun e => h4 ⟨rfl, e⟩
        rw [decide_eq_false (fun e => n24 (congrArg Prod.fst e).symm), Bool.false_and]
        exact rfits_4 _ k2 s1 s2 w n24
      · by_cases h12 : k1 = k2
        · subst h12
          by_cases hs : s1 = s2
          · subst hs
            by_cases h7 : k1 = 7
            · subst h7
              rw [show (decide (((7, s1) : Ty) = (7, s1)) && decide ((7 : Int) ≠ 7)) = false from by simp]
              exact rfits_a7 _ s1 w
            · rw [show (decide (((k1, s1) : Ty) = (k1, s1)) && decide (k1 ≠ 7)) = true from by simp [h7]]
              exact rfits_a _ k1 s1 w h14 h6 h7
          · rw [decide_eq_false (fun e => hs (congrArg Prod.snd e)), Bool.false_and]
            exact rfits_s _ k1 s1 s2 w hs h14 h6
        · rw [decide_eq_false (fun e => h12 (congrArg Prod.fst e)), Bool.false_and]
          exact rfits_k _ k1 k2 s1 s2 w h12 h14 h6
theorem Refers_r (a : Ty) (w : World) :
    Calls Try.prog 17 #[tyv a] w fun e w' => e = .returned (.bool (refB a)) ∧ Below w.heap.size w w' := by
  obtain ⟨k, s⟩ := a
  show Calls _ _ #[.agg #[.int .i64 k, .string s]] w _
  by_cases h3 : k = 3
  · subst h3
    go_enter Try.func17, Try.ntmps17
    go_wp2_with fail
    go_ret
    exact ⟨rfl, below_alR _ _⟩
  · have e3 : (k == 3) = false := by simpa using h3
    by_cases h4 : k = 4
    · subst h4
      go_enter Try.func17, Try.ntmps17
      go_wp2_with fail
      go_ret
      exact ⟨rfl, below_alR _ _⟩
    · have e4 : (k == 4) = false := by simpa using h4
      by_cases h6 : k = 6
      · subst h6
        go_enter Try.func17, Try.ntmps17
        go_wp2_with fail
        go_ret
        exact ⟨rfl, below_alR _ _⟩
      · have e6 : (k == 6) = false := by simpa using h6
        have e7 : refB (k, s) = false := by unfold refB; simp [h3, h4, h6]
        rw [e7]
        go_enter Try.func17, Try.ntmps17
        go_wp2_with fail
        go_ret
        exact ⟨rfl, below_alR _ _⟩
end Go.Proofs.Ytdjciahaohfohaa.R
namespace Go.Proofs.Ytdjciahaohfohaa.R
open Go.RowKit Go.Proofs.Ytdjciahaohfohaa.D Go.Proofs.Ytdjciahaohfohaa.O Go.Proofs.Ytdjciahaohfohaa.A
theorem cells_fix {W : World} {ok : Nat → Prop} {b o n c i : Nat} {A : List Ty} {t : Ty} (h : RdX 2 (sP tyC) ok W (.slice (some ⟨b, o, none⟩) n c) A) (hi : A[i]? = some t) : CellsAt W b (o + i * 2) (tyC t) := by
  obtain ⟨b', o', e, -, -, -, -, hc⟩ := h.place (fun e => by rw [e] at hi; simp at hi)
  cases e
  exact sP_at (hc i t hi)
theorem grown_bel2 {W W' : World} {B : Nat} {v : Value} {A : List Ty} (ho : OwnX 2 24 (sP tyC) W B v A) (hg : W.grownBy W' v.ownBlock) (hB : B ≤ W.heap.size) : Below B W W' :=
  (Kpt.of_grown (S := v.ownBlock.toList) hg (fun g e => .inl (by rw [e]; simp))).below (fun x hx => (ho.lt x (by simpa using hx)).1) hB
set_option maxHeartbeats 4000000 in
set_option maxRecDepth 100000 in
theorem All_r {ok : Nat → Prop} (ok1 ok2 : Nat → Prop) (rb : Nat) (p : Option Addr) (cap : Nat) (A : List Cls) (va vb : Value) (a b : List Ty) (w : World) (h : RfW ok w rb p cap A) (hra : RdX 2 (sP tyC) ok1 w va a) (hrb : RdX 2 (sP tyC) ok2 w vb b) (hla : a.length ≤ 100000) :
    Calls Try.prog 19 #[.pointer (some ⟨rb, 0, none⟩), va, vb] w fun e w' => ∃ v, e = .returned (.tuple #[v, .bool (decide (a.length = b.length))]) ∧ OwnX 2 24 (sP tyC) w' w.heap.size v (if a.length = b.length then allT (A.map skOf) a b else []) ∧ Below w.heap.size w w' := by
  obtain ⟨pa, ca, rfl, hca⟩ := hra.len
  obtain ⟨pb, cb, rfl, hcb⟩ := hrb.len
  by_cases hl : a.length = b.length
  · rw [decide_eq_true hl, if_pos hl]
    obtain ⟨n, hn⟩ : ∃ n, a.length = n := ⟨_, rfl⟩
    rw [← hl] at hrb hcb ⊢
    have HJL := Lib.hid ((allT_len (T := A.map skOf) hl).trans hn)
    have HLA := Lib.hid hn
    have HLB := Lib.hid (hl.symm.trans hn)
    have HRA := Lib.hid hra
    have HRB := Lib.hid hrb
    have HT := Lib.hid h
    rw [hn] at HRA HRB hla ⊢
    replace HLA : Hid (a.length = n ∧ n ≤ 100000 ∧ (allT (A.map skOf) a b).length = n) := Lib.hid ⟨HLA.out, hla, HJL.out⟩
    clear hca hcb hl hn hra hrb h
    obtain ⟨J, hJ⟩ : ∃ J, allT (A.map skOf) a b = J := ⟨_, rfl⟩
    have HJ := Lib.hid hJ
    rw [hJ] at HJL HLA ⊢
    clear hJ
    have HB : Hid (Below w.heap.size w w) := Lib.hid (Below.refl _ _)
    have HO : Hid (OwnX 2 24 (sP tyC) w w.heap.size (.slice none 0 0) (J.take 0)) := Lib.hid (OwnX.nil _ _ _ _ _)
    go_enter Try.func19, Try.ntmps19
    go_wp2_with fail
    go_loopw [8, 9] (fun v8 v wr => ∃ (i : Nat) (pv : Option Addr) (nv cv : Nat), v8 = .slice pv nv cv ∧ v = .int .i64 (i : Int) ∧ i ≤ n ∧ Hid (OwnX 2 24 (sP tyC) wr w.heap.size (.slice pv nv cv) (J.take i)) ∧ Hid (Below w.heap.size w wr)) (fun _ x _ => n - (intOf x).toNat)
    case atStart => exact ⟨0, none, 0, 0, rfl, rfl, by omega, HO, HB⟩
    case round =>
      clear HO HB
      obtain ⟨i, pv, nv, cv, rfl, rfl, hin, HO, HB⟩ := hrel
      by_cases hlt : i < n
      · have hlt' : (i : Int) < (n : Int) := by omega
        obtain ⟨x, hx⟩ : ∃ x, a[i]? = some x := ⟨_, List.getElem?_eq_getElem (by have := HLA.out.1; omega)⟩
        obtain ⟨y, hy⟩ : ∃ y, b[i]? = some y := ⟨_, List.getElem?_eq_getElem (by have := HLB.out; omega)⟩
        have hj := allT_at (T := A.map skOf) hx hy
        obtain ⟨q, hq⟩ : ∃ q, joinT (A.map skOf) x y = q := ⟨_, rfl⟩
        rw [HJ.out, hq] at hj
        have HQ := Lib.hid hq
        have HN : Hid (J.take i ++ [q] = J.take (i + 1)) := Lib.hid (by rw [List.take_add_one, hj]; rfl)
        obtain ⟨ba, oa, rfl, -⟩ := HRA.out.place (fun e => by rw [e] at hx; simp at hx)
        obtain ⟨bb, ob, rfl, -⟩ := HRB.out.place (fun e => by rw [e] at hy; simp at hy)
        have HXA := Lib.hid hx
        have HXB := Lib.hid hy
        clear hx hy hj hq
        go_upto_region 7 with fail
        replace HO : Hid (OwnX 2 24 (sP tyC) wr.drew _ _ _) := Lib.hid HO.out
        replace HB := Lib.hid HB.out.drew
        refine wp_region_held_drew (S := fun W => (W.cell? ⟨ba, oa + i * 2, none⟩ = some (.int .i64 x.1) ∧ W.cell? ⟨ba, oa + i * 2 + 1, none⟩ = some (.string x.2)) ∧ (W.cell? ⟨bb, ob + i * 2, none⟩ = some (.int .i64 y.1) ∧ W.cell? ⟨bb, ob + i * 2 + 1, none⟩ = some (.string y.2))) (by kernel_rfl) ⟨(cells_fix (HRA.out.any (sP.grow _) HB.out) HXA.out).two, (cells_fix (HRB.out.any (sP.grow _) HB.out) HXB.out).two⟩ (fun hHeld => ?_)
        refine wpAnyH_take (i := 0) (oi := _) (v := ?_) (by simp only [List.getElem?_toArray, List.getElem?_cons_zero]; rfl) (by kernel_rfl) (by kernel_rfl) (by kernel_rfl) (by intro _ _ _ h; exact h) (Or.inl ⟨by rfl, fun W hSw => ?_⟩) hHeld ?_
        rotate_left 1
        · (clear hSw; first | (go_simp; done) | (go_simp; with_reducible rfl))
        try go_frame
        refine wpAnyH_take (i := 1) (oi := _) (v := ?_) (by simp only [List.getElem?_toArray, List.getElem?_cons_succ, List.getElem?_cons_zero]; rfl) (by kernel_rfl) (by kernel_rfl) (by kernel_rfl) (by intro _ _ _ h; exact h) (Or.inl ⟨by rfl, fun W hSw => ?_⟩) hHeld ?_
        rotate_left 1
        · (clear hSw; first | (go_simp; done) | (go_simp; with_reducible rfl))
        try go_frame
        refine wpAnyH_take (i := 2) (oi := _) (v := ?_) (by simp only [List.getElem?_toArray, List.getElem?_cons_succ, List.getElem?_cons_zero]; rfl) (by kernel_rfl) (by kernel_rfl) (by kernel_rfl) (by intro _ _ _ h; exact h) (Or.inl ⟨by rfl, fun W hSw => ?_⟩) hHeld ?_
        rotate_left 1
        · (clear hSw; first | (go_simp; done) | (go_simp; with_reducible rfl))
        try go_frame
        refine wpAnyH_take (i := 3) (oi := _) (v := ?_) (by simp only [List.getElem?_toArray, List.getElem?_cons_succ, List.getElem?_cons_zero]; rfl) (by kernel_rfl) (by kernel_rfl) (by kernel_rfl) (by intro _ _ _ h; exact h) (Or.inl ⟨by rfl, fun W hSw => ?_⟩) hHeld ?_
        rotate_left 1
        · (clear hSw; first | (go_simp; done) | (go_simp; with_reducible rfl))
        try go_frame
        refine wpAnyH_take (i := 4) (oi := _) (v := ?_) (by simp only [List.getElem?_toArray, List.getElem?_cons_succ, List.getElem?_cons_zero]; rfl) (by kernel_rfl) (by kernel_rfl) (by kernel_rfl) (by intro _ _ _ h; exact h) (Or.inl ⟨by rfl, fun W hSw => ?_⟩) hHeld ?_
        rotate_left 1
        · (clear hSw; first | (go_simp; done) | (go_simp; with_reducible rfl))
        try go_frame
        refine wpAnyH_take (i := 5) (oi := _) (v := ?_) (by simp only [List.getElem?_toArray, List.getElem?_cons_succ, List.getElem?_cons_zero]; rfl) (by kernel_rfl) (by kernel_rfl) (by kernel_rfl) (by intro _ _ _ h; exact h) (Or.inl ⟨by rfl, fun W hSw => ?_⟩) hHeld ?_
        rotate_left 1
        · (try dsimp only at hSw); first | (go_simp; done) | (go_simp; with_reducible rfl)
        try go_frame
        refine wpAnyH_take (i := 6) (oi := _) (v := ?_) (by simp only [List.getElem?_toArray, List.getElem?_cons_succ, List.getElem?_cons_zero]; rfl) (by kernel_rfl) (by kernel_rfl) (by kernel_rfl) (by intro _ _ _ h; exact h) (Or.inl ⟨by rfl, fun W hSw => ?_⟩) hHeld ?_
        rotate_left 1
        · (clear hSw; first | (go_simp; done) | (go_simp; with_reducible rfl))
        try go_frame
        refine wpAnyH_take (i := 7) (oi := _) (v := ?_) (by simp only [List.getElem?_toArray, List.getElem?_cons_succ, List.getElem?_cons_zero]; rfl) (by kernel_rfl) (by kernel_rfl) (by kernel_rfl) (by intro _ _ _ h; exact h) (Or.inl ⟨by rfl, fun W hSw => ?_⟩) hHeld ?_
        rotate_left 1
        · (clear hSw; first | (go_simp; done) | (go_simp; with_reducible rfl))
        try go_frame
        refine wpAnyH_take (i := 8) (oi := _) (v := ?_) (by simp only [List.getElem?_toArray, List.getElem?_cons_succ, List.getElem?_cons_zero]; rfl) (by kernel_rfl) (by kernel_rfl) (by kernel_rfl) (by intro _ _ _ h; exact h) (Or.inl ⟨by rfl, fun W hSw => ?_⟩) hHeld ?_
        rotate_left 1
        · (clear hSw; first | (go_simp; done) | (go_simp; with_reducible rfl))
        try go_frame
        refine wpAnyH_take (i := 9) (oi := _) (v := ?_) (by simp only [List.getElem?_toArray, List.getElem?_cons_succ, List.getElem?_cons_zero]; rfl) (by kernel_rfl) (by kernel_rfl) (by kernel_rfl) (by intro _ _ _ h; exact h) (Or.inl ⟨by rfl, fun W hSw => ?_⟩) hHeld ?_
        rotate_left 1
        · (try dsimp only at hSw); first | (go_simp; done) | (go_simp; with_reducible rfl)
        try go_frame
        refine wpAnyH_ready (rs := [10]) (by kernel_rfl) (by simp) ?_
        refine AllReadyH.cons (o := _) (by simp only [List.getElem?_toArray, List.getElem?_cons_succ, List.getElem?_cons_zero]; rfl) (fun KX hKX => ?_) AllReadyH.nil
        clear hHeld
        go_simp
        refine (Join_r rb p cap A x y _ (HT.out.below HB.out)).mono ?_
        rw [HQ.out, tyv_pair]
        rintro e wa ⟨rfl, hbn⟩
        replace HO := Lib.hid (HO.out.kptS (.of_below hbn : Kpt [] _ _) (fun _ _ => by simp))
        replace HB := Lib.hid (HB.out.trans (hbn.mono HB.out.size))
        clear hbn
        refine hKX.out _ _ ⟨(cells_fix (HRA.out.any (sP.grow _) HB.out) HXA.out).two, (cells_fix (HRB.out.any (sP.grow _) HB.out) HXB.out).two⟩ (fun hHeld => ?_)
        clear hKX KX
        try go_frame
        refine wpAnyH_ready (rs := [11]) (by kernel_rfl) (by simp) ?_
        refine AllReadyH.cons (o := _) (by simp only [List.getElem?_toArray, List.getElem?_cons_succ, List.getElem?_cons_zero]; rfl) (fun KX hKX => ?_) AllReadyH.nil
        clear hHeld
        go_simp
        have hsrc := Lib.hid (rdX_lit1 (sz := 2) (c := tyC) (fun _ => rfl) wa q #[.int .i64 q.1, .string q.2] 24 rfl)
        have hbn := below_alR wa (.cells #[.int .i64 q.1, .string q.2] 24)
        replace HO := Lib.hid (HO.out.kptS (.of_below hbn : Kpt [] _ _) (fun _ _ => by simp))
        replace HB := Lib.hid (HB.out.trans (hbn.mono HB.out.size))
        clear hbn
        refine hKX.out _ _ ⟨(cells_fix (HRA.out.any (sP.grow _) HB.out) HXA.out).two, (cells_fix (HRB.out.any (sP.grow _) HB.out) HXB.out).two⟩ (fun hHeld => ?_)
        clear hKX KX
        try go_frame
        refine wpAnyH_ready (rs := [12]) (by kernel_rfl) (by simp) ?_
        refine AllReadyH.cons (o := _) (by simp only [List.getElem?_toArray, List.getElem?_cons_succ, List.getElem?_cons_zero]; rfl) (fun KX hKX => ?_) AllReadyH.nil
        clear hHeld
        refine step_appM inf_typ shape_typ (by rfl) _ _ (by rfl) w.heap.size _ (J.take i) (by rfl) HO.out _ 0 1 1 [q] (by rfl) hsrc.out (by have := HLA.out; rw [List.length_take]; simp; omega) HB.out.size ?_
        intro v6 wb ho6 hg6 hl6
        obtain ⟨pv2, nv2, cv2, hv6⟩ := ho6.slice
        subst hv6
        have hbn := grown_bel2 HO.out hg6 HB.out.size
        replace HO := Lib.hid ho6
        replace HB := Lib.hid (HB.out.trans hbn)
        clear hbn ho6 hg6 hl6 hsrc
        refine hKX.out _ _ ⟨(cells_fix (HRA.out.any (sP.grow _) HB.out) HXA.out).two, (cells_fix (HRB.out.any (sP.grow _) HB.out) HXB.out).two⟩ (fun hHeld => ?_)
        clear hKX KX
        try go_frame
        refine wpAnyH_take (i := 13) (oi := _) (v := ?_) (by simp only [List.getElem?_toArray, List.getElem?_cons_succ, List.getElem?_cons_zero]; rfl) (by kernel_rfl) (by kernel_rfl) (by kernel_rfl) (by intro _ _ _ h; exact h) (Or.inl ⟨by rfl, fun W hSw => ?_⟩) hHeld ?_
        rotate_left 1
        · (clear hSw; first | (go_simp; done) | (go_simp; with_reducible rfl))
        try go_frame
        refine wpAnyH_done (by kernel_rfl) ?_ _
        clear hHeld
        rw [HN.out] at HO
        go_wp2_with fail
        go_roundw
        case rel => exact ⟨i + 1, pv2, nv2, cv2, rfl, by go_num, by omega, HO, HB⟩
        case measure => simp [intOf]; omega
      · obtain rfl : i = n := by omega
        have hlt' : ¬ (i : Int) < (i : Int) := by omega
        go_wp2_with fail
        go_ret2
        refine ⟨_, rfl, ?_, HB.out⟩
        have := HO.out
        rw [List.take_of_length_le (by have := HJL.out; omega)] at this
        exact this
  · rw [decide_eq_false hl, if_neg hl]
    have hl' : ¬ (a.length : Int) = (b.length : Int) := by omega
    have hl2 : ((a.length : Int) != (b.length : Int)) = true := by simpa using hl'
    clear hra hrb h
    go_enter Try.func19, Try.ntmps19
    go_wp2_with fail
    go_ret2
    exact ⟨_, rfl, OwnX.nil _ _ _ _ _, Below.refl _ _⟩
set_option maxHeartbeats 4000000 in
set_option maxRecDepth 100000 in
theorem same_r {ok1 ok2 : Nat → Prop} (va vb : Value) (a : List Ty) (w : World) (hra : RdX 2 (sP tyC) ok1 w va a) (hrb : RdX 2 (sP tyC) ok2 w vb a) (hla : a.length ≤ 100000) :
    Calls Try.prog 20 #[va, vb] w fun e w' => e = .returned (.bool true) ∧ Below w.heap.size w w' := by
  obtain ⟨pa, ca, rfl, hca⟩ := hra.len
  obtain ⟨pb, cb, rfl, hcb⟩ := hrb.len
  obtain ⟨n, hn⟩ : ∃ n, a.length = n := ⟨_, rfl⟩
  have HLA := Lib.hid hn
  rw [hn] at hra hrb hla ⊢
  have HRA := Lib.hid hra
  have HRB := Lib.hid hrb
  clear hra hrb hca hcb hn
  have HB : Hid (Below w.heap.size w w) := Lib.hid (Below.refl _ _)
  go_enter Try.func20, Try.ntmps20
  go_wp2_with fail
  go_loopw [5] (fun v wr => ∃ i : Nat, v = .int .i64 (i : Int) ∧ i ≤ n ∧ Hid (Below w.heap.size w wr)) (fun x _ => n - (intOf x).toNat)
  case atStart => exact ⟨0, rfl, by omega, HB⟩
  case round =>
    clear HB
    obtain ⟨i, rfl, hin, HB⟩ := hrel
    by_cases hlt : i < n
    · have hlt' : (i : Int) < (n : Int) := by omega
      obtain ⟨x, hx⟩ : ∃ x, a[i]? = some x := ⟨_, List.getElem?_eq_getElem (by have := HLA.out; omega)⟩
      obtain ⟨ba, oa, rfl, -⟩ := HRA.out.place (fun e => by rw [e] at hx; simp at hx)
      obtain ⟨bb, ob, rfl, -⟩ := HRB.out.place (fun e => by rw [e] at hx; simp at hx)
      replace HB := Lib.hid HB.out.drew
      have HCA := Lib.hid (cells_fix (HRA.out.any (sP.grow _) HB.out) hx)
      have HCC := Lib.hid (cells_fix (HRB.out.any (sP.grow _) HB.out) hx)
      clear hx
      go_upto_region 6 with fail
      refine wp_region_held_drew (S := fun W => (W.cell? ⟨ba, oa + i * 2, none⟩ = some (.int .i64 x.1) ∧ W.cell? ⟨ba, oa + i * 2 + 1, none⟩ = some (.string x.2)) ∧ (W.cell? ⟨bb, ob + i * 2, none⟩ = some (.int .i64 x.1) ∧ W.cell? ⟨bb, ob + i * 2 + 1, none⟩ = some (.string x.2))) (by kernel_rfl) ⟨HCA.out.two, HCC.out.two⟩ (fun hHeld => ?_)
      refine wpAnyH_take (i := 0) (oi := _) (v := ?_) (by simp only [List.getElem?_toArray, List.getElem?_cons_zero]; rfl) (by kernel_rfl) (by kernel_rfl) (by kernel_rfl) (by intro _ _ _ h; exact h) (Or.inl ⟨by rfl, fun W hSw => ?_⟩) hHeld ?_
      rotate_left 1
      · (clear hSw; first | (go_simp; done) | (go_simp; with_reducible rfl))
      try go_frame
      refine wpAnyH_take (i := 1) (oi := _) (v := ?_) (by simp only [List.getElem?_toArray, List.getElem?_cons_succ, List.getElem?_cons_zero]; rfl) (by kernel_rfl) (by kernel_rfl) (by kernel_rfl) (by intro _ _ _ h; exact h) (Or.inl ⟨by rfl, fun W hSw => ?_⟩) hHeld ?_
      rotate_left 1
      · (clear hSw; first | (go_simp; done) | (go_simp; with_reducible rfl))
      try go_frame
      refine wpAnyH_take (i := 2) (oi := _) (v := ?_) (by simp only [List.getElem?_toArray, List.getElem?_cons_succ, List.getElem?_cons_zero]; rfl) (by kernel_rfl) (by kernel_rfl) (by kernel_rfl) (by intro _ _ _ h; exact h) (Or.inl ⟨by rfl, fun W hSw => ?_⟩) hHeld ?_
      rotate_left 1
      · (clear hSw; first | (go_simp; done) | (go_simp; with_reducible rfl))
      try go_frame
      refine wpAnyH_take (i := 3) (oi := _) (v := ?_) (by simp only [List.getElem?_toArray, List.getElem?_cons_succ, List.getElem?_cons_zero]; rfl) (by kernel_rfl) (by kernel_rfl) (by kernel_rfl) (by intro _ _ _ h; exact h) (Or.inl ⟨by rfl, fun W hSw => ?_⟩) hHeld ?_
      rotate_left 1
      · (try dsimp only at hSw); first | (go_simp; done) | (go_simp; with_reducible rfl)
      try go_frame
      refine wpAnyH_take (i := 4) (oi := _) (v := ?_) (by simp only [List.getElem?_toArray, List.getElem?_cons_succ, List.getElem?_cons_zero]; rfl) (by kernel_rfl) (by kernel_rfl) (by kernel_rfl) (by intro _ _ _ h; exact h) (Or.inl ⟨by rfl, fun W hSw => ?_⟩) hHeld ?_
      rotate_left 1
      · (clear hSw; first | (go_simp; done) | (go_simp; with_reducible rfl))
      try go_frame
      refine wpAnyH_take (i := 5) (oi := _) (v := ?_) (by simp only [List.getElem?_toArray, List.getElem?_cons_succ, List.getElem?_cons_zero]; rfl) (by kernel_rfl) (by kernel_rfl) (by kernel_rfl) (by intro _ _ _ h; exact h) (Or.inl ⟨by rfl, fun W hSw => ?_⟩) hHeld ?_
      rotate_left 1
      · (clear hSw; first | (go_simp; done) | (go_simp; with_reducible rfl))
      try go_frame
      refine wpAnyH_take (i := 6) (oi := _) (v := ?_) (by simp only [List.getElem?_toArray, List.getElem?_cons_succ, List.getElem?_cons_zero]; rfl) (by kernel_rfl) (by kernel_rfl) (by kernel_rfl) (by intro _ _ _ h; exact h) (Or.inl ⟨by rfl, fun W hSw => ?_⟩) hHeld ?_
      rotate_left 1
      · (clear hSw; first | (go_simp; done) | (go_simp; with_reducible rfl))
      try go_frame
      refine wpAnyH_take (i := 7) (oi := _) (v := ?_) (by simp only [List.getElem?_toArray, List.getElem?_cons_succ, List.getElem?_cons_zero]; rfl) (by kernel_rfl) (by kernel_rfl) (by kernel_rfl) (by intro _ _ _ h; exact h) (Or.inl ⟨by rfl, fun W hSw => ?_⟩) hHeld ?_
      rotate_left 1
      · (try dsimp only at hSw); first | (go_simp; done) | (go_simp; with_reducible rfl)
      try go_frame
      refine wpAnyH_take (i := 8) (oi := _) (v := ?_) (by simp only [List.getElem?_toArray, List.getElem?_cons_succ, List.getElem?_cons_zero]; rfl) (by kernel_rfl) (by kernel_rfl) (by kernel_rfl) (by intro _ _ _ h; exact h) (Or.inl ⟨by rfl, fun W hSw => ?_⟩) hHeld ?_
      rotate_left 1
      · (clear hSw; first | (go_simp; done) | (go_simp; with_reducible rfl))
      try go_frame
      refine wpAnyH_done (by kernel_rfl) ?_ _
      clear hHeld HCA HCC
      go_wp2_with fail
      go_roundw
      case rel => exact ⟨i + 1, by go_num, by omega, HB⟩
      case measure => simp [intOf]; omega
    · obtain rfl : i = n := by omega
      have hlt' : ¬ (i : Int) < (i : Int) := by omega
      go_wp2_with fail
      go_ret
      exact ⟨rfl, HB.out⟩
end Go.Proofs.Ytdjciahaohfohaa.R
