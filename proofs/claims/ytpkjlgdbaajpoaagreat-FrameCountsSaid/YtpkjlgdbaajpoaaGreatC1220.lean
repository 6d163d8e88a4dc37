/- Texts that the proof is made of, joined. No condition. -/
import Derived.Test.YtpkjlgdbaajpoaaGreatC129
import Derived.Test.YtpkjlgdbaajpoaaGreatC1219
import Derived.Deep.DeepCutAuto
import Derived.Deep.CutBlock
import Derived.Test.YtpkjlgdbaajpoaaGreatC12H
set_option linter.unusedVariables false
set_option linter.unusedSimpArgs false
set_option maxRecDepth 100000
set_option maxHeartbeats 16000000
namespace Go.Proofs.YtpkjlgdbaajpoaaGreat.R
open Go.RowKit Go.Proofs.YtpkjlgdbaajpoaaGreat.D Go.Proofs.YtpkjlgdbaajpoaaGreat.O Go.Proofs.YtpkjlgdbaajpoaaGreat.A
theorem rjoin_a (vt : Value) (k1 : Int) (s1 : ByteArray) (w : World)  :
  Calls Tryz.prog 65 #[vt,.agg #[.int .i64 k1,.string s1],.agg #[.int .i64 k1,.string s1]] w fun e w' => e = .returned (tyv (k1,s1)) /\ Below w.heap.size w w' := by
 obtain ⟨w4,hw4⟩ : ∃ x,x = (((w.alloc (.cells #[.int .i64 k1,.string s1] 26)).alloc (.cells #[.int .i64 k1,.string s1] 26)).alloc (.cells #[.int .i64 0,.string ⟨#[]⟩] 26)).alloc (.cells #[.int .i64 6,.string ⟨#[]⟩] 26) := ⟨_,rfl⟩
 have hb3 := (jbl2 w (.cells #[.int .i64 k1,.string s1] 26) (.cells #[.int .i64 k1,.string s1] 26))
 have HB : Hid (Below w.heap.size w w4) := hid (by rw [hw4]; exact hb3.trans ((jbl2 _ _ _).mono hb3.size))
 have HA : Hid (w4.heap[w.heap.size]? = some (.cells #[.int .i64 k1,.string s1] 26 (0,0))) := hid (by rw [hw4,(jbl2 _ _ _).block _ (by simp; omega),(below_alR _ _).block _ (by simp)]; exact heap_alloc_new _ _)
 have HC : Hid (w4.heap[w.heap.size + 1]? = some (.cells #[.int .i64 k1,.string s1] 26 (0,0))) := hid (by rw [hw4,(jbl2 _ _ _).block _ (by simp)]; exact jal2 _ _ _ _)
 have HR : Hid (w4.heap[w.heap.size + 2]? = some (.cells #[.int .i64 0,.string ⟨#[]⟩] 26 (0,0))) := hid (by rw [hw4,(below_alR _ _).block _ (by simp)]; have h := heap_alloc_new ((w.alloc (.cells #[.int .i64 k1,.string s1] 26)).alloc (.cells #[.int .i64 k1,.string s1] 26)) (.cells #[.int .i64 0,.string ⟨#[]⟩] 26); simp only [World.size_alloc] at h; exact h)
 have HN : Hid (w4.heap[w.heap.size + 3]? = some (.cells #[.int .i64 6,.string ⟨#[]⟩] 26 (0,0))) := hid (by rw [hw4]; have h := heap_alloc_new (((w.alloc (.cells #[.int .i64 k1,.string s1] 26)).alloc (.cells #[.int .i64 k1,.string s1] 26)).alloc (.cells #[.int .i64 0,.string ⟨#[]⟩] 26)) (.cells #[.int .i64 6,.string ⟨#[]⟩] 26); simp only [World.size_alloc] at h; exact h)
 clear hb3
 go_enter Tryz.func65,Tryz.ntmps65
 go_upto_region 2 with fail
 rw [<- hw4]
 clear hw4
 obtain ⟨g,hg⟩ : ∃ z,w.heap.size = z := ⟨_,rfl⟩
 rw [hg] at HA HC HR HN ⊢
 have HG := hid hg
 have HBT := HB
 clear hg
 obtain ⟨al,a0,a1⟩ := c2_at HA.out
 obtain ⟨cl,c0,c1⟩ := c2_at HC.out
 obtain ⟨nl,n0,n1⟩ := c2_at HN.out
 obtain ⟨rl,rc,rf⟩ := boxN HR.out
 have r0 := rc 0 _ rfl
 have r1 := rc 1 _ rfl
 have z0 := rf 0
 have z1 := rf 1
 simp only [Nat.zero_add] at r0 r1
 clear rc rf
 go_wp2_with fail
 refine bodyPost_ret (v := tyv (k1,s1)) (by simp [*,results,Tryz.results65,go_sem,tyv]) rfl ?_
 exact ⟨rfl,HB.out.trans (set2_bl (by have := HG.out; omega) HB.out.size)⟩
theorem rjoin_n13 (vt : Value) (s2 : ByteArray) (w : World)  :
  Calls Tryz.prog 65 #[vt,.agg #[.int .i64 6,.string ⟨#[]⟩],.agg #[.int .i64 3,.string s2]] w fun e w' => e = .returned (tyv (3,s2)) /\ Below w.heap.size w w' := by
 obtain ⟨w4,hw4⟩ : ∃ x,x = (((w.alloc (.cells #[.int .i64 6,.string ⟨#[]⟩] 26)).alloc (.cells #[.int .i64 3,.string s2] 26)).alloc (.cells #[.int .i64 0,.string ⟨#[]⟩] 26)).alloc (.cells #[.int .i64 6,.string ⟨#[]⟩] 26) := ⟨_,rfl⟩
 have hb3 := (jbl2 w (.cells #[.int .i64 6,.string ⟨#[]⟩] 26) (.cells #[.int .i64 3,.string s2] 26))
 have HB : Hid (Below w.heap.size w w4) := hid (by rw [hw4]; exact hb3.trans ((jbl2 _ _ _).mono hb3.size))
 have HA : Hid (w4.heap[w.heap.size]? = some (.cells #[.int .i64 6,.string ⟨#[]⟩] 26 (0,0))) := hid (by rw [hw4,(jbl2 _ _ _).block _ (by simp; omega),(below_alR _ _).block _ (by simp)]; exact heap_alloc_new _ _)
 have HC : Hid (w4.heap[w.heap.size + 1]? = some (.cells #[.int .i64 3,.string s2] 26 (0,0))) := hid (by rw [hw4,(jbl2 _ _ _).block _ (by simp)]; exact jal2 _ _ _ _)
 have HR : Hid (w4.heap[w.heap.size + 2]? = some (.cells #[.int .i64 0,.string ⟨#[]⟩] 26 (0,0))) := hid (by rw [hw4,(below_alR _ _).block _ (by simp)]; have h := heap_alloc_new ((w.alloc (.cells #[.int .i64 6,.string ⟨#[]⟩] 26)).alloc (.cells #[.int .i64 3,.string s2] 26)) (.cells #[.int .i64 0,.string ⟨#[]⟩] 26); simp only [World.size_alloc] at h; exact h)
 have HN : Hid (w4.heap[w.heap.size + 3]? = some (.cells #[.int .i64 6,.string ⟨#[]⟩] 26 (0,0))) := hid (by rw [hw4]; have h := heap_alloc_new (((w.alloc (.cells #[.int .i64 6,.string ⟨#[]⟩] 26)).alloc (.cells #[.int .i64 3,.string s2] 26)).alloc (.cells #[.int .i64 0,.string ⟨#[]⟩] 26)) (.cells #[.int .i64 6,.string ⟨#[]⟩] 26); simp only [World.size_alloc] at h; exact h)
 clear hb3
 go_enter Tryz.func65,Tryz.ntmps65
 go_upto_region 2 with fail
 rw [<- hw4]
 clear hw4
 obtain ⟨g,hg⟩ : ∃ z,w.heap.size = z := ⟨_,rfl⟩
 rw [hg] at HA HC HR HN ⊢
 have HG := hid hg
 have HBT := HB
 clear hg
 obtain ⟨al,a0,a1⟩ := c2_at HA.out
 obtain ⟨cl,c0,c1⟩ := c2_at HC.out
 obtain ⟨nl,n0,n1⟩ := c2_at HN.out
 obtain ⟨rl,rc,rf⟩ := boxN HR.out
 have r0 := rc 0 _ rfl
 have r1 := rc 1 _ rfl
 have z0 := rf 0
 have z1 := rf 1
 simp only [Nat.zero_add] at r0 r1
 clear rc rf
 go_wp2_with fail
 refine bodyPost_ret (v := tyv (3,s2)) (by simp [*,results,Tryz.results65,go_sem,tyv]) rfl ?_
 exact ⟨rfl,HB.out.trans (set2_bl (by have := HG.out; omega) HB.out.size)⟩
theorem rjoin_n14 (vt : Value) (s2 : ByteArray) (w : World)  :
  Calls Tryz.prog 65 #[vt,.agg #[.int .i64 6,.string ⟨#[]⟩],.agg #[.int .i64 4,.string s2]] w fun e w' => e = .returned (tyv (4,s2)) /\ Below w.heap.size w w' := by
 obtain ⟨w4,hw4⟩ : ∃ x,x = (((w.alloc (.cells #[.int .i64 6,.string ⟨#[]⟩] 26)).alloc (.cells #[.int .i64 4,.string s2] 26)).alloc (.cells #[.int .i64 0,.string ⟨#[]⟩] 26)).alloc (.cells #[.int .i64 6,.string ⟨#[]⟩] 26) := ⟨_,rfl⟩
 have hb3 := (jbl2 w (.cells #[.int .i64 6,.string ⟨#[]⟩] 26) (.cells #[.int .i64 4,.string s2] 26))
 have HB : Hid (Below w.heap.size w w4) := hid (by rw [hw4]; exact hb3.trans ((jbl2 _ _ _).mono hb3.size))
 have HA : Hid (w4.heap[w.heap.size]? = some (.cells #[.int .i64 6,.string ⟨#[]⟩] 26 (0,0))) := hid (by rw [hw4,(jbl2 _ _ _).block _ (by simp; omega),(below_alR _ _).block _ (by simp)]; exact heap_alloc_new _ _)
 have HC : Hid (w4.heap[w.heap.size + 1]? = some (.cells #[.int .i64 4,.string s2] 26 (0,0))) := hid (by rw [hw4,(jbl2 _ _ _).block _ (by simp)]; exact jal2 _ _ _ _)
 have HR : Hid (w4.heap[w.heap.size + 2]? = some (.cells #[.int .i64 0,.string ⟨#[]⟩] 26 (0,0))) := hid (by rw [hw4,(below_alR _ _).block _ (by simp)]; have h := heap_alloc_new ((w.alloc (.cells #[.int .i64 6,.string ⟨#[]⟩] 26)).alloc (.cells #[.int .i64 4,.string s2] 26)) (.cells #[.int .i64 0,.string ⟨#[]⟩] 26); simp only [World.size_alloc] at h; exact h)
 have HN : Hid (w4.heap[w.heap.size + 3]? = some (.cells #[.int .i64 6,.string ⟨#[]⟩] 26 (0,0))) := hid (by rw [hw4]; have h := heap_alloc_new (((w.alloc (.cells #[.int .i64 6,.string ⟨#[]⟩] 26)).alloc (.cells #[.int .i64 4,.string s2] 26)).alloc (.cells #[.int .i64 0,.string ⟨#[]⟩] 26)) (.cells #[.int .i64 6,.string ⟨#[]⟩] 26); simp only [World.size_alloc] at h; exact h)
 clear hb3
 go_enter Tryz.func65,Tryz.ntmps65
 go_upto_region 2 with fail
 rw [<- hw4]
 clear hw4
 obtain ⟨g,hg⟩ : ∃ z,w.heap.size = z := ⟨_,rfl⟩
 rw [hg] at HA HC HR HN ⊢
 have HG := hid hg
 have HBT := HB
 clear hg
 obtain ⟨al,a0,a1⟩ := c2_at HA.out
 obtain ⟨cl,c0,c1⟩ := c2_at HC.out
 obtain ⟨nl,n0,n1⟩ := c2_at HN.out
 obtain ⟨rl,rc,rf⟩ := boxN HR.out
 have r0 := rc 0 _ rfl
 have r1 := rc 1 _ rfl
 have z0 := rf 0
 have z1 := rf 1
 simp only [Nat.zero_add] at r0 r1
 clear rc rf
 go_wp2_with fail
 refine bodyPost_ret (v := tyv (4,s2)) (by simp [*,results,Tryz.results65,go_sem,tyv]) rfl ?_
 exact ⟨rfl,HB.out.trans (set2_bl (by have := HG.out; omega) HB.out.size)⟩
theorem rjoin_n2 (vt : Value) (k2 : Int) (s2 : ByteArray) (w : World) (n23 : ¬ k2 = 3) (n24 : ¬ k2 = 4) (n26 : ¬ k2 = 6) :
  Calls Tryz.prog 65 #[vt,.agg #[.int .i64 6,.string ⟨#[]⟩],.agg #[.int .i64 k2,.string s2]] w fun e w' => e = .returned (tyv (7,es)) /\ Below w.heap.size w w' := by
 obtain ⟨w4,hw4⟩ : ∃ x,x = (((w.alloc (.cells #[.int .i64 6,.string ⟨#[]⟩] 26)).alloc (.cells #[.int .i64 k2,.string s2] 26)).alloc (.cells #[.int .i64 0,.string ⟨#[]⟩] 26)).alloc (.cells #[.int .i64 6,.string ⟨#[]⟩] 26) := ⟨_,rfl⟩
 have hb3 := (jbl2 w (.cells #[.int .i64 6,.string ⟨#[]⟩] 26) (.cells #[.int .i64 k2,.string s2] 26))
 have HB : Hid (Below w.heap.size w w4) := hid (by rw [hw4]; exact hb3.trans ((jbl2 _ _ _).mono hb3.size))
 have HA : Hid (w4.heap[w.heap.size]? = some (.cells #[.int .i64 6,.string ⟨#[]⟩] 26 (0,0))) := hid (by rw [hw4,(jbl2 _ _ _).block _ (by simp; omega),(below_alR _ _).block _ (by simp)]; exact heap_alloc_new _ _)
 have HC : Hid (w4.heap[w.heap.size + 1]? = some (.cells #[.int .i64 k2,.string s2] 26 (0,0))) := hid (by rw [hw4,(jbl2 _ _ _).block _ (by simp)]; exact jal2 _ _ _ _)
 have HR : Hid (w4.heap[w.heap.size + 2]? = some (.cells #[.int .i64 0,.string ⟨#[]⟩] 26 (0,0))) := hid (by rw [hw4,(below_alR _ _).block _ (by simp)]; have h := heap_alloc_new ((w.alloc (.cells #[.int .i64 6,.string ⟨#[]⟩] 26)).alloc (.cells #[.int .i64 k2,.string s2] 26)) (.cells #[.int .i64 0,.string ⟨#[]⟩] 26); simp only [World.size_alloc] at h; exact h)
 have HN : Hid (w4.heap[w.heap.size + 3]? = some (.cells #[.int .i64 6,.string ⟨#[]⟩] 26 (0,0))) := hid (by rw [hw4]; have h := heap_alloc_new (((w.alloc (.cells #[.int .i64 6,.string ⟨#[]⟩] 26)).alloc (.cells #[.int .i64 k2,.string s2] 26)).alloc (.cells #[.int .i64 0,.string ⟨#[]⟩] 26)) (.cells #[.int .i64 6,.string ⟨#[]⟩] 26); simp only [World.size_alloc] at h; exact h)
 clear hb3
 go_enter Tryz.func65,Tryz.ntmps65
 go_upto_region 2 with fail
 rw [<- hw4]
 clear hw4
 obtain ⟨g,hg⟩ : ∃ z,w.heap.size = z := ⟨_,rfl⟩
 rw [hg] at HA HC HR HN ⊢
 have HG := hid hg
 have HBT := HB
 clear hg
 have e26 : ¬ 6 = k2 := fun h => n26 h.symm
 have q23 : (k2 == 3) = false := by simpa using n23
 have q24 : (k2 == 4) = false := by simpa using n24
 have q26 : (k2 == 6) = false := by simpa using n26
 obtain ⟨al,a0,a1⟩ := c2_at HA.out
 obtain ⟨cl,c0,c1⟩ := c2_at HC.out
 obtain ⟨nl,n0,n1⟩ := c2_at HN.out
 obtain ⟨rl,rc,rf⟩ := boxN HR.out
 have r0 := rc 0 _ rfl
 have r1 := rc 1 _ rfl
 have z0 := rf 0
 have z1 := rf 1
 simp only [Nat.zero_add] at r0 r1
 clear rc rf
 go_wp2_with fail
 refine bodyPost_ret (v := tyv (7,⟨#[]⟩)) (by simp [*,results,Tryz.results65,go_sem,tyv]) rfl ?_
 exact ⟨rfl,HB.out.trans (set2_bl (by have := HG.out; omega) HB.out.size)⟩
theorem rjoin_n3 (vt : Value) (s2 : ByteArray) (w : World) (hs2 : ¬ s2 = ⟨#[]⟩) :
  Calls Tryz.prog 65 #[vt,.agg #[.int .i64 6,.string ⟨#[]⟩],.agg #[.int .i64 6,.string s2]] w fun e w' => e = .returned (tyv (7,es)) /\ Below w.heap.size w w' := by
 obtain ⟨w4,hw4⟩ : ∃ x,x = (((w.alloc (.cells #[.int .i64 6,.string ⟨#[]⟩] 26)).alloc (.cells #[.int .i64 6,.string s2] 26)).alloc (.cells #[.int .i64 0,.string ⟨#[]⟩] 26)).alloc (.cells #[.int .i64 6,.string ⟨#[]⟩] 26) := ⟨_,rfl⟩
 have hb3 := (jbl2 w (.cells #[.int .i64 6,.string ⟨#[]⟩] 26) (.cells #[.int .i64 6,.string s2] 26))
 have HB : Hid (Below w.heap.size w w4) := hid (by rw [hw4]; exact hb3.trans ((jbl2 _ _ _).mono hb3.size))
 have HA : Hid (w4.heap[w.heap.size]? = some (.cells #[.int .i64 6,.string ⟨#[]⟩] 26 (0,0))) := hid (by rw [hw4,(jbl2 _ _ _).block _ (by simp; omega),(below_alR _ _).block _ (by simp)]; exact heap_alloc_new _ _)
 have HC : Hid (w4.heap[w.heap.size + 1]? = some (.cells #[.int .i64 6,.string s2] 26 (0,0))) := hid (by rw [hw4,(jbl2 _ _ _).block _ (by simp)]; exact jal2 _ _ _ _)
 have HR : Hid (w4.heap[w.heap.size + 2]? = some (.cells #[.int .i64 0,.string ⟨#[]⟩] 26 (0,0))) := hid (by rw [hw4,(below_alR _ _).block _ (by simp)]; have h := heap_alloc_new ((w.alloc (.cells #[.int .i64 6,.string ⟨#[]⟩] 26)).alloc (.cells #[.int .i64 6,.string s2] 26)) (.cells #[.int .i64 0,.string ⟨#[]⟩] 26); simp only [World.size_alloc] at h; exact h)
 have HN : Hid (w4.heap[w.heap.size + 3]? = some (.cells #[.int .i64 6,.string ⟨#[]⟩] 26 (0,0))) := hid (by rw [hw4]; have h := heap_alloc_new (((w.alloc (.cells #[.int .i64 6,.string ⟨#[]⟩] 26)).alloc (.cells #[.int .i64 6,.string s2] 26)).alloc (.cells #[.int .i64 0,.string ⟨#[]⟩] 26)) (.cells #[.int .i64 6,.string ⟨#[]⟩] 26); simp only [World.size_alloc] at h; exact h)
 clear hb3
 go_enter Tryz.func65,Tryz.ntmps65
 go_upto_region 2 with fail
 rw [<- hw4]
 clear hw4
 obtain ⟨g,hg⟩ : ∃ z,w.heap.size = z := ⟨_,rfl⟩
 rw [hg] at HA HC HR HN ⊢
 have HG := hid hg
 have HBT := HB
 clear hg
 have t2 : ¬ s2.toList = [] := nil_ne hs2
 have t21 : ¬ [] = s2.toList := fun h => t2 h.symm
 obtain ⟨al,a0,a1⟩ := c2_at HA.out
 obtain ⟨cl,c0,c1⟩ := c2_at HC.out
 obtain ⟨nl,n0,n1⟩ := c2_at HN.out
 obtain ⟨rl,rc,rf⟩ := boxN HR.out
 have r0 := rc 0 _ rfl
 have r1 := rc 1 _ rfl
 have z0 := rf 0
 have z1 := rf 1
 simp only [Nat.zero_add] at r0 r1
 clear rc rf
 go_wp2_with fail
 refine bodyPost_ret (v := tyv (7,⟨#[]⟩)) (by simp [*,results,Tryz.results65,go_sem,tyv]) rfl ?_
 exact ⟨rfl,HB.out.trans (set2_bl (by have := HG.out; omega) HB.out.size)⟩
theorem rjoin_m13 (vt : Value) (s1 : ByteArray) (w : World)  :
  Calls Tryz.prog 65 #[vt,.agg #[.int .i64 3,.string s1],.agg #[.int .i64 6,.string ⟨#[]⟩]] w fun e w' => e = .returned (tyv (3,s1)) /\ Below w.heap.size w w' := by
 obtain ⟨w4,hw4⟩ : ∃ x,x = (((w.alloc (.cells #[.int .i64 3,.string s1] 26)).alloc (.cells #[.int .i64 6,.string ⟨#[]⟩] 26)).alloc (.cells #[.int .i64 0,.string ⟨#[]⟩] 26)).alloc (.cells #[.int .i64 6,.string ⟨#[]⟩] 26) := ⟨_,rfl⟩
 have hb3 := (jbl2 w (.cells #[.int .i64 3,.string s1] 26) (.cells #[.int .i64 6,.string ⟨#[]⟩] 26))
 have HB : Hid (Below w.heap.size w w4) := hid (by rw [hw4]; exact hb3.trans ((jbl2 _ _ _).mono hb3.size))
 have HA : Hid (w4.heap[w.heap.size]? = some (.cells #[.int .i64 3,.string s1] 26 (0,0))) := hid (by rw [hw4,(jbl2 _ _ _).block _ (by simp; omega),(below_alR _ _).block _ (by simp)]; exact heap_alloc_new _ _)
 have HC : Hid (w4.heap[w.heap.size + 1]? = some (.cells #[.int .i64 6,.string ⟨#[]⟩] 26 (0,0))) := hid (by rw [hw4,(jbl2 _ _ _).block _ (by simp)]; exact jal2 _ _ _ _)
 have HR : Hid (w4.heap[w.heap.size + 2]? = some (.cells #[.int .i64 0,.string ⟨#[]⟩] 26 (0,0))) := hid (by rw [hw4,(below_alR _ _).block _ (by simp)]; have h := heap_alloc_new ((w.alloc (.cells #[.int .i64 3,.string s1] 26)).alloc (.cells #[.int .i64 6,.string ⟨#[]⟩] 26)) (.cells #[.int .i64 0,.string ⟨#[]⟩] 26); simp only [World.size_alloc] at h; exact h)
 have HN : Hid (w4.heap[w.heap.size + 3]? = some (.cells #[.int .i64 6,.string ⟨#[]⟩] 26 (0,0))) := hid (by rw [hw4]; have h := heap_alloc_new (((w.alloc (.cells #[.int .i64 3,.string s1] 26)).alloc (.cells #[.int .i64 6,.string ⟨#[]⟩] 26)).alloc (.cells #[.int .i64 0,.string ⟨#[]⟩] 26)) (.cells #[.int .i64 6,.string ⟨#[]⟩] 26); simp only [World.size_alloc] at h; exact h)
 clear hb3
 go_enter Tryz.func65,Tryz.ntmps65
 go_upto_region 2 with fail
 rw [<- hw4]
 clear hw4
 obtain ⟨g,hg⟩ : ∃ z,w.heap.size = z := ⟨_,rfl⟩
 rw [hg] at HA HC HR HN ⊢
 have HG := hid hg
 have HBT := HB
 clear hg
 obtain ⟨al,a0,a1⟩ := c2_at HA.out
 obtain ⟨cl,c0,c1⟩ := c2_at HC.out
 obtain ⟨nl,n0,n1⟩ := c2_at HN.out
 obtain ⟨rl,rc,rf⟩ := boxN HR.out
 have r0 := rc 0 _ rfl
 have r1 := rc 1 _ rfl
 have z0 := rf 0
 have z1 := rf 1
 simp only [Nat.zero_add] at r0 r1
 clear rc rf
 go_wp2_with fail
 refine bodyPost_ret (v := tyv (3,s1)) (by simp [*,results,Tryz.results65,go_sem,tyv]) rfl ?_
 exact ⟨rfl,HB.out.trans (set2_bl (by have := HG.out; omega) HB.out.size)⟩
theorem rjoin_m14 (vt : Value) (s1 : ByteArray) (w : World)  :
  Calls Tryz.prog 65 #[vt,.agg #[.int .i64 4,.string s1],.agg #[.int .i64 6,.string ⟨#[]⟩]] w fun e w' => e = .returned (tyv (4,s1)) /\ Below w.heap.size w w' := by
 obtain ⟨w4,hw4⟩ : ∃ x,x = (((w.alloc (.cells #[.int .i64 4,.string s1] 26)).alloc (.cells #[.int .i64 6,.string ⟨#[]⟩] 26)).alloc (.cells #[.int .i64 0,.string ⟨#[]⟩] 26)).alloc (.cells #[.int .i64 6,.string ⟨#[]⟩] 26) := ⟨_,rfl⟩
 have hb3 := (jbl2 w (.cells #[.int .i64 4,.string s1] 26) (.cells #[.int .i64 6,.string ⟨#[]⟩] 26))
 have HB : Hid (Below w.heap.size w w4) := hid (by rw [hw4]; exact hb3.trans ((jbl2 _ _ _).mono hb3.size))
 have HA : Hid (w4.heap[w.heap.size]? = some (.cells #[.int .i64 4,.string s1] 26 (0,0))) := hid (by rw [hw4,(jbl2 _ _ _).block _ (by simp; omega),(below_alR _ _).block _ (by simp)]; exact heap_alloc_new _ _)
 have HC : Hid (w4.heap[w.heap.size + 1]? = some (.cells #[.int .i64 6,.string ⟨#[]⟩] 26 (0,0))) := hid (by rw [hw4,(jbl2 _ _ _).block _ (by simp)]; exact jal2 _ _ _ _)
 have HR : Hid (w4.heap[w.heap.size + 2]? = some (.cells #[.int .i64 0,.string ⟨#[]⟩] 26 (0,0))) := hid (by rw [hw4,(below_alR _ _).block _ (by simp)]; have h := heap_alloc_new ((w.alloc (.cells #[.int .i64 4,.string s1] 26)).alloc (.cells #[.int .i64 6,.string ⟨#[]⟩] 26)) (.cells #[.int .i64 0,.string ⟨#[]⟩] 26); simp only [World.size_alloc] at h; exact h)
 have HN : Hid (w4.heap[w.heap.size + 3]? = some (.cells #[.int .i64 6,.string ⟨#[]⟩] 26 (0,0))) := hid (by rw [hw4]; have h := heap_alloc_new (((w.alloc (.cells #[.int .i64 4,.string s1] 26)).alloc (.cells #[.int .i64 6,.string ⟨#[]⟩] 26)).alloc (.cells #[.int .i64 0,.string ⟨#[]⟩] 26)) (.cells #[.int .i64 6,.string ⟨#[]⟩] 26); simp only [World.size_alloc] at h; exact h)
 clear hb3
 go_enter Tryz.func65,Tryz.ntmps65
 go_upto_region 2 with fail
 rw [<- hw4]
 clear hw4
 obtain ⟨g,hg⟩ : ∃ z,w.heap.size = z := ⟨_,rfl⟩
 rw [hg] at HA HC HR HN ⊢
 have HG := hid hg
 have HBT := HB
 clear hg
 obtain ⟨al,a0,a1⟩ := c2_at HA.out
 obtain ⟨cl,c0,c1⟩ := c2_at HC.out
 obtain ⟨nl,n0,n1⟩ := c2_at HN.out
 obtain ⟨rl,rc,rf⟩ := boxN HR.out
 have r0 := rc 0 _ rfl
 have r1 := rc 1 _ rfl
 have z0 := rf 0
 have z1 := rf 1
 simp only [Nat.zero_add] at r0 r1
 clear rc rf
 go_wp2_with fail
 refine bodyPost_ret (v := tyv (4,s1)) (by simp [*,results,Tryz.results65,go_sem,tyv]) rfl ?_
 exact ⟨rfl,HB.out.trans (set2_bl (by have := HG.out; omega) HB.out.size)⟩
theorem rjoin_m2 (vt : Value) (k1 : Int) (s1 : ByteArray) (w : World) (n13 : ¬ k1 = 3) (n14 : ¬ k1 = 4) (n16 : ¬ k1 = 6) :
  Calls Tryz.prog 65 #[vt,.agg #[.int .i64 k1,.string s1],.agg #[.int .i64 6,.string ⟨#[]⟩]] w fun e w' => e = .returned (tyv (7,es)) /\ Below w.heap.size w w' := by
 obtain ⟨w4,hw4⟩ : ∃ x,x = (((w.alloc (.cells #[.int .i64 k1,.string s1] 26)).alloc (.cells #[.int .i64 6,.string ⟨#[]⟩] 26)).alloc (.cells #[.int .i64 0,.string ⟨#[]⟩] 26)).alloc (.cells #[.int .i64 6,.string ⟨#[]⟩] 26) := ⟨_,rfl⟩
 have hb3 := (jbl2 w (.cells #[.int .i64 k1,.string s1] 26) (.cells #[.int .i64 6,.string ⟨#[]⟩] 26))
 have HB : Hid (Below w.heap.size w w4) := hid (by rw [hw4]; exact hb3.trans ((jbl2 _ _ _).mono hb3.size))
 have HA : Hid (w4.heap[w.heap.size]? = some (.cells #[.int .i64 k1,.string s1] 26 (0,0))) := hid (by rw [hw4,(jbl2 _ _ _).block _ (by simp; omega),(below_alR _ _).block _ (by simp)]; exact heap_alloc_new _ _)
 have HC : Hid (w4.heap[w.heap.size + 1]? = some (.cells #[.int .i64 6,.string ⟨#[]⟩] 26 (0,0))) := hid (by rw [hw4,(jbl2 _ _ _).block _ (by simp)]; exact jal2 _ _ _ _)
 have HR : Hid (w4.heap[w.heap.size + 2]? = some (.cells #[.int .i64 0,.string ⟨#[]⟩] 26 (0,0))) := hid (by rw [hw4,(below_alR _ _).block _ (by simp)]; have h := heap_alloc_new ((w.alloc (.cells #[.int .i64 k1,.string s1] 26)).alloc (.cells #[.int .i64 6,.string ⟨#[]⟩] 26)) (.cells #[.int .i64 0,.string ⟨#[]⟩] 26); simp only [World.size_alloc] at h; exact h)
 have HN : Hid (w4.heap[w.heap.size + 3]? = some (.cells #[.int .i64 6,.string ⟨#[]⟩] 26 (0,0))) := hid (by rw [hw4]; have h := heap_alloc_new (((w.alloc (.cells #[.int .i64 k1,.string s1] 26)).alloc (.cells #[.int .i64 6,.string ⟨#[]⟩] 26)).alloc (.cells #[.int .i64 0,.string ⟨#[]⟩] 26)) (.cells #[.int .i64 6,.string ⟨#[]⟩] 26); simp only [World.size_alloc] at h; exact h)
 clear hb3
 go_enter Tryz.func65,Tryz.ntmps65
 go_upto_region 2 with fail
 rw [<- hw4]
 clear hw4
 obtain ⟨g,hg⟩ : ∃ z,w.heap.size = z := ⟨_,rfl⟩
 rw [hg] at HA HC HR HN ⊢
 have HG := hid hg
 have HBT := HB
 clear hg
 have q13 : (k1 == 3) = false := by simpa using n13
 have q14 : (k1 == 4) = false := by simpa using n14
 have q16 : (k1 == 6) = false := by simpa using n16
 obtain ⟨al,a0,a1⟩ := c2_at HA.out
 obtain ⟨cl,c0,c1⟩ := c2_at HC.out
 obtain ⟨nl,n0,n1⟩ := c2_at HN.out
 obtain ⟨rl,rc,rf⟩ := boxN HR.out
 have r0 := rc 0 _ rfl
 have r1 := rc 1 _ rfl
 have z0 := rf 0
 have z1 := rf 1
 simp only [Nat.zero_add] at r0 r1
 clear rc rf
 go_wp2_with fail
 refine bodyPost_ret (v := tyv (7,⟨#[]⟩)) (by simp [*,results,Tryz.results65,go_sem,tyv]) rfl ?_
 exact ⟨rfl,HB.out.trans (set2_bl (by have := HG.out; omega) HB.out.size)⟩
theorem rjoin_m3 (vt : Value) (s1 : ByteArray) (w : World) (hs1 : ¬ s1 = ⟨#[]⟩) :
  Calls Tryz.prog 65 #[vt,.agg #[.int .i64 6,.string s1],.agg #[.int .i64 6,.string ⟨#[]⟩]] w fun e w' => e = .returned (tyv (7,es)) /\ Below w.heap.size w w' := by
 obtain ⟨w4,hw4⟩ : ∃ x,x = (((w.alloc (.cells #[.int .i64 6,.string s1] 26)).alloc (.cells #[.int .i64 6,.string ⟨#[]⟩] 26)).alloc (.cells #[.int .i64 0,.string ⟨#[]⟩] 26)).alloc (.cells #[.int .i64 6,.string ⟨#[]⟩] 26) := ⟨_,rfl⟩
 have hb3 := (jbl2 w (.cells #[.int .i64 6,.string s1] 26) (.cells #[.int .i64 6,.string ⟨#[]⟩] 26))
 have HB : Hid (Below w.heap.size w w4) := hid (by rw [hw4]; exact hb3.trans ((jbl2 _ _ _).mono hb3.size))
 have HA : Hid (w4.heap[w.heap.size]? = some (.cells #[.int .i64 6,.string s1] 26 (0,0))) := hid (by rw [hw4,(jbl2 _ _ _).block _ (by simp; omega),(below_alR _ _).block _ (by simp)]; exact heap_alloc_new _ _)
 have HC : Hid (w4.heap[w.heap.size + 1]? = some (.cells #[.int .i64 6,.string ⟨#[]⟩] 26 (0,0))) := hid (by rw [hw4,(jbl2 _ _ _).block _ (by simp)]; exact jal2 _ _ _ _)
 have HR : Hid (w4.heap[w.heap.size + 2]? = some (.cells #[.int .i64 0,.string ⟨#[]⟩] 26 (0,0))) := hid (by rw [hw4,(below_alR _ _).block _ (by simp)]; have h := heap_alloc_new ((w.alloc (.cells #[.int .i64 6,.string s1] 26)).alloc (.cells #[.int .i64 6,.string ⟨#[]⟩] 26)) (.cells #[.int .i64 0,.string ⟨#[]⟩] 26); simp only [World.size_alloc] at h; exact h)
 have HN : Hid (w4.heap[w.heap.size + 3]? = some (.cells #[.int .i64 6,.string ⟨#[]⟩] 26 (0,0))) := hid (by rw [hw4]; have h := heap_alloc_new (((w.alloc (.cells #[.int .i64 6,.string s1] 26)).alloc (.cells #[.int .i64 6,.string ⟨#[]⟩] 26)).alloc (.cells #[.int .i64 0,.string ⟨#[]⟩] 26)) (.cells #[.int .i64 6,.string ⟨#[]⟩] 26); simp only [World.size_alloc] at h; exact h)
 clear hb3
 go_enter Tryz.func65,Tryz.ntmps65
 go_upto_region 2 with fail
 rw [<- hw4]
 clear hw4
 obtain ⟨g,hg⟩ : ∃ z,w.heap.size = z := ⟨_,rfl⟩
 rw [hg] at HA HC HR HN ⊢
 have HG := hid hg
 have HBT := HB
 clear hg
 have t1 : ¬ s1.toList = [] := nil_ne hs1
 obtain ⟨al,a0,a1⟩ := c2_at HA.out
 obtain ⟨cl,c0,c1⟩ := c2_at HC.out
 obtain ⟨nl,n0,n1⟩ := c2_at HN.out
 obtain ⟨rl,rc,rf⟩ := boxN HR.out
 have r0 := rc 0 _ rfl
 have r1 := rc 1 _ rfl
 have z0 := rf 0
 have z1 := rf 1
 simp only [Nat.zero_add] at r0 r1
 clear rc rf
 go_wp2_with fail
 refine bodyPost_ret (v := tyv (7,⟨#[]⟩)) (by simp [*,results,Tryz.results65,go_sem,tyv]) rfl ?_
 exact ⟨rfl,HB.out.trans (set2_bl (by have := HG.out; omega) HB.out.size)⟩
theorem rjoin_t1 (vt : Value) (k1 k2 : Int) (s1 s2 : ByteArray) (w : World) (h12 : ¬ k1 = k2) (n14 : ¬ k1 = 4) (n16 : ¬ k1 = 6) (n26 : ¬ k2 = 6) :
  Calls Tryz.prog 65 #[vt,.agg #[.int .i64 k1,.string s1],.agg #[.int .i64 k2,.string s2]] w fun e w' => e = .returned (tyv (7,es)) /\ Below w.heap.size w w' := by
 obtain ⟨w4,hw4⟩ : ∃ x,x = (((w.alloc (.cells #[.int .i64 k1,.string s1] 26)).alloc (.cells #[.int .i64 k2,.string s2] 26)).alloc (.cells #[.int .i64 0,.string ⟨#[]⟩] 26)).alloc (.cells #[.int .i64 6,.string ⟨#[]⟩] 26) := ⟨_,rfl⟩
 have hb3 := (jbl2 w (.cells #[.int .i64 k1,.string s1] 26) (.cells #[.int .i64 k2,.string s2] 26))
 have HB : Hid (Below w.heap.size w w4) := hid (by rw [hw4]; exact hb3.trans ((jbl2 _ _ _).mono hb3.size))
 have HA : Hid (w4.heap[w.heap.size]? = some (.cells #[.int .i64 k1,.string s1] 26 (0,0))) := hid (by rw [hw4,(jbl2 _ _ _).block _ (by simp; omega),(below_alR _ _).block _ (by simp)]; exact heap_alloc_new _ _)
 have HC : Hid (w4.heap[w.heap.size + 1]? = some (.cells #[.int .i64 k2,.string s2] 26 (0,0))) := hid (by rw [hw4,(jbl2 _ _ _).block _ (by simp)]; exact jal2 _ _ _ _)
 have HR : Hid (w4.heap[w.heap.size + 2]? = some (.cells #[.int .i64 0,.string ⟨#[]⟩] 26 (0,0))) := hid (by rw [hw4,(below_alR _ _).block _ (by simp)]; have h := heap_alloc_new ((w.alloc (.cells #[.int .i64 k1,.string s1] 26)).alloc (.cells #[.int .i64 k2,.string s2] 26)) (.cells #[.int .i64 0,.string ⟨#[]⟩] 26); simp only [World.size_alloc] at h; exact h)
 have HN : Hid (w4.heap[w.heap.size + 3]? = some (.cells #[.int .i64 6,.string ⟨#[]⟩] 26 (0,0))) := hid (by rw [hw4]; have h := heap_alloc_new (((w.alloc (.cells #[.int .i64 k1,.string s1] 26)).alloc (.cells #[.int .i64 k2,.string s2] 26)).alloc (.cells #[.int .i64 0,.string ⟨#[]⟩] 26)) (.cells #[.int .i64 6,.string ⟨#[]⟩] 26); simp only [World.size_alloc] at h; exact h)
 clear hb3
 go_enter Tryz.func65,Tryz.ntmps65
 go_upto_region 2 with fail
 rw [<- hw4]
 clear hw4
 obtain ⟨g,hg⟩ : ∃ z,w.heap.size = z := ⟨_,rfl⟩
 rw [hg] at HA HC HR HN ⊢
 have HG := hid hg
 have HBT := HB
 clear hg
 have e12 : (k1 == k2) = false := by simpa using h12
 have q14 : (k1 == 4) = false := by simpa using n14
 have q16 : (k1 == 6) = false := by simpa using n16
 have q26 : (k2 == 6) = false := by simpa using n26
 obtain ⟨al,a0,a1⟩ := c2_at HA.out
 obtain ⟨cl,c0,c1⟩ := c2_at HC.out
 obtain ⟨nl,n0,n1⟩ := c2_at HN.out
 obtain ⟨rl,rc,rf⟩ := boxN HR.out
 have r0 := rc 0 _ rfl
 have r1 := rc 1 _ rfl
 have z0 := rf 0
 have z1 := rf 1
 simp only [Nat.zero_add] at r0 r1
 clear rc rf
 go_wp2_with fail
 refine bodyPost_ret (v := tyv (7,⟨#[]⟩)) (by simp [*,results,Tryz.results65,go_sem,tyv]) rfl ?_
 exact ⟨rfl,HB.out.trans (set2_bl (by have := HG.out; omega) HB.out.size)⟩
theorem rjoin_t14 (vt : Value) (k2 : Int) (s1 s2 : ByteArray) (w : World) (h12 : ¬ 4 = k2) (n24 : ¬ k2 = 4) (n26 : ¬ k2 = 6) :
  Calls Tryz.prog 65 #[vt,.agg #[.int .i64 4,.string s1],.agg #[.int .i64 k2,.string s2]] w fun e w' => e = .returned (tyv (7,es)) /\ Below w.heap.size w w' := by
 obtain ⟨w4,hw4⟩ : ∃ x,x = (((w.alloc (.cells #[.int .i64 4,.string s1] 26)).alloc (.cells #[.int .i64 k2,.string s2] 26)).alloc (.cells #[.int .i64 0,.string ⟨#[]⟩] 26)).alloc (.cells #[.int .i64 6,.string ⟨#[]⟩] 26) := ⟨_,rfl⟩
 have hb3 := (jbl2 w (.cells #[.int .i64 4,.string s1] 26) (.cells #[.int .i64 k2,.string s2] 26))
 have HB : Hid (Below w.heap.size w w4) := hid (by rw [hw4]; exact hb3.trans ((jbl2 _ _ _).mono hb3.size))
 have HA : Hid (w4.heap[w.heap.size]? = some (.cells #[.int .i64 4,.string s1] 26 (0,0))) := hid (by rw [hw4,(jbl2 _ _ _).block _ (by simp; omega),(below_alR _ _).block _ (by simp)]; exact heap_alloc_new _ _)
 have HC : Hid (w4.heap[w.heap.size + 1]? = some (.cells #[.int .i64 k2,.string s2] 26 (0,0))) := hid (by rw [hw4,(jbl2 _ _ _).block _ (by simp)]; exact jal2 _ _ _ _)
 have HR : Hid (w4.heap[w.heap.size + 2]? = some (.cells #[.int .i64 0,.string ⟨#[]⟩] 26 (0,0))) := hid (by rw [hw4,(below_alR _ _).block _ (by simp)]; have h := heap_alloc_new ((w.alloc (.cells #[.int .i64 4,.string s1] 26)).alloc (.cells #[.int .i64 k2,.string s2] 26)) (.cells #[.int .i64 0,.string ⟨#[]⟩] 26); simp only [World.size_alloc] at h; exact h)
 have HN : Hid (w4.heap[w.heap.size + 3]? = some (.cells #[.int .i64 6,.string ⟨#[]⟩] 26 (0,0))) := hid (by rw [hw4]; have h := heap_alloc_new (((w.alloc (.cells #[.int .i64 4,.string s1] 26)).alloc (.cells #[.int .i64 k2,.string s2] 26)).alloc (.cells #[.int .i64 0,.string ⟨#[]⟩] 26)) (.cells #[.int .i64 6,.string ⟨#[]⟩] 26); simp only [World.size_alloc] at h; exact h)
 clear hb3
 go_enter Tryz.func65,Tryz.ntmps65
 go_upto_region 2 with fail
 rw [<- hw4]
 clear hw4
 obtain ⟨g,hg⟩ : ∃ z,w.heap.size = z := ⟨_,rfl⟩
 rw [hg] at HA HC HR HN ⊢
 have HG := hid hg
 have HBT := HB
 clear hg
 have e12 : ((4 : Int) == k2) = false := by simpa using h12
 have q24 : (k2 == 4) = false := by simpa using n24
 have q26 : (k2 == 6) = false := by simpa using n26
 obtain ⟨al,a0,a1⟩ := c2_at HA.out
 obtain ⟨cl,c0,c1⟩ := c2_at HC.out
 obtain ⟨nl,n0,n1⟩ := c2_at HN.out
 obtain ⟨rl,rc,rf⟩ := boxN HR.out
 have r0 := rc 0 _ rfl
 have r1 := rc 1 _ rfl
 have z0 := rf 0
 have z1 := rf 1
 simp only [Nat.zero_add] at r0 r1
 clear rc rf
 go_wp2_with fail
 refine bodyPost_ret (v := tyv (7,⟨#[]⟩)) (by simp [*,results,Tryz.results65,go_sem,tyv]) rfl ?_
 exact ⟨rfl,HB.out.trans (set2_bl (by have := HG.out; omega) HB.out.size)⟩
theorem rjoin_t2 (vt : Value) (k2 : Int) (s1 s2 : ByteArray) (w : World) (hs1 : ¬ s1 = ⟨#[]⟩) (n26 : ¬ k2 = 6) :
  Calls Tryz.prog 65 #[vt,.agg #[.int .i64 6,.string s1],.agg #[.int .i64 k2,.string s2]] w fun e w' => e = .returned (tyv (7,es)) /\ Below w.heap.size w w' := by
 obtain ⟨w4,hw4⟩ : ∃ x,x = (((w.alloc (.cells #[.int .i64 6,.string s1] 26)).alloc (.cells #[.int .i64 k2,.string s2] 26)).alloc (.cells #[.int .i64 0,.string ⟨#[]⟩] 26)).alloc (.cells #[.int .i64 6,.string ⟨#[]⟩] 26) := ⟨_,rfl⟩
 have hb3 := (jbl2 w (.cells #[.int .i64 6,.string s1] 26) (.cells #[.int .i64 k2,.string s2] 26))
 have HB : Hid (Below w.heap.size w w4) := hid (by rw [hw4]; exact hb3.trans ((jbl2 _ _ _).mono hb3.size))
 have HA : Hid (w4.heap[w.heap.size]? = some (.cells #[.int .i64 6,.string s1] 26 (0,0))) := hid (by rw [hw4,(jbl2 _ _ _).block _ (by simp; omega),(below_alR _ _).block _ (by simp)]; exact heap_alloc_new _ _)
 have HC : Hid (w4.heap[w.heap.size + 1]? = some (.cells #[.int .i64 k2,.string s2] 26 (0,0))) := hid (by rw [hw4,(jbl2 _ _ _).block _ (by simp)]; exact jal2 _ _ _ _)
 have HR : Hid (w4.heap[w.heap.size + 2]? = some (.cells #[.int .i64 0,.string ⟨#[]⟩] 26 (0,0))) := hid (by rw [hw4,(below_alR _ _).block _ (by simp)]; have h := heap_alloc_new ((w.alloc (.cells #[.int .i64 6,.string s1] 26)).alloc (.cells #[.int .i64 k2,.string s2] 26)) (.cells #[.int .i64 0,.string ⟨#[]⟩] 26); simp only [World.size_alloc] at h; exact h)
 have HN : Hid (w4.heap[w.heap.size + 3]? = some (.cells #[.int .i64 6,.string ⟨#[]⟩] 26 (0,0))) := hid (by rw [hw4]; have h := heap_alloc_new (((w.alloc (.cells #[.int .i64 6,.string s1] 26)).alloc (.cells #[.int .i64 k2,.string s2] 26)).alloc (.cells #[.int .i64 0,.string ⟨#[]⟩] 26)) (.cells #[.int .i64 6,.string ⟨#[]⟩] 26); simp only [World.size_alloc] at h; exact h)
 clear hb3
 go_enter Tryz.func65,Tryz.ntmps65
 go_upto_region 2 with fail
 rw [<- hw4]
 clear hw4
 obtain ⟨g,hg⟩ : ∃ z,w.heap.size = z := ⟨_,rfl⟩
 rw [hg] at HA HC HR HN ⊢
 have HG := hid hg
 have HBT := HB
 clear hg
 have t1 : ¬ s1.toList = [] := nil_ne hs1
 have e26 : ¬ 6 = k2 := fun h => n26 h.symm
 have q26 : (k2 == 6) = false := by simpa using n26
 obtain ⟨al,a0,a1⟩ := c2_at HA.out
 obtain ⟨cl,c0,c1⟩ := c2_at HC.out
 obtain ⟨nl,n0,n1⟩ := c2_at HN.out
 obtain ⟨rl,rc,rf⟩ := boxN HR.out
 have r0 := rc 0 _ rfl
 have r1 := rc 1 _ rfl
 have z0 := rf 0
 have z1 := rf 1
 simp only [Nat.zero_add] at r0 r1
 clear rc rf
 go_wp2_with fail
 refine bodyPost_ret (v := tyv (7,⟨#[]⟩)) (by simp [*,results,Tryz.results65,go_sem,tyv]) rfl ?_
 exact ⟨rfl,HB.out.trans (set2_bl (by have := HG.out; omega) HB.out.size)⟩
theorem rjoin_t3 (vt : Value) (k1 : Int) (s1 s2 : ByteArray) (w : World) (n14 : ¬ k1 = 4) (n16 : ¬ k1 = 6) (hs2 : ¬ s2 = ⟨#[]⟩) :
  Calls Tryz.prog 65 #[vt,.agg #[.int .i64 k1,.string s1],.agg #[.int .i64 6,.string s2]] w fun e w' => e = .returned (tyv (7,es)) /\ Below w.heap.size w w' := by
 obtain ⟨w4,hw4⟩ : ∃ x,x = (((w.alloc (.cells #[.int .i64 k1,.string s1] 26)).alloc (.cells #[.int .i64 6,.string s2] 26)).alloc (.cells #[.int .i64 0,.string ⟨#[]⟩] 26)).alloc (.cells #[.int .i64 6,.string ⟨#[]⟩] 26) := ⟨_,rfl⟩
 have hb3 := (jbl2 w (.cells #[.int .i64 k1,.string s1] 26) (.cells #[.int .i64 6,.string s2] 26))
 have HB : Hid (Below w.heap.size w w4) := hid (by rw [hw4]; exact hb3.trans ((jbl2 _ _ _).mono hb3.size))
 have HA : Hid (w4.heap[w.heap.size]? = some (.cells #[.int .i64 k1,.string s1] 26 (0,0))) := hid (by rw [hw4,(jbl2 _ _ _).block _ (by simp; omega),(below_alR _ _).block _ (by simp)]; exact heap_alloc_new _ _)
 have HC : Hid (w4.heap[w.heap.size + 1]? = some (.cells #[.int .i64 6,.string s2] 26 (0,0))) := hid (by rw [hw4,(jbl2 _ _ _).block _ (by simp)]; exact jal2 _ _ _ _)
 have HR : Hid (w4.heap[w.heap.size + 2]? = some (.cells #[.int .i64 0,.string ⟨#[]⟩] 26 (0,0))) := hid (by rw [hw4,(below_alR _ _).block _ (by simp)]; have h := heap_alloc_new ((w.alloc (.cells #[.int .i64 k1,.string s1] 26)).alloc (.cells #[.int .i64 6,.string s2] 26)) (.cells #[.int .i64 0,.string ⟨#[]⟩] 26); simp only [World.size_alloc] at h; exact h)
 have HN : Hid (w4.heap[w.heap.size + 3]? = some (.cells #[.int .i64 6,.string ⟨#[]⟩] 26 (0,0))) := hid (by rw [hw4]; have h := heap_alloc_new (((w.alloc (.cells #[.int .i64 k1,.string s1] 26)).alloc (.cells #[.int .i64 6,.string s2] 26)).alloc (.cells #[.int .i64 0,.string ⟨#[]⟩] 26)) (.cells #[.int .i64 6,.string ⟨#[]⟩] 26); simp only [World.size_alloc] at h; exact h)
 clear hb3
 go_enter Tryz.func65,Tryz.ntmps65
 go_upto_region 2 with fail
 rw [<- hw4]
 clear hw4
 obtain ⟨g,hg⟩ : ∃ z,w.heap.size = z := ⟨_,rfl⟩
 rw [hg] at HA HC HR HN ⊢
 have HG := hid hg
 have HBT := HB
 clear hg
 have t2 : ¬ s2.toList = [] := nil_ne hs2
 have q14 : (k1 == 4) = false := by simpa using n14
 have q16 : (k1 == 6) = false := by simpa using n16
 obtain ⟨al,a0,a1⟩ := c2_at HA.out
 obtain ⟨cl,c0,c1⟩ := c2_at HC.out
 obtain ⟨nl,n0,n1⟩ := c2_at HN.out
 obtain ⟨rl,rc,rf⟩ := boxN HR.out
 have r0 := rc 0 _ rfl
 have r1 := rc 1 _ rfl
 have z0 := rf 0
 have z1 := rf 1
 simp only [Nat.zero_add] at r0 r1
 clear rc rf
 go_wp2_with fail
 refine bodyPost_ret (v := tyv (7,⟨#[]⟩)) (by simp [*,results,Tryz.results65,go_sem,tyv]) rfl ?_
 exact ⟨rfl,HB.out.trans (set2_bl (by have := HG.out; omega) HB.out.size)⟩
theorem rjoin_t34 (vt : Value) (s1 s2 : ByteArray) (w : World) (hs2 : ¬ s2 = ⟨#[]⟩) :
  Calls Tryz.prog 65 #[vt,.agg #[.int .i64 4,.string s1],.agg #[.int .i64 6,.string s2]] w fun e w' => e = .returned (tyv (7,es)) /\ Below w.heap.size w w' := by
 obtain ⟨w4,hw4⟩ : ∃ x,x = (((w.alloc (.cells #[.int .i64 4,.string s1] 26)).alloc (.cells #[.int .i64 6,.string s2] 26)).alloc (.cells #[.int .i64 0,.string ⟨#[]⟩] 26)).alloc (.cells #[.int .i64 6,.string ⟨#[]⟩] 26) := ⟨_,rfl⟩
 have hb3 := (jbl2 w (.cells #[.int .i64 4,.string s1] 26) (.cells #[.int .i64 6,.string s2] 26))
 have HB : Hid (Below w.heap.size w w4) := hid (by rw [hw4]; exact hb3.trans ((jbl2 _ _ _).mono hb3.size))
 have HA : Hid (w4.heap[w.heap.size]? = some (.cells #[.int .i64 4,.string s1] 26 (0,0))) := hid (by rw [hw4,(jbl2 _ _ _).block _ (by simp; omega),(below_alR _ _).block _ (by simp)]; exact heap_alloc_new _ _)
 have HC : Hid (w4.heap[w.heap.size + 1]? = some (.cells #[.int .i64 6,.string s2] 26 (0,0))) := hid (by rw [hw4,(jbl2 _ _ _).block _ (by simp)]; exact jal2 _ _ _ _)
 have HR : Hid (w4.heap[w.heap.size + 2]? = some (.cells #[.int .i64 0,.string ⟨#[]⟩] 26 (0,0))) := hid (by rw [hw4,(below_alR _ _).block _ (by simp)]; have h := heap_alloc_new ((w.alloc (.cells #[.int .i64 4,.string s1] 26)).alloc (.cells #[.int .i64 6,.string s2] 26)) (.cells #[.int .i64 0,.string ⟨#[]⟩] 26); simp only [World.size_alloc] at h; exact h)
 have HN : Hid (w4.heap[w.heap.size + 3]? = some (.cells #[.int .i64 6,.string ⟨#[]⟩] 26 (0,0))) := hid (by rw [hw4]; have h := heap_alloc_new (((w.alloc (.cells #[.int .i64 4,.string s1] 26)).alloc (.cells #[.int .i64 6,.string s2] 26)).alloc (.cells #[.int .i64 0,.string ⟨#[]⟩] 26)) (.cells #[.int .i64 6,.string ⟨#[]⟩] 26); simp only [World.size_alloc] at h; exact h)
 clear hb3
 go_enter Tryz.func65,Tryz.ntmps65
 go_upto_region 2 with fail
 rw [<- hw4]
 clear hw4
 obtain ⟨g,hg⟩ : ∃ z,w.heap.size = z := ⟨_,rfl⟩
 rw [hg] at HA HC HR HN ⊢
 have HG := hid hg
 have HBT := HB
 clear hg
 have t2 : ¬ s2.toList = [] := nil_ne hs2
 obtain ⟨al,a0,a1⟩ := c2_at HA.out
 obtain ⟨cl,c0,c1⟩ := c2_at HC.out
 obtain ⟨nl,n0,n1⟩ := c2_at HN.out
 obtain ⟨rl,rc,rf⟩ := boxN HR.out
 have r0 := rc 0 _ rfl
 have r1 := rc 1 _ rfl
 have z0 := rf 0
 have z1 := rf 1
 simp only [Nat.zero_add] at r0 r1
 clear rc rf
 go_wp2_with fail
 refine bodyPost_ret (v := tyv (7,⟨#[]⟩)) (by simp [*,results,Tryz.results65,go_sem,tyv]) rfl ?_
 exact ⟨rfl,HB.out.trans (set2_bl (by have := HG.out; omega) HB.out.size)⟩
theorem rjoin_t4 (vt : Value) (k1 : Int) (s1 s2 : ByteArray) (w : World) (hs : ¬ s1 = s2) (n14 : ¬ k1 = 4) (n16 : ¬ k1 = 6) :
  Calls Tryz.prog 65 #[vt,.agg #[.int .i64 k1,.string s1],.agg #[.int .i64 k1,.string s2]] w fun e w' => e = .returned (tyv (7,es)) /\ Below w.heap.size w w' := by
 obtain ⟨w4,hw4⟩ : ∃ x,x = (((w.alloc (.cells #[.int .i64 k1,.string s1] 26)).alloc (.cells #[.int .i64 k1,.string s2] 26)).alloc (.cells #[.int .i64 0,.string ⟨#[]⟩] 26)).alloc (.cells #[.int .i64 6,.string ⟨#[]⟩] 26) := ⟨_,rfl⟩
 have hb3 := (jbl2 w (.cells #[.int .i64 k1,.string s1] 26) (.cells #[.int .i64 k1,.string s2] 26))
 have HB : Hid (Below w.heap.size w w4) := hid (by rw [hw4]; exact hb3.trans ((jbl2 _ _ _).mono hb3.size))
 have HA : Hid (w4.heap[w.heap.size]? = some (.cells #[.int .i64 k1,.string s1] 26 (0,0))) := hid (by rw [hw4,(jbl2 _ _ _).block _ (by simp; omega),(below_alR _ _).block _ (by simp)]; exact heap_alloc_new _ _)
 have HC : Hid (w4.heap[w.heap.size + 1]? = some (.cells #[.int .i64 k1,.string s2] 26 (0,0))) := hid (by rw [hw4,(jbl2 _ _ _).block _ (by simp)]; exact jal2 _ _ _ _)
 have HR : Hid (w4.heap[w.heap.size + 2]? = some (.cells #[.int .i64 0,.string ⟨#[]⟩] 26 (0,0))) := hid (by rw [hw4,(below_alR _ _).block _ (by simp)]; have h := heap_alloc_new ((w.alloc (.cells #[.int .i64 k1,.string s1] 26)).alloc (.cells #[.int .i64 k1,.string s2] 26)) (.cells #[.int .i64 0,.string ⟨#[]⟩] 26); simp only [World.size_alloc] at h; exact h)
 have HN : Hid (w4.heap[w.heap.size + 3]? = some (.cells #[.int .i64 6,.string ⟨#[]⟩] 26 (0,0))) := hid (by rw [hw4]; have h := heap_alloc_new (((w.alloc (.cells #[.int .i64 k1,.string s1] 26)).alloc (.cells #[.int .i64 k1,.string s2] 26)).alloc (.cells #[.int .i64 0,.string ⟨#[]⟩] 26)) (.cells #[.int .i64 6,.string ⟨#[]⟩] 26); simp only [World.size_alloc] at h; exact h)
 clear hb3
 go_enter Tryz.func65,Tryz.ntmps65
 go_upto_region 2 with fail
 rw [<- hw4]
 clear hw4
 obtain ⟨g,hg⟩ : ∃ z,w.heap.size = z := ⟨_,rfl⟩
 rw [hg] at HA HC HR HN ⊢
 have HG := hid hg
 have HBT := HB
 clear hg
 have t12 := Go.Proofs.YtpkjlgdbaajpoaaGreat.txt_ne hs
 have t13 : ¬ s1.toList = s2.toList := fun h => by rw [h] at t12; simp at t12
 have q14 : (k1 == 4) = false := by simpa using n14
 have q16 : (k1 == 6) = false := by simpa using n16
 obtain ⟨al,a0,a1⟩ := c2_at HA.out
 obtain ⟨cl,c0,c1⟩ := c2_at HC.out
 obtain ⟨nl,n0,n1⟩ := c2_at HN.out
 obtain ⟨rl,rc,rf⟩ := boxN HR.out
 have r0 := rc 0 _ rfl
 have r1 := rc 1 _ rfl
 have z0 := rf 0
 have z1 := rf 1
 simp only [Nat.zero_add] at r0 r1
 clear rc rf
 go_wp2_with fail
 refine bodyPost_ret (v := tyv (7,⟨#[]⟩)) (by simp [*,results,Tryz.results65,go_sem,tyv]) rfl ?_
 exact ⟨rfl,HB.out.trans (set2_bl (by have := HG.out; omega) HB.out.size)⟩
theorem rjoin_t5 (vt : Value) (s1 s2 : ByteArray) (w : World) (hs : ¬ s1 = s2) (hs1 : ¬ s1 = ⟨#[]⟩) (hs2 : ¬ s2 = ⟨#[]⟩) :
  Calls Tryz.prog 65 #[vt,.agg #[.int .i64 6,.string s1],.agg #[.int .i64 6,.string s2]] w fun e w' => e = .returned (tyv (7,es)) /\ Below w.heap.size w w' := by
 obtain ⟨w4,hw4⟩ : ∃ x,x = (((w.alloc (.cells #[.int .i64 6,.string s1] 26)).alloc (.cells #[.int .i64 6,.string s2] 26)).alloc (.cells #[.int .i64 0,.string ⟨#[]⟩] 26)).alloc (.cells #[.int .i64 6,.string ⟨#[]⟩] 26) := ⟨_,rfl⟩
 have hb3 := (jbl2 w (.cells #[.int .i64 6,.string s1] 26) (.cells #[.int .i64 6,.string s2] 26))
 have HB : Hid (Below w.heap.size w w4) := hid (by rw [hw4]; exact hb3.trans ((jbl2 _ _ _).mono hb3.size))
 have HA : Hid (w4.heap[w.heap.size]? = some (.cells #[.int .i64 6,.string s1] 26 (0,0))) := hid (by rw [hw4,(jbl2 _ _ _).block _ (by simp; omega),(below_alR _ _).block _ (by simp)]; exact heap_alloc_new _ _)
 have HC : Hid (w4.heap[w.heap.size + 1]? = some (.cells #[.int .i64 6,.string s2] 26 (0,0))) := hid (by rw [hw4,(jbl2 _ _ _).block _ (by simp)]; exact jal2 _ _ _ _)
 have HR : Hid (w4.heap[w.heap.size + 2]? = some (.cells #[.int .i64 0,.string ⟨#[]⟩] 26 (0,0))) := hid (by rw [hw4,(below_alR _ _).block _ (by simp)]; have h := heap_alloc_new ((w.alloc (.cells #[.int .i64 6,.string s1] 26)).alloc (.cells #[.int .i64 6,.string s2] 26)) (.cells #[.int .i64 0,.string ⟨#[]⟩] 26); simp only [World.size_alloc] at h; exact h)
 have HN : Hid (w4.heap[w.heap.size + 3]? = some (.cells #[.int .i64 6,.string ⟨#[]⟩] 26 (0,0))) := hid (by rw [hw4]; have h := heap_alloc_new (((w.alloc (.cells #[.int .i64 6,.string s1] 26)).alloc (.cells #[.int .i64 6,.string s2] 26)).alloc (.cells #[.int .i64 0,.string ⟨#[]⟩] 26)) (.cells #[.int .i64 6,.string ⟨#[]⟩] 26); simp only [World.size_alloc] at h; exact h)
 clear hb3
 go_enter Tryz.func65,Tryz.ntmps65
 go_upto_region 2 with fail
 rw [<- hw4]
 clear hw4
 obtain ⟨g,hg⟩ : ∃ z,w.heap.size = z := ⟨_,rfl⟩
 rw [hg] at HA HC HR HN ⊢
 have HG := hid hg
 have HBT := HB
 clear hg
 have t12 := Go.Proofs.YtpkjlgdbaajpoaaGreat.txt_ne hs
 have t13 : ¬ s1.toList = s2.toList := fun h => by rw [h] at t12; simp at t12
 have t1 : ¬ s1.toList = [] := nil_ne hs1
 have t2 : ¬ s2.toList = [] := nil_ne hs2
 obtain ⟨al,a0,a1⟩ := c2_at HA.out
 obtain ⟨cl,c0,c1⟩ := c2_at HC.out
 obtain ⟨nl,n0,n1⟩ := c2_at HN.out
 obtain ⟨rl,rc,rf⟩ := boxN HR.out
 have r0 := rc 0 _ rfl
 have r1 := rc 1 _ rfl
 have z0 := rf 0
 have z1 := rf 1
 simp only [Nat.zero_add] at r0 r1
 clear rc rf
 go_wp2_with fail
 refine bodyPost_ret (v := tyv (7,⟨#[]⟩)) (by simp [*,results,Tryz.results65,go_sem,tyv]) rfl ?_
 exact ⟨rfl,HB.out.trans (set2_bl (by have := HG.out; omega) HB.out.size)⟩
theorem rjoin_r (rb : Nat) (s1 s2 : ByteArray) (ok : Nat -> Prop) (p : Option Addr) (cap : Nat) (A : List Cls) (w : World) (hs : ¬ s1 = s2) (V : ByteArray) (hv : commonT (A.map skOf) s1 s2 = V) (h : RfW ok w rb p cap A) :
  Calls Tryz.prog 65 #[.pointer (some ⟨rb,0,none⟩),.agg #[.int .i64 4,.string s1],.agg #[.int .i64 4,.string s2]] w fun e w' => e = .returned (tyv (4,V)) /\ Below w.heap.size w w' := by
 have HT := hid h
 have HV := hid hv
 clear h hv
 obtain ⟨w4,hw4⟩ : ∃ x,x = (((w.alloc (.cells #[.int .i64 4,.string s1] 26)).alloc (.cells #[.int .i64 4,.string s2] 26)).alloc (.cells #[.int .i64 0,.string ⟨#[]⟩] 26)).alloc (.cells #[.int .i64 6,.string ⟨#[]⟩] 26) := ⟨_,rfl⟩
 have hb3 := (jbl2 w (.cells #[.int .i64 4,.string s1] 26) (.cells #[.int .i64 4,.string s2] 26))
 have HB : Hid (Below w.heap.size w w4) := hid (by rw [hw4]; exact hb3.trans ((jbl2 _ _ _).mono hb3.size))
 have HA : Hid (w4.heap[w.heap.size]? = some (.cells #[.int .i64 4,.string s1] 26 (0,0))) := hid (by rw [hw4,(jbl2 _ _ _).block _ (by simp; omega),(below_alR _ _).block _ (by simp)]; exact heap_alloc_new _ _)
 have HC : Hid (w4.heap[w.heap.size + 1]? = some (.cells #[.int .i64 4,.string s2] 26 (0,0))) := hid (by rw [hw4,(jbl2 _ _ _).block _ (by simp)]; exact jal2 _ _ _ _)
 have HR : Hid (w4.heap[w.heap.size + 2]? = some (.cells #[.int .i64 0,.string ⟨#[]⟩] 26 (0,0))) := hid (by rw [hw4,(below_alR _ _).block _ (by simp)]; have h := heap_alloc_new ((w.alloc (.cells #[.int .i64 4,.string s1] 26)).alloc (.cells #[.int .i64 4,.string s2] 26)) (.cells #[.int .i64 0,.string ⟨#[]⟩] 26); simp only [World.size_alloc] at h; exact h)
 have HN : Hid (w4.heap[w.heap.size + 3]? = some (.cells #[.int .i64 6,.string ⟨#[]⟩] 26 (0,0))) := hid (by rw [hw4]; have h := heap_alloc_new (((w.alloc (.cells #[.int .i64 4,.string s1] 26)).alloc (.cells #[.int .i64 4,.string s2] 26)).alloc (.cells #[.int .i64 0,.string ⟨#[]⟩] 26)) (.cells #[.int .i64 6,.string ⟨#[]⟩] 26); simp only [World.size_alloc] at h; exact h)
 clear hb3
 go_enter Tryz.func65,Tryz.ntmps65
 go_upto_region 2 with fail
 rw [<- hw4]
 clear hw4
 obtain ⟨g,hg⟩ : ∃ z,w.heap.size = z := ⟨_,rfl⟩
 rw [hg] at HA HC HR HN ⊢
 have HG := hid hg
 have HBT := HB
 clear hg
 have t12 := Go.Proofs.YtpkjlgdbaajpoaaGreat.txt_ne hs
 have t13 : ¬ s1.toList = s2.toList := fun h => by rw [h] at t12; simp at t12
 obtain ⟨al,a0,a1⟩ := c2_at HA.out
 obtain ⟨cl,c0,c1⟩ := c2_at HC.out
 obtain ⟨nl,n0,n1⟩ := c2_at HN.out
 go_wp2_with fail
 clear al a0 a1 cl c0 c1 nl n0 n1
 refine (Common_r rb p cap A s1 s2 _ (HT.out.below HBT.out)).mono ?_
 rw [HV.out]
 rintro e wn ⟨rfl,hbn⟩
 replace HA := hid ((hbn.block _ (Array.getElem?_eq_some_iff.1 HA.out).1).trans HA.out)
 replace HC := hid ((hbn.block _ (Array.getElem?_eq_some_iff.1 HC.out).1).trans HC.out)
 replace HR := hid ((hbn.block _ (Array.getElem?_eq_some_iff.1 HR.out).1).trans HR.out)
 replace HN := hid ((hbn.block _ (Array.getElem?_eq_some_iff.1 HN.out).1).trans HN.out)
 replace HB := hid (HB.out.trans (hbn.mono HB.out.size))
 clear hbn
 obtain ⟨al,a0,a1⟩ := c2_at HA.out
 obtain ⟨cl,c0,c1⟩ := c2_at HC.out
 obtain ⟨nl,n0,n1⟩ := c2_at HN.out
 obtain ⟨rl,rc,rf⟩ := boxN HR.out
 have r0 := rc 0 _ rfl
 have r1 := rc 1 _ rfl
 have z0 := rf 0
 have z1 := rf 1
 simp only [Nat.zero_add] at r0 r1
 clear rc rf
 go_wp2_with fail
 refine bodyPost_ret (v := tyv (4,V)) (by simp [*,results,Tryz.results65,go_sem,tyv]) rfl ?_
 exact ⟨rfl,HB.out.trans (set2_bl (by have := HG.out; omega) HB.out.size)⟩
theorem Join_r {ok : Nat -> Prop} (rb : Nat) (p : Option Addr) (cap : Nat) (A : List Cls) (a b : Ty) (w : World) (h : RfW ok w rb p cap A) :
  Calls Tryz.prog 65 #[.pointer (some ⟨rb,0,none⟩),tyv a,tyv b] w fun e w' => e = .returned (tyv (joinT (A.map skOf) a b)) /\ Below w.heap.size w w' := by
 obtain ⟨k1,s1⟩ := a
 obtain ⟨k2,s2⟩ := b
 show Calls _ _ #[.pointer (some ⟨rb,0,none⟩),.agg #[.int .i64 k1,.string s1],.agg #[.int .i64 k2,.string s2]] w _
 by_cases hab : k2 = k1 /\ s2 = s1
 ·obtain ⟨rfl,rfl⟩ := hab
  rw [show joinT (A.map skOf) (k2,s2) (k2,s2) = (k2,s2) from if_pos rfl]
  exact rjoin_a _ k2 s2 w
 ·have hne := ty_ne hab
  by_cases hn : k1 = 6 /\ s1 = ⟨#[]⟩
  ·obtain ⟨rfl,rfl⟩ := hn
   by_cases h2 : k2 = 6
   ·subst h2
    have hs2 : ¬ s2 = ⟨#[]⟩ := fun e => hab ⟨rfl,e⟩
    rw [show joinT (A.map skOf) (6,⟨#[]⟩) (6,s2) = topT from by
     unfold joinT
     rw [if_neg hne,if_neg (fun k => by have := k.2; simp at this),if_neg (fun k => by have := k.2; simp at this),if_neg (fun k => by have := k.1; simp at this)]]
    exact rjoin_n3 _ s2 w hs2
   ·by_cases h3 : k2 = 3 ∨ k2 = 4
    ·rw [show joinT (A.map skOf) (6,⟨#[]⟩) (k2,s2) = (k2,s2) from by
      unfold joinT
      rw [if_neg hne,if_pos ⟨rfl,h3⟩]]
     rcases h3 with rfl | rfl
     ·exact rjoin_n13 _ s2 w
     ·exact rjoin_n14 _ s2 w
    ·rw [show joinT (A.map skOf) (6,⟨#[]⟩) (k2,s2) = topT from by
      unfold joinT
      rw [if_neg hne,if_neg (fun k => h3 k.2),if_neg (fun k => by have := k.2; simp at this),if_neg (fun k => by have := k.1; simp at this)]]
     exact rjoin_n2 _ k2 s2 w (fun e => h3 (.inl e)) (fun e => h3 (.inr e)) h2
  ·have hna := nul_ne hn
   by_cases hm : k2 = 6 /\ s2 = ⟨#[]⟩
   ·obtain ⟨rfl,rfl⟩ := hm
    by_cases h1 : k1 = 6
    ·subst h1
     have hs1 : ¬ s1 = ⟨#[]⟩ := fun e => hn ⟨rfl,e⟩
     rw [show joinT (A.map skOf) (6,s1) (6,⟨#[]⟩) = topT from by
      unfold joinT
      rw [if_neg hne,if_neg (fun k => hna k.1),if_neg (fun k => by have := k.2; simp at this),if_neg (fun k => by have := k.1; simp at this)]]
     exact rjoin_m3 _ s1 w hs1
    ·by_cases h3 : k1 = 3 ∨ k1 = 4
     ·rw [show joinT (A.map skOf) (k1,s1) (6,⟨#[]⟩) = (k1,s1) from by
       unfold joinT
       rw [if_neg hne,if_neg (fun k => hna k.1),if_pos ⟨rfl,h3⟩]]
      rcases h3 with rfl | rfl
      ·exact rjoin_m13 _ s1 w
      ·exact rjoin_m14 _ s1 w
     ·rw [show joinT (A.map skOf) (k1,s1) (6,⟨#[]⟩) = topT from by
       unfold joinT
       rw [if_neg hne,if_neg (fun k => hna k.1),if_neg (fun k => h3 k.2),if_neg (fun k => by have := k.2; simp at this)]]
      exact rjoin_m2 _ k1 s1 w (fun e => h3 (.inl e)) (fun e => h3 (.inr e)) h1
   ·have hnb := nul_ne hm
    by_cases h4 : k1 = 4 /\ k2 = 4
    ·obtain ⟨rfl,rfl⟩ := h4
     rw [show joinT (A.map skOf) (4,s1) (4,s2) = (4,commonT (A.map skOf) s1 s2) from by
      unfold joinT
      rw [if_neg hne,if_neg (fun k => hna k.1),if_neg (fun k => hnb k.1),if_pos ⟨rfl,rfl⟩]]
     exact rjoin_r rb s1 s2 ok p cap A w (fun e => hab ⟨rfl,e.symm⟩) _ rfl h
    ·rw [show joinT (A.map skOf) (k1,s1) (k2,s2) = topT from by
      unfold joinT
      rw [if_neg hne,if_neg (fun k => hna k.1),if_neg (fun k => hnb k.1),if_neg h4]]
     by_cases h12 : k2 = k1
     ·subst h12
      have hs : ¬ s1 = s2 := fun e => hab ⟨rfl,e.symm⟩
      by_cases h6 : k2 = 6
      ·subst h6
       exact rjoin_t5 _ s1 s2 w hs (fun e => hn ⟨rfl,e⟩) (fun e => hm ⟨rfl,e⟩)
      ·exact rjoin_t4 _ k2 s1 s2 w hs (fun e => h4 ⟨e,e⟩) h6
     ·by_cases h1 : k1 = 6
      ·subst h1
       exact rjoin_t2 _ k2 s1 s2 w (fun e => hn ⟨rfl,e⟩) h12
      ·by_cases h2 : k2 = 6
       ·subst h2
        by_cases h14 : k1 = 4
        ·subst h14
         exact rjoin_t34 _ s1 s2 w (fun e => hm ⟨rfl,e⟩)
        ·exact rjoin_t3 _ k1 s1 s2 w h14 h1 (fun e => hm ⟨rfl,e⟩)
       ·by_cases h14 : k1 = 4
        ·subst h14
         exact rjoin_t14 _ k2 s1 s2 w (fun e => h12 e.symm) (fun e => h4 ⟨rfl,e⟩) h2
        ·exact rjoin_t1 _ k1 k2 s1 s2 w (fun e => h12 e.symm) h14 h1 h2
end Go.Proofs.YtpkjlgdbaajpoaaGreat.R
