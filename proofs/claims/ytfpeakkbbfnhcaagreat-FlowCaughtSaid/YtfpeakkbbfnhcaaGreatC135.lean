/- Texts that the proof is made of, joined. No condition. -/
import Derived.Test.YtfpeakkbbfnhcaaGreatC134
import Derived.Deep.DeepCutAuto
import Derived.Deep.CutBlock
import Derived.Test.YtfpeakkbbfnhcaaGreatC131
import Derived.Test.YtfpeakkbbfnhcaaGreatC132
import Derived.IntWalk
import Derived.Test.YtfpeakkbbfnhcaaGreatC13H
set_option linter.unusedVariables false
set_option linter.unusedSimpArgs false
set_option maxRecDepth 100000
set_option maxHeartbeats 16000000
namespace Go.Proofs.YtfpeakkbbfnhcaaGreat.R
open Go.RowKit Go.Proofs.YtfpeakkbbfnhcaaGreat.D Go.Proofs.YtfpeakkbbfnhcaaGreat.O Go.Proofs.YtfpeakkbbfnhcaaGreat.A
theorem c2_at {W : World} {g : Nat} {k : Int} {s : ByteArray} (h : W.heap[g]? = some (.cells #[.int .i64 k,.string s] 45 (0,0))) : g < W.heap.size /\ W.cell? ⟨g,0,none⟩ = some (.int .i64 k) /\ W.cell? ⟨g,1,none⟩ = some (.string s) :=
 ⟨(Array.getElem?_eq_some_iff.1 h).1,by simp [World.cell?,h],by simp [World.cell?,h]⟩
theorem nil_ne {s : ByteArray} (h : ¬ s = ⟨#[]⟩) : ¬ s.toList = [] := fun k => by
 have := Go.Proofs.YtfpeakkbbfnhcaaGreat.txt_ne h
 rw [k,show (⟨#[]⟩ : ByteArray).toList = [] from by decide +kernel] at this
 simp at this
theorem join_a (vt : Value) (k1 : Int) (s1 : ByteArray) (w : World)  :
  Calls Tryz.prog 184 #[vt,.agg #[.int .i64 k1,.string s1],.agg #[.int .i64 k1,.string s1]] w fun e w' => e = .returned (tyv (k1,s1)) /\ Below w.heap.size w w' := by
 obtain ⟨w4,hw4⟩ : ∃ x,x = (((w.alloc (.cells #[.int .i64 k1,.string s1] 45)).alloc (.cells #[.int .i64 k1,.string s1] 45)).alloc (.cells #[.int .i64 0,.string ⟨#[]⟩] 45)).alloc (.cells #[.int .i64 6,.string ⟨#[]⟩] 45) := ⟨_,rfl⟩
 have hb3 := (jbl2 w (.cells #[.int .i64 k1,.string s1] 45) (.cells #[.int .i64 k1,.string s1] 45))
 have HB : Hid (Below w.heap.size w w4) := hid (by rw [hw4]; exact hb3.trans ((jbl2 _ _ _).mono hb3.size))
 have HA : Hid (w4.heap[w.heap.size]? = some (.cells #[.int .i64 k1,.string s1] 45 (0,0))) := hid (by rw [hw4,(jbl2 _ _ _).block _ (by simp; omega),(below_alR _ _).block _ (by simp)]; exact heap_alloc_new _ _)
 have HC : Hid (w4.heap[w.heap.size + 1]? = some (.cells #[.int .i64 k1,.string s1] 45 (0,0))) := hid (by rw [hw4,(jbl2 _ _ _).block _ (by simp)]; exact jal2 _ _ _ _)
 have HR : Hid (w4.heap[w.heap.size + 2]? = some (.cells #[.int .i64 0,.string ⟨#[]⟩] 45 (0,0))) := hid (by rw [hw4,(below_alR _ _).block _ (by simp)]; have h := heap_alloc_new ((w.alloc (.cells #[.int .i64 k1,.string s1] 45)).alloc (.cells #[.int .i64 k1,.string s1] 45)) (.cells #[.int .i64 0,.string ⟨#[]⟩] 45); simp only [World.size_alloc] at h; exact h)
 have HN : Hid (w4.heap[w.heap.size + 3]? = some (.cells #[.int .i64 6,.string ⟨#[]⟩] 45 (0,0))) := hid (by rw [hw4]; have h := heap_alloc_new (((w.alloc (.cells #[.int .i64 k1,.string s1] 45)).alloc (.cells #[.int .i64 k1,.string s1] 45)).alloc (.cells #[.int .i64 0,.string ⟨#[]⟩] 45)) (.cells #[.int .i64 6,.string ⟨#[]⟩] 45); simp only [World.size_alloc] at h; exact h)
 clear hb3
 go_enter Tryz.func184,Tryz.ntmps184
 go_upto_region 2 with fail
 rw [<- hw4]
 clear hw4
 obtain ⟨g,hg⟩ : ∃ z,w.heap.size = z := ⟨_,rfl⟩
 rw [hg] at HA HC HR HN ⊢
 have HG := hid hg
 clear hg
 obtain ⟨al,a0,a1⟩ := c2_at HA.out
 obtain ⟨cl,c0,c1⟩ := c2_at HC.out
 obtain ⟨nl,n0,n1⟩ := c2_at HN.out
 obtain ⟨rl,rc,rf⟩ := boxN HR.out
 have r0 := rc 0 _ rfl
 have r1 := rc 1 _ rfl
 have z0 := rf 0
 have z1 := rf 1
 simp only [Nat.zero_add] at r0 r1
 clear rc rf
 go_wp2_with fail
 refine bodyPost_ret (v := tyv (k1,s1)) (by simp [*,results,Tryz.results184,go_sem,tyv]) rfl ?_
 exact ⟨rfl,HB.out.trans (set2_bl (by have := HG.out; omega) HB.out.size)⟩
theorem join_n1 (vt : Value) (k2 : Int) (s2 : ByteArray) (w : World) (h2 : ¬ k2 = 6) (nb : nulB k2 = true) :
  Calls Tryz.prog 184 #[vt,.agg #[.int .i64 6,.string ⟨#[]⟩],.agg #[.int .i64 k2,.string s2]] w fun e w' => e = .returned (tyv (k2,s2)) /\ Below w.heap.size w w' := by
 obtain ⟨w4,hw4⟩ : ∃ x,x = (((w.alloc (.cells #[.int .i64 6,.string ⟨#[]⟩] 45)).alloc (.cells #[.int .i64 k2,.string s2] 45)).alloc (.cells #[.int .i64 0,.string ⟨#[]⟩] 45)).alloc (.cells #[.int .i64 6,.string ⟨#[]⟩] 45) := ⟨_,rfl⟩
 have hb3 := (jbl2 w (.cells #[.int .i64 6,.string ⟨#[]⟩] 45) (.cells #[.int .i64 k2,.string s2] 45))
 have HB : Hid (Below w.heap.size w w4) := hid (by rw [hw4]; exact hb3.trans ((jbl2 _ _ _).mono hb3.size))
 have HA : Hid (w4.heap[w.heap.size]? = some (.cells #[.int .i64 6,.string ⟨#[]⟩] 45 (0,0))) := hid (by rw [hw4,(jbl2 _ _ _).block _ (by simp; omega),(below_alR _ _).block _ (by simp)]; exact heap_alloc_new _ _)
 have HC : Hid (w4.heap[w.heap.size + 1]? = some (.cells #[.int .i64 k2,.string s2] 45 (0,0))) := hid (by rw [hw4,(jbl2 _ _ _).block _ (by simp)]; exact jal2 _ _ _ _)
 have HR : Hid (w4.heap[w.heap.size + 2]? = some (.cells #[.int .i64 0,.string ⟨#[]⟩] 45 (0,0))) := hid (by rw [hw4,(below_alR _ _).block _ (by simp)]; have h := heap_alloc_new ((w.alloc (.cells #[.int .i64 6,.string ⟨#[]⟩] 45)).alloc (.cells #[.int .i64 k2,.string s2] 45)) (.cells #[.int .i64 0,.string ⟨#[]⟩] 45); simp only [World.size_alloc] at h; exact h)
 have HN : Hid (w4.heap[w.heap.size + 3]? = some (.cells #[.int .i64 6,.string ⟨#[]⟩] 45 (0,0))) := hid (by rw [hw4]; have h := heap_alloc_new (((w.alloc (.cells #[.int .i64 6,.string ⟨#[]⟩] 45)).alloc (.cells #[.int .i64 k2,.string s2] 45)).alloc (.cells #[.int .i64 0,.string ⟨#[]⟩] 45)) (.cells #[.int .i64 6,.string ⟨#[]⟩] 45); simp only [World.size_alloc] at h; exact h)
 clear hb3
 go_enter Tryz.func184,Tryz.ntmps184
 go_upto_region 2 with fail
 rw [<- hw4]
 clear hw4
 obtain ⟨g,hg⟩ : ∃ z,w.heap.size = z := ⟨_,rfl⟩
 rw [hg] at HA HC HR HN ⊢
 have HG := hid hg
 clear hg
 have e26 : ¬ 6 = k2 := fun h => h2 h.symm
 have e2 : (k2 == 6) = false := by simpa using h2
 obtain ⟨al,a0,a1⟩ := c2_at HA.out
 obtain ⟨cl,c0,c1⟩ := c2_at HC.out
 obtain ⟨nl,n0,n1⟩ := c2_at HN.out
 go_wp2_with fail
 clear al a0 a1 cl c0 c1 nl n0 n1
 refine (nullable_y k2 s2 _).mono ?_
 rw [nb]
 rintro e wn ⟨rfl,hbn⟩
 replace HA := hid ((hbn.block _ (Array.getElem?_eq_some_iff.1 HA.out).1).trans HA.out)
 replace HC := hid ((hbn.block _ (Array.getElem?_eq_some_iff.1 HC.out).1).trans HC.out)
 replace HR := hid ((hbn.block _ (Array.getElem?_eq_some_iff.1 HR.out).1).trans HR.out)
 replace HN := hid ((hbn.block _ (Array.getElem?_eq_some_iff.1 HN.out).1).trans HN.out)
 replace HB := hid (HB.out.trans (hbn.mono HB.out.size))
 clear hbn
 obtain ⟨al,a0,a1⟩ := c2_at HA.out
 obtain ⟨cl,c0,c1⟩ := c2_at HC.out
 obtain ⟨nl,n0,n1⟩ := c2_at HN.out
 obtain ⟨rl,rc,rf⟩ := boxN HR.out
 have r0 := rc 0 _ rfl
 have r1 := rc 1 _ rfl
 have z0 := rf 0
 have z1 := rf 1
 simp only [Nat.zero_add] at r0 r1
 clear rc rf
 go_wp2_with fail
 refine bodyPost_ret (v := tyv (k2,s2)) (by simp [*,results,Tryz.results184,go_sem,tyv]) rfl ?_
 exact ⟨rfl,HB.out.trans (set2_bl (by have := HG.out; omega) HB.out.size)⟩
theorem join_n2 (vt : Value) (k2 : Int) (s2 : ByteArray) (w : World) (h2 : ¬ k2 = 6) (nb : nulB k2 = false) :
  Calls Tryz.prog 184 #[vt,.agg #[.int .i64 6,.string ⟨#[]⟩],.agg #[.int .i64 k2,.string s2]] w fun e w' => e = .returned (tyv (7,es)) /\ Below w.heap.size w w' := by
 obtain ⟨w4,hw4⟩ : ∃ x,x = (((w.alloc (.cells #[.int .i64 6,.string ⟨#[]⟩] 45)).alloc (.cells #[.int .i64 k2,.string s2] 45)).alloc (.cells #[.int .i64 0,.string ⟨#[]⟩] 45)).alloc (.cells #[.int .i64 6,.string ⟨#[]⟩] 45) := ⟨_,rfl⟩
 have hb3 := (jbl2 w (.cells #[.int .i64 6,.string ⟨#[]⟩] 45) (.cells #[.int .i64 k2,.string s2] 45))
 have HB : Hid (Below w.heap.size w w4) := hid (by rw [hw4]; exact hb3.trans ((jbl2 _ _ _).mono hb3.size))
 have HA : Hid (w4.heap[w.heap.size]? = some (.cells #[.int .i64 6,.string ⟨#[]⟩] 45 (0,0))) := hid (by rw [hw4,(jbl2 _ _ _).block _ (by simp; omega),(below_alR _ _).block _ (by simp)]; exact heap_alloc_new _ _)
 have HC : Hid (w4.heap[w.heap.size + 1]? = some (.cells #[.int .i64 k2,.string s2] 45 (0,0))) := hid (by rw [hw4,(jbl2 _ _ _).block _ (by simp)]; exact jal2 _ _ _ _)
 have HR : Hid (w4.heap[w.heap.size + 2]? = some (.cells #[.int .i64 0,.string ⟨#[]⟩] 45 (0,0))) := hid (by rw [hw4,(below_alR _ _).block _ (by simp)]; have h := heap_alloc_new ((w.alloc (.cells #[.int .i64 6,.string ⟨#[]⟩] 45)).alloc (.cells #[.int .i64 k2,.string s2] 45)) (.cells #[.int .i64 0,.string ⟨#[]⟩] 45); simp only [World.size_alloc] at h; exact h)
 have HN : Hid (w4.heap[w.heap.size + 3]? = some (.cells #[.int .i64 6,.string ⟨#[]⟩] 45 (0,0))) := hid (by rw [hw4]; have h := heap_alloc_new (((w.alloc (.cells #[.int .i64 6,.string ⟨#[]⟩] 45)).alloc (.cells #[.int .i64 k2,.string s2] 45)).alloc (.cells #[.int .i64 0,.string ⟨#[]⟩] 45)) (.cells #[.int .i64 6,.string ⟨#[]⟩] 45); simp only [World.size_alloc] at h; exact h)
 clear hb3
 go_enter Tryz.func184,Tryz.ntmps184
 go_upto_region 2 with fail
 rw [<- hw4]
 clear hw4
 obtain ⟨g,hg⟩ : ∃ z,w.heap.size = z := ⟨_,rfl⟩
 rw [hg] at HA HC HR HN ⊢
 have HG := hid hg
 clear hg
 have e26 : ¬ 6 = k2 := fun h => h2 h.symm
 have e2 : (k2 == 6) = false := by simpa using h2
 obtain ⟨al,a0,a1⟩ := c2_at HA.out
 obtain ⟨cl,c0,c1⟩ := c2_at HC.out
 obtain ⟨nl,n0,n1⟩ := c2_at HN.out
 go_wp2_with fail
 clear al a0 a1 cl c0 c1 nl n0 n1
 refine (nullable_y k2 s2 _).mono ?_
 rw [nb]
 rintro e wn ⟨rfl,hbn⟩
 replace HA := hid ((hbn.block _ (Array.getElem?_eq_some_iff.1 HA.out).1).trans HA.out)
 replace HC := hid ((hbn.block _ (Array.getElem?_eq_some_iff.1 HC.out).1).trans HC.out)
 replace HR := hid ((hbn.block _ (Array.getElem?_eq_some_iff.1 HR.out).1).trans HR.out)
 replace HN := hid ((hbn.block _ (Array.getElem?_eq_some_iff.1 HN.out).1).trans HN.out)
 replace HB := hid (HB.out.trans (hbn.mono HB.out.size))
 clear hbn
 obtain ⟨al,a0,a1⟩ := c2_at HA.out
 obtain ⟨cl,c0,c1⟩ := c2_at HC.out
 obtain ⟨nl,n0,n1⟩ := c2_at HN.out
 go_wp2_with fail
 clear al a0 a1 cl c0 c1 nl n0 n1
 refine (refs_y 6 k2 ⟨#[]⟩ s2 _).mono ?_
 rw [show decide ((6 : Int) = 4 /\ k2 = 4) = false by simp]
 rintro e wn ⟨rfl,hbn⟩
 replace HA := hid ((hbn.block _ (Array.getElem?_eq_some_iff.1 HA.out).1).trans HA.out)
 replace HC := hid ((hbn.block _ (Array.getElem?_eq_some_iff.1 HC.out).1).trans HC.out)
 replace HR := hid ((hbn.block _ (Array.getElem?_eq_some_iff.1 HR.out).1).trans HR.out)
 replace HN := hid ((hbn.block _ (Array.getElem?_eq_some_iff.1 HN.out).1).trans HN.out)
 replace HB := hid (HB.out.trans (hbn.mono HB.out.size))
 clear hbn
 obtain ⟨al,a0,a1⟩ := c2_at HA.out
 obtain ⟨cl,c0,c1⟩ := c2_at HC.out
 obtain ⟨nl,n0,n1⟩ := c2_at HN.out
 obtain ⟨rl,rc,rf⟩ := boxN HR.out
 have r0 := rc 0 _ rfl
 have r1 := rc 1 _ rfl
 have z0 := rf 0
 have z1 := rf 1
 simp only [Nat.zero_add] at r0 r1
 clear rc rf
 go_wp2_with fail
 refine bodyPost_ret (v := tyv (7,⟨#[]⟩)) (by simp [*,results,Tryz.results184,go_sem,tyv]) rfl ?_
 exact ⟨rfl,HB.out.trans (set2_bl (by have := HG.out; omega) HB.out.size)⟩
theorem join_n3 (vt : Value) (s2 : ByteArray) (w : World) (hs2 : ¬ s2 = ⟨#[]⟩) :
  Calls Tryz.prog 184 #[vt,.agg #[.int .i64 6,.string ⟨#[]⟩],.agg #[.int .i64 6,.string s2]] w fun e w' => e = .returned (tyv (7,es)) /\ Below w.heap.size w w' := by
 obtain ⟨w4,hw4⟩ : ∃ x,x = (((w.alloc (.cells #[.int .i64 6,.string ⟨#[]⟩] 45)).alloc (.cells #[.int .i64 6,.string s2] 45)).alloc (.cells #[.int .i64 0,.string ⟨#[]⟩] 45)).alloc (.cells #[.int .i64 6,.string ⟨#[]⟩] 45) := ⟨_,rfl⟩
 have hb3 := (jbl2 w (.cells #[.int .i64 6,.string ⟨#[]⟩] 45) (.cells #[.int .i64 6,.string s2] 45))
 have HB : Hid (Below w.heap.size w w4) := hid (by rw [hw4]; exact hb3.trans ((jbl2 _ _ _).mono hb3.size))
 have HA : Hid (w4.heap[w.heap.size]? = some (.cells #[.int .i64 6,.string ⟨#[]⟩] 45 (0,0))) := hid (by rw [hw4,(jbl2 _ _ _).block _ (by simp; omega),(below_alR _ _).block _ (by simp)]; exact heap_alloc_new _ _)
 have HC : Hid (w4.heap[w.heap.size + 1]? = some (.cells #[.int .i64 6,.string s2] 45 (0,0))) := hid (by rw [hw4,(jbl2 _ _ _).block _ (by simp)]; exact jal2 _ _ _ _)
 have HR : Hid (w4.heap[w.heap.size + 2]? = some (.cells #[.int .i64 0,.string ⟨#[]⟩] 45 (0,0))) := hid (by rw [hw4,(below_alR _ _).block _ (by simp)]; have h := heap_alloc_new ((w.alloc (.cells #[.int .i64 6,.string ⟨#[]⟩] 45)).alloc (.cells #[.int .i64 6,.string s2] 45)) (.cells #[.int .i64 0,.string ⟨#[]⟩] 45); simp only [World.size_alloc] at h; exact h)
 have HN : Hid (w4.heap[w.heap.size + 3]? = some (.cells #[.int .i64 6,.string ⟨#[]⟩] 45 (0,0))) := hid (by rw [hw4]; have h := heap_alloc_new (((w.alloc (.cells #[.int .i64 6,.string ⟨#[]⟩] 45)).alloc (.cells #[.int .i64 6,.string s2] 45)).alloc (.cells #[.int .i64 0,.string ⟨#[]⟩] 45)) (.cells #[.int .i64 6,.string ⟨#[]⟩] 45); simp only [World.size_alloc] at h; exact h)
 clear hb3
 go_enter Tryz.func184,Tryz.ntmps184
 go_upto_region 2 with fail
 rw [<- hw4]
 clear hw4
 obtain ⟨g,hg⟩ : ∃ z,w.heap.size = z := ⟨_,rfl⟩
 rw [hg] at HA HC HR HN ⊢
 have HG := hid hg
 clear hg
 have t2 : ¬ s2.toList = [] := nil_ne hs2
 have t21 : ¬ [] = s2.toList := fun h => t2 h.symm
 obtain ⟨al,a0,a1⟩ := c2_at HA.out
 obtain ⟨cl,c0,c1⟩ := c2_at HC.out
 obtain ⟨nl,n0,n1⟩ := c2_at HN.out
 go_wp2_with fail
 clear al a0 a1 cl c0 c1 nl n0 n1
 refine (nullable_y 6 s2 _).mono ?_
 rw [show nulB 6 = false by decide]
 rintro e wn ⟨rfl,hbn⟩
 replace HA := hid ((hbn.block _ (Array.getElem?_eq_some_iff.1 HA.out).1).trans HA.out)
 replace HC := hid ((hbn.block _ (Array.getElem?_eq_some_iff.1 HC.out).1).trans HC.out)
 replace HR := hid ((hbn.block _ (Array.getElem?_eq_some_iff.1 HR.out).1).trans HR.out)
 replace HN := hid ((hbn.block _ (Array.getElem?_eq_some_iff.1 HN.out).1).trans HN.out)
 replace HB := hid (HB.out.trans (hbn.mono HB.out.size))
 clear hbn
 obtain ⟨al,a0,a1⟩ := c2_at HA.out
 obtain ⟨cl,c0,c1⟩ := c2_at HC.out
 obtain ⟨nl,n0,n1⟩ := c2_at HN.out
 go_wp2_with fail
 clear al a0 a1 cl c0 c1 nl n0 n1
 refine (refs_y 6 6 ⟨#[]⟩ s2 _).mono ?_
 rw [show decide ((6 : Int) = 4 /\ (6 : Int) = 4) = false by decide]
 rintro e wn ⟨rfl,hbn⟩
 replace HA := hid ((hbn.block _ (Array.getElem?_eq_some_iff.1 HA.out).1).trans HA.out)
 replace HC := hid ((hbn.block _ (Array.getElem?_eq_some_iff.1 HC.out).1).trans HC.out)
 replace HR := hid ((hbn.block _ (Array.getElem?_eq_some_iff.1 HR.out).1).trans HR.out)
 replace HN := hid ((hbn.block _ (Array.getElem?_eq_some_iff.1 HN.out).1).trans HN.out)
 replace HB := hid (HB.out.trans (hbn.mono HB.out.size))
 clear hbn
 obtain ⟨al,a0,a1⟩ := c2_at HA.out
 obtain ⟨cl,c0,c1⟩ := c2_at HC.out
 obtain ⟨nl,n0,n1⟩ := c2_at HN.out
 obtain ⟨rl,rc,rf⟩ := boxN HR.out
 have r0 := rc 0 _ rfl
 have r1 := rc 1 _ rfl
 have z0 := rf 0
 have z1 := rf 1
 simp only [Nat.zero_add] at r0 r1
 clear rc rf
 go_wp2_with fail
 refine bodyPost_ret (v := tyv (7,⟨#[]⟩)) (by simp [*,results,Tryz.results184,go_sem,tyv]) rfl ?_
 exact ⟨rfl,HB.out.trans (set2_bl (by have := HG.out; omega) HB.out.size)⟩
theorem join_m1 (vt : Value) (k1 : Int) (s1 : ByteArray) (w : World) (h1 : ¬ k1 = 6) (nb : nulB k1 = true) :
  Calls Tryz.prog 184 #[vt,.agg #[.int .i64 k1,.string s1],.agg #[.int .i64 6,.string ⟨#[]⟩]] w fun e w' => e = .returned (tyv (k1,s1)) /\ Below w.heap.size w w' := by
 obtain ⟨w4,hw4⟩ : ∃ x,x = (((w.alloc (.cells #[.int .i64 k1,.string s1] 45)).alloc (.cells #[.int .i64 6,.string ⟨#[]⟩] 45)).alloc (.cells #[.int .i64 0,.string ⟨#[]⟩] 45)).alloc (.cells #[.int .i64 6,.string ⟨#[]⟩] 45) := ⟨_,rfl⟩
 have hb3 := (jbl2 w (.cells #[.int .i64 k1,.string s1] 45) (.cells #[.int .i64 6,.string ⟨#[]⟩] 45))
 have HB : Hid (Below w.heap.size w w4) := hid (by rw [hw4]; exact hb3.trans ((jbl2 _ _ _).mono hb3.size))
 have HA : Hid (w4.heap[w.heap.size]? = some (.cells #[.int .i64 k1,.string s1] 45 (0,0))) := hid (by rw [hw4,(jbl2 _ _ _).block _ (by simp; omega),(below_alR _ _).block _ (by simp)]; exact heap_alloc_new _ _)
 have HC : Hid (w4.heap[w.heap.size + 1]? = some (.cells #[.int .i64 6,.string ⟨#[]⟩] 45 (0,0))) := hid (by rw [hw4,(jbl2 _ _ _).block _ (by simp)]; exact jal2 _ _ _ _)
 have HR : Hid (w4.heap[w.heap.size + 2]? = some (.cells #[.int .i64 0,.string ⟨#[]⟩] 45 (0,0))) := hid (by rw [hw4,(below_alR _ _).block _ (by simp)]; have h := heap_alloc_new ((w.alloc (.cells #[.int .i64 k1,.string s1] 45)).alloc (.cells #[.int .i64 6,.string ⟨#[]⟩] 45)) (.cells #[.int .i64 0,.string ⟨#[]⟩] 45); simp only [World.size_alloc] at h; exact h)
 have HN : Hid (w4.heap[w.heap.size + 3]? = some (.cells #[.int .i64 6,.string ⟨#[]⟩] 45 (0,0))) := hid (by rw [hw4]; have h := heap_alloc_new (((w.alloc (.cells #[.int .i64 k1,.string s1] 45)).alloc (.cells #[.int .i64 6,.string ⟨#[]⟩] 45)).alloc (.cells #[.int .i64 0,.string ⟨#[]⟩] 45)) (.cells #[.int .i64 6,.string ⟨#[]⟩] 45); simp only [World.size_alloc] at h; exact h)
 clear hb3
 go_enter Tryz.func184,Tryz.ntmps184
 go_upto_region 2 with fail
 rw [<- hw4]
 clear hw4
 obtain ⟨g,hg⟩ : ∃ z,w.heap.size = z := ⟨_,rfl⟩
 rw [hg] at HA HC HR HN ⊢
 have HG := hid hg
 clear hg
 have e1 : (k1 == 6) = false := by simpa using h1
 obtain ⟨al,a0,a1⟩ := c2_at HA.out
 obtain ⟨cl,c0,c1⟩ := c2_at HC.out
 obtain ⟨nl,n0,n1⟩ := c2_at HN.out
 go_wp2_with fail
 clear al a0 a1 cl c0 c1 nl n0 n1
 refine (nullable_y k1 s1 _).mono ?_
 rw [nb]
 rintro e wn ⟨rfl,hbn⟩
 replace HA := hid ((hbn.block _ (Array.getElem?_eq_some_iff.1 HA.out).1).trans HA.out)
 replace HC := hid ((hbn.block _ (Array.getElem?_eq_some_iff.1 HC.out).1).trans HC.out)
 replace HR := hid ((hbn.block _ (Array.getElem?_eq_some_iff.1 HR.out).1).trans HR.out)
 replace HN := hid ((hbn.block _ (Array.getElem?_eq_some_iff.1 HN.out).1).trans HN.out)
 replace HB := hid (HB.out.trans (hbn.mono HB.out.size))
 clear hbn
 obtain ⟨al,a0,a1⟩ := c2_at HA.out
 obtain ⟨cl,c0,c1⟩ := c2_at HC.out
 obtain ⟨nl,n0,n1⟩ := c2_at HN.out
 obtain ⟨rl,rc,rf⟩ := boxN HR.out
 have r0 := rc 0 _ rfl
 have r1 := rc 1 _ rfl
 have z0 := rf 0
 have z1 := rf 1
 simp only [Nat.zero_add] at r0 r1
 clear rc rf
 go_wp2_with fail
 refine bodyPost_ret (v := tyv (k1,s1)) (by simp [*,results,Tryz.results184,go_sem,tyv]) rfl ?_
 exact ⟨rfl,HB.out.trans (set2_bl (by have := HG.out; omega) HB.out.size)⟩
theorem join_m2 (vt : Value) (k1 : Int) (s1 : ByteArray) (w : World) (h1 : ¬ k1 = 6) (nb : nulB k1 = false) :
  Calls Tryz.prog 184 #[vt,.agg #[.int .i64 k1,.string s1],.agg #[.int .i64 6,.string ⟨#[]⟩]] w fun e w' => e = .returned (tyv (7,es)) /\ Below w.heap.size w w' := by
 obtain ⟨w4,hw4⟩ : ∃ x,x = (((w.alloc (.cells #[.int .i64 k1,.string s1] 45)).alloc (.cells #[.int .i64 6,.string ⟨#[]⟩] 45)).alloc (.cells #[.int .i64 0,.string ⟨#[]⟩] 45)).alloc (.cells #[.int .i64 6,.string ⟨#[]⟩] 45) := ⟨_,rfl⟩
 have hb3 := (jbl2 w (.cells #[.int .i64 k1,.string s1] 45) (.cells #[.int .i64 6,.string ⟨#[]⟩] 45))
 have HB : Hid (Below w.heap.size w w4) := hid (by rw [hw4]; exact hb3.trans ((jbl2 _ _ _).mono hb3.size))
 have HA : Hid (w4.heap[w.heap.size]? = some (.cells #[.int .i64 k1,.string s1] 45 (0,0))) := hid (by rw [hw4,(jbl2 _ _ _).block _ (by simp; omega),(below_alR _ _).block _ (by simp)]; exact heap_alloc_new _ _)
 have HC : Hid (w4.heap[w.heap.size + 1]? = some (.cells #[.int .i64 6,.string ⟨#[]⟩] 45 (0,0))) := hid (by rw [hw4,(jbl2 _ _ _).block _ (by simp)]; exact jal2 _ _ _ _)
 have HR : Hid (w4.heap[w.heap.size + 2]? = some (.cells #[.int .i64 0,.string ⟨#[]⟩] 45 (0,0))) := hid (by rw [hw4,(below_alR _ _).block _ (by simp)]; have h := heap_alloc_new ((w.alloc (.cells #[.int .i64 k1,.string s1] 45)).alloc (.cells #[.int .i64 6,.string ⟨#[]⟩] 45)) (.cells #[.int .i64 0,.string ⟨#[]⟩] 45); simp only [World.size_alloc] at h; exact h)
 have HN : Hid (w4.heap[w.heap.size + 3]? = some (.cells #[.int .i64 6,.string ⟨#[]⟩] 45 (0,0))) := hid (by rw [hw4]; have h := heap_alloc_new (((w.alloc (.cells #[.int .i64 k1,.string s1] 45)).alloc (.cells #[.int .i64 6,.string ⟨#[]⟩] 45)).alloc (.cells #[.int .i64 0,.string ⟨#[]⟩] 45)) (.cells #[.int .i64 6,.string ⟨#[]⟩] 45); simp only [World.size_alloc] at h; exact h)
 clear hb3
 go_enter Tryz.func184,Tryz.ntmps184
 go_upto_region 2 with fail
 rw [<- hw4]
 clear hw4
 obtain ⟨g,hg⟩ : ∃ z,w.heap.size = z := ⟨_,rfl⟩
 rw [hg] at HA HC HR HN ⊢
 have HG := hid hg
 clear hg
 have e1 : (k1 == 6) = false := by simpa using h1
 obtain ⟨al,a0,a1⟩ := c2_at HA.out
 obtain ⟨cl,c0,c1⟩ := c2_at HC.out
 obtain ⟨nl,n0,n1⟩ := c2_at HN.out
 go_wp2_with fail
 clear al a0 a1 cl c0 c1 nl n0 n1
 refine (nullable_y k1 s1 _).mono ?_
 rw [nb]
 rintro e wn ⟨rfl,hbn⟩
 replace HA := hid ((hbn.block _ (Array.getElem?_eq_some_iff.1 HA.out).1).trans HA.out)
 replace HC := hid ((hbn.block _ (Array.getElem?_eq_some_iff.1 HC.out).1).trans HC.out)
 replace HR := hid ((hbn.block _ (Array.getElem?_eq_some_iff.1 HR.out).1).trans HR.out)
 replace HN := hid ((hbn.block _ (Array.getElem?_eq_some_iff.1 HN.out).1).trans HN.out)
 replace HB := hid (HB.out.trans (hbn.mono HB.out.size))
 clear hbn
 obtain ⟨al,a0,a1⟩ := c2_at HA.out
 obtain ⟨cl,c0,c1⟩ := c2_at HC.out
 obtain ⟨nl,n0,n1⟩ := c2_at HN.out
 go_wp2_with fail
 clear al a0 a1 cl c0 c1 nl n0 n1
 refine (refs_y k1 6 s1 ⟨#[]⟩ _).mono ?_
 rw [show decide (k1 = 4 /\ (6 : Int) = 4) = false by simp]
 rintro e wn ⟨rfl,hbn⟩
 replace HA := hid ((hbn.block _ (Array.getElem?_eq_some_iff.1 HA.out).1).trans HA.out)
 replace HC := hid ((hbn.block _ (Array.getElem?_eq_some_iff.1 HC.out).1).trans HC.out)
 replace HR := hid ((hbn.block _ (Array.getElem?_eq_some_iff.1 HR.out).1).trans HR.out)
 replace HN := hid ((hbn.block _ (Array.getElem?_eq_some_iff.1 HN.out).1).trans HN.out)
 replace HB := hid (HB.out.trans (hbn.mono HB.out.size))
 clear hbn
 obtain ⟨al,a0,a1⟩ := c2_at HA.out
 obtain ⟨cl,c0,c1⟩ := c2_at HC.out
 obtain ⟨nl,n0,n1⟩ := c2_at HN.out
 obtain ⟨rl,rc,rf⟩ := boxN HR.out
 have r0 := rc 0 _ rfl
 have r1 := rc 1 _ rfl
 have z0 := rf 0
 have z1 := rf 1
 simp only [Nat.zero_add] at r0 r1
 clear rc rf
 go_wp2_with fail
 refine bodyPost_ret (v := tyv (7,⟨#[]⟩)) (by simp [*,results,Tryz.results184,go_sem,tyv]) rfl ?_
 exact ⟨rfl,HB.out.trans (set2_bl (by have := HG.out; omega) HB.out.size)⟩
theorem join_m3 (vt : Value) (s1 : ByteArray) (w : World) (hs1 : ¬ s1 = ⟨#[]⟩) :
  Calls Tryz.prog 184 #[vt,.agg #[.int .i64 6,.string s1],.agg #[.int .i64 6,.string ⟨#[]⟩]] w fun e w' => e = .returned (tyv (7,es)) /\ Below w.heap.size w w' := by
 obtain ⟨w4,hw4⟩ : ∃ x,x = (((w.alloc (.cells #[.int .i64 6,.string s1] 45)).alloc (.cells #[.int .i64 6,.string ⟨#[]⟩] 45)).alloc (.cells #[.int .i64 0,.string ⟨#[]⟩] 45)).alloc (.cells #[.int .i64 6,.string ⟨#[]⟩] 45) := ⟨_,rfl⟩
 have hb3 := (jbl2 w (.cells #[.int .i64 6,.string s1] 45) (.cells #[.int .i64 6,.string ⟨#[]⟩] 45))
 have HB : Hid (Below w.heap.size w w4) := hid (by rw [hw4]; exact hb3.trans ((jbl2 _ _ _).mono hb3.size))
 have HA : Hid (w4.heap[w.heap.size]? = some (.cells #[.int .i64 6,.string s1] 45 (0,0))) := hid (by rw [hw4,(jbl2 _ _ _).block _ (by simp; omega),(below_alR _ _).block _ (by simp)]; exact heap_alloc_new _ _)
 have HC : Hid (w4.heap[w.heap.size + 1]? = some (.cells #[.int .i64 6,.string ⟨#[]⟩] 45 (0,0))) := hid (by rw [hw4,(jbl2 _ _ _).block _ (by simp)]; exact jal2 _ _ _ _)
 have HR : Hid (w4.heap[w.heap.size + 2]? = some (.cells #[.int .i64 0,.string ⟨#[]⟩] 45 (0,0))) := hid (by rw [hw4,(below_alR _ _).block _ (by simp)]; have h := heap_alloc_new ((w.alloc (.cells #[.int .i64 6,.string s1] 45)).alloc (.cells #[.int .i64 6,.string ⟨#[]⟩] 45)) (.cells #[.int .i64 0,.string ⟨#[]⟩] 45); simp only [World.size_alloc] at h; exact h)
 have HN : Hid (w4.heap[w.heap.size + 3]? = some (.cells #[.int .i64 6,.string ⟨#[]⟩] 45 (0,0))) := hid (by rw [hw4]; have h := heap_alloc_new (((w.alloc (.cells #[.int .i64 6,.string s1] 45)).alloc (.cells #[.int .i64 6,.string ⟨#[]⟩] 45)).alloc (.cells #[.int .i64 0,.string ⟨#[]⟩] 45)) (.cells #[.int .i64 6,.string ⟨#[]⟩] 45); simp only [World.size_alloc] at h; exact h)
 clear hb3
 go_enter Tryz.func184,Tryz.ntmps184
 go_upto_region 2 with fail
 rw [<- hw4]
 clear hw4
 obtain ⟨g,hg⟩ : ∃ z,w.heap.size = z := ⟨_,rfl⟩
 rw [hg] at HA HC HR HN ⊢
 have HG := hid hg
 clear hg
 have t1 : ¬ s1.toList = [] := nil_ne hs1
 obtain ⟨al,a0,a1⟩ := c2_at HA.out
 obtain ⟨cl,c0,c1⟩ := c2_at HC.out
 obtain ⟨nl,n0,n1⟩ := c2_at HN.out
 go_wp2_with fail
 clear al a0 a1 cl c0 c1 nl n0 n1
 refine (nullable_y 6 s1 _).mono ?_
 rw [show nulB 6 = false by decide]
 rintro e wn ⟨rfl,hbn⟩
 replace HA := hid ((hbn.block _ (Array.getElem?_eq_some_iff.1 HA.out).1).trans HA.out)
 replace HC := hid ((hbn.block _ (Array.getElem?_eq_some_iff.1 HC.out).1).trans HC.out)
 replace HR := hid ((hbn.block _ (Array.getElem?_eq_some_iff.1 HR.out).1).trans HR.out)
 replace HN := hid ((hbn.block _ (Array.getElem?_eq_some_iff.1 HN.out).1).trans HN.out)
 replace HB := hid (HB.out.trans (hbn.mono HB.out.size))
 clear hbn
 obtain ⟨al,a0,a1⟩ := c2_at HA.out
 obtain ⟨cl,c0,c1⟩ := c2_at HC.out
 obtain ⟨nl,n0,n1⟩ := c2_at HN.out
 go_wp2_with fail
 clear al a0 a1 cl c0 c1 nl n0 n1
 refine (refs_y 6 6 s1 ⟨#[]⟩ _).mono ?_
 rw [show decide ((6 : Int) = 4 /\ (6 : Int) = 4) = false by decide]
 rintro e wn ⟨rfl,hbn⟩
 replace HA := hid ((hbn.block _ (Array.getElem?_eq_some_iff.1 HA.out).1).trans HA.out)
 replace HC := hid ((hbn.block _ (Array.getElem?_eq_some_iff.1 HC.out).1).trans HC.out)
 replace HR := hid ((hbn.block _ (Array.getElem?_eq_some_iff.1 HR.out).1).trans HR.out)
 replace HN := hid ((hbn.block _ (Array.getElem?_eq_some_iff.1 HN.out).1).trans HN.out)
 replace HB := hid (HB.out.trans (hbn.mono HB.out.size))
 clear hbn
 obtain ⟨al,a0,a1⟩ := c2_at HA.out
 obtain ⟨cl,c0,c1⟩ := c2_at HC.out
 obtain ⟨nl,n0,n1⟩ := c2_at HN.out
 obtain ⟨rl,rc,rf⟩ := boxN HR.out
 have r0 := rc 0 _ rfl
 have r1 := rc 1 _ rfl
 have z0 := rf 0
 have z1 := rf 1
 simp only [Nat.zero_add] at r0 r1
 clear rc rf
 go_wp2_with fail
 refine bodyPost_ret (v := tyv (7,⟨#[]⟩)) (by simp [*,results,Tryz.results184,go_sem,tyv]) rfl ?_
 exact ⟨rfl,HB.out.trans (set2_bl (by have := HG.out; omega) HB.out.size)⟩
theorem join_t1 (vt : Value) (k1 k2 : Int) (s1 s2 : ByteArray) (w : World) (h12 : ¬ k1 = k2) (h1 : ¬ k1 = 6) (h2 : ¬ k2 = 6) (h4 : decide (k1 = 4 /\ k2 = 4) = false) :
  Calls Tryz.prog 184 #[vt,.agg #[.int .i64 k1,.string s1],.agg #[.int .i64 k2,.string s2]] w fun e w' => e = .returned (tyv (7,es)) /\ Below w.heap.size w w' := by
 obtain ⟨w4,hw4⟩ : ∃ x,x = (((w.alloc (.cells #[.int .i64 k1,.string s1] 45)).alloc (.cells #[.int .i64 k2,.string s2] 45)).alloc (.cells #[.int .i64 0,.string ⟨#[]⟩] 45)).alloc (.cells #[.int .i64 6,.string ⟨#[]⟩] 45) := ⟨_,rfl⟩
 have hb3 := (jbl2 w (.cells #[.int .i64 k1,.string s1] 45) (.cells #[.int .i64 k2,.string s2] 45))
 have HB : Hid (Below w.heap.size w w4) := hid (by rw [hw4]; exact hb3.trans ((jbl2 _ _ _).mono hb3.size))
 have HA : Hid (w4.heap[w.heap.size]? = some (.cells #[.int .i64 k1,.string s1] 45 (0,0))) := hid (by rw [hw4,(jbl2 _ _ _).block _ (by simp; omega),(below_alR _ _).block _ (by simp)]; exact heap_alloc_new _ _)
 have HC : Hid (w4.heap[w.heap.size + 1]? = some (.cells #[.int .i64 k2,.string s2] 45 (0,0))) := hid (by rw [hw4,(jbl2 _ _ _).block _ (by simp)]; exact jal2 _ _ _ _)
 have HR : Hid (w4.heap[w.heap.size + 2]? = some (.cells #[.int .i64 0,.string ⟨#[]⟩] 45 (0,0))) := hid (by rw [hw4,(below_alR _ _).block _ (by simp)]; have h := heap_alloc_new ((w.alloc (.cells #[.int .i64 k1,.string s1] 45)).alloc (.cells #[.int .i64 k2,.string s2] 45)) (.cells #[.int .i64 0,.string ⟨#[]⟩] 45); simp only [World.size_alloc] at h; exact h)
 have HN : Hid (w4.heap[w.heap.size + 3]? = some (.cells #[.int .i64 6,.string ⟨#[]⟩] 45 (0,0))) := hid (by rw [hw4]; have h := heap_alloc_new (((w.alloc (.cells #[.int .i64 k1,.string s1] 45)).alloc (.cells #[.int .i64 k2,.string s2] 45)).alloc (.cells #[.int .i64 0,.string ⟨#[]⟩] 45)) (.cells #[.int .i64 6,.string ⟨#[]⟩] 45); simp only [World.size_alloc] at h; exact h)
 clear hb3
 go_enter Tryz.func184,Tryz.ntmps184
 go_upto_region 2 with fail
 rw [<- hw4]
 clear hw4
 obtain ⟨g,hg⟩ : ∃ z,w.heap.size = z := ⟨_,rfl⟩
 rw [hg] at HA HC HR HN ⊢
 have HG := hid hg
 clear hg
 have e12 : (k1 == k2) = false := by simpa using h12
 have e1 : (k1 == 6) = false := by simpa using h1
 have e2 : (k2 == 6) = false := by simpa using h2
 obtain ⟨al,a0,a1⟩ := c2_at HA.out
 obtain ⟨cl,c0,c1⟩ := c2_at HC.out
 obtain ⟨nl,n0,n1⟩ := c2_at HN.out
 go_wp2_with fail
 clear al a0 a1 cl c0 c1 nl n0 n1
 refine (refs_y k1 k2 s1 s2 _).mono ?_
 rw [h4]
 rintro e wn ⟨rfl,hbn⟩
 replace HA := hid ((hbn.block _ (Array.getElem?_eq_some_iff.1 HA.out).1).trans HA.out)
 replace HC := hid ((hbn.block _ (Array.getElem?_eq_some_iff.1 HC.out).1).trans HC.out)
 replace HR := hid ((hbn.block _ (Array.getElem?_eq_some_iff.1 HR.out).1).trans HR.out)
 replace HN := hid ((hbn.block _ (Array.getElem?_eq_some_iff.1 HN.out).1).trans HN.out)
 replace HB := hid (HB.out.trans (hbn.mono HB.out.size))
 clear hbn
 obtain ⟨al,a0,a1⟩ := c2_at HA.out
 obtain ⟨cl,c0,c1⟩ := c2_at HC.out
 obtain ⟨nl,n0,n1⟩ := c2_at HN.out
 obtain ⟨rl,rc,rf⟩ := boxN HR.out
 have r0 := rc 0 _ rfl
 have r1 := rc 1 _ rfl
 have z0 := rf 0
 have z1 := rf 1
 simp only [Nat.zero_add] at r0 r1
 clear rc rf
 go_wp2_with fail
 refine bodyPost_ret (v := tyv (7,⟨#[]⟩)) (by simp [*,results,Tryz.results184,go_sem,tyv]) rfl ?_
 exact ⟨rfl,HB.out.trans (set2_bl (by have := HG.out; omega) HB.out.size)⟩
theorem join_t2 (vt : Value) (k2 : Int) (s1 s2 : ByteArray) (w : World) (hs1 : ¬ s1 = ⟨#[]⟩) (h2 : ¬ k2 = 6) :
  Calls Tryz.prog 184 #[vt,.agg #[.int .i64 6,.string s1],.agg #[.int .i64 k2,.string s2]] w fun e w' => e = .returned (tyv (7,es)) /\ Below w.heap.size w w' := by
 obtain ⟨w4,hw4⟩ : ∃ x,x = (((w.alloc (.cells #[.int .i64 6,.string s1] 45)).alloc (.cells #[.int .i64 k2,.string s2] 45)).alloc (.cells #[.int .i64 0,.string ⟨#[]⟩] 45)).alloc (.cells #[.int .i64 6,.string ⟨#[]⟩] 45) := ⟨_,rfl⟩
 have hb3 := (jbl2 w (.cells #[.int .i64 6,.string s1] 45) (.cells #[.int .i64 k2,.string s2] 45))
 have HB : Hid (Below w.heap.size w w4) := hid (by rw [hw4]; exact hb3.trans ((jbl2 _ _ _).mono hb3.size))
 have HA : Hid (w4.heap[w.heap.size]? = some (.cells #[.int .i64 6,.string s1] 45 (0,0))) := hid (by rw [hw4,(jbl2 _ _ _).block _ (by simp; omega),(below_alR _ _).block _ (by simp)]; exact heap_alloc_new _ _)
 have HC : Hid (w4.heap[w.heap.size + 1]? = some (.cells #[.int .i64 k2,.string s2] 45 (0,0))) := hid (by rw [hw4,(jbl2 _ _ _).block _ (by simp)]; exact jal2 _ _ _ _)
 have HR : Hid (w4.heap[w.heap.size + 2]? = some (.cells #[.int .i64 0,.string ⟨#[]⟩] 45 (0,0))) := hid (by rw [hw4,(below_alR _ _).block _ (by simp)]; have h := heap_alloc_new ((w.alloc (.cells #[.int .i64 6,.string s1] 45)).alloc (.cells #[.int .i64 k2,.string s2] 45)) (.cells #[.int .i64 0,.string ⟨#[]⟩] 45); simp only [World.size_alloc] at h; exact h)
 have HN : Hid (w4.heap[w.heap.size + 3]? = some (.cells #[.int .i64 6,.string ⟨#[]⟩] 45 (0,0))) := hid (by rw [hw4]; have h := heap_alloc_new (((w.alloc (.cells #[.int .i64 6,.string s1] 45)).alloc (.cells #[.int .i64 k2,.string s2] 45)).alloc (.cells #[.int .i64 0,.string ⟨#[]⟩] 45)) (.cells #[.int .i64 6,.string ⟨#[]⟩] 45); simp only [World.size_alloc] at h; exact h)
 clear hb3
 go_enter Tryz.func184,Tryz.ntmps184
 go_upto_region 2 with fail
 rw [<- hw4]
 clear hw4
 obtain ⟨g,hg⟩ : ∃ z,w.heap.size = z := ⟨_,rfl⟩
 rw [hg] at HA HC HR HN ⊢
 have HG := hid hg
 clear hg
 have t1 : ¬ s1.toList = [] := nil_ne hs1
 have e26 : ¬ 6 = k2 := fun h => h2 h.symm
 have e2 : (k2 == 6) = false := by simpa using h2
 obtain ⟨al,a0,a1⟩ := c2_at HA.out
 obtain ⟨cl,c0,c1⟩ := c2_at HC.out
 obtain ⟨nl,n0,n1⟩ := c2_at HN.out
 go_wp2_with fail
 clear al a0 a1 cl c0 c1 nl n0 n1
 refine (refs_y 6 k2 s1 s2 _).mono ?_
 rw [show decide ((6 : Int) = 4 /\ k2 = 4) = false by simp]
 rintro e wn ⟨rfl,hbn⟩
 replace HA := hid ((hbn.block _ (Array.getElem?_eq_some_iff.1 HA.out).1).trans HA.out)
 replace HC := hid ((hbn.block _ (Array.getElem?_eq_some_iff.1 HC.out).1).trans HC.out)
 replace HR := hid ((hbn.block _ (Array.getElem?_eq_some_iff.1 HR.out).1).trans HR.out)
 replace HN := hid ((hbn.block _ (Array.getElem?_eq_some_iff.1 HN.out).1).trans HN.out)
 replace HB := hid (HB.out.trans (hbn.mono HB.out.size))
 clear hbn
 obtain ⟨al,a0,a1⟩ := c2_at HA.out
 obtain ⟨cl,c0,c1⟩ := c2_at HC.out
 obtain ⟨nl,n0,n1⟩ := c2_at HN.out
 obtain ⟨rl,rc,rf⟩ := boxN HR.out
 have r0 := rc 0 _ rfl
 have r1 := rc 1 _ rfl
 have z0 := rf 0
 have z1 := rf 1
 simp only [Nat.zero_add] at r0 r1
 clear rc rf
 go_wp2_with fail
 refine bodyPost_ret (v := tyv (7,⟨#[]⟩)) (by simp [*,results,Tryz.results184,go_sem,tyv]) rfl ?_
 exact ⟨rfl,HB.out.trans (set2_bl (by have := HG.out; omega) HB.out.size)⟩
theorem join_t3 (vt : Value) (k1 : Int) (s1 s2 : ByteArray) (w : World) (h1 : ¬ k1 = 6) (hs2 : ¬ s2 = ⟨#[]⟩) :
  Calls Tryz.prog 184 #[vt,.agg #[.int .i64 k1,.string s1],.agg #[.int .i64 6,.string s2]] w fun e w' => e = .returned (tyv (7,es)) /\ Below w.heap.size w w' := by
 obtain ⟨w4,hw4⟩ : ∃ x,x = (((w.alloc (.cells #[.int .i64 k1,.string s1] 45)).alloc (.cells #[.int .i64 6,.string s2] 45)).alloc (.cells #[.int .i64 0,.string ⟨#[]⟩] 45)).alloc (.cells #[.int .i64 6,.string ⟨#[]⟩] 45) := ⟨_,rfl⟩
 have hb3 := (jbl2 w (.cells #[.int .i64 k1,.string s1] 45) (.cells #[.int .i64 6,.string s2] 45))
 have HB : Hid (Below w.heap.size w w4) := hid (by rw [hw4]; exact hb3.trans ((jbl2 _ _ _).mono hb3.size))
 have HA : Hid (w4.heap[w.heap.size]? = some (.cells #[.int .i64 k1,.string s1] 45 (0,0))) := hid (by rw [hw4,(jbl2 _ _ _).block _ (by simp; omega),(below_alR _ _).block _ (by simp)]; exact heap_alloc_new _ _)
 have HC : Hid (w4.heap[w.heap.size + 1]? = some (.cells #[.int .i64 6,.string s2] 45 (0,0))) := hid (by rw [hw4,(jbl2 _ _ _).block _ (by simp)]; exact jal2 _ _ _ _)
 have HR : Hid (w4.heap[w.heap.size + 2]? = some (.cells #[.int .i64 0,.string ⟨#[]⟩] 45 (0,0))) := hid (by rw [hw4,(below_alR _ _).block _ (by simp)]; have h := heap_alloc_new ((w.alloc (.cells #[.int .i64 k1,.string s1] 45)).alloc (.cells #[.int .i64 6,.string s2] 45)) (.cells #[.int .i64 0,.string ⟨#[]⟩] 45); simp only [World.size_alloc] at h; exact h)
 have HN : Hid (w4.heap[w.heap.size + 3]? = some (.cells #[.int .i64 6,.string ⟨#[]⟩] 45 (0,0))) := hid (by rw [hw4]; have h := heap_alloc_new (((w.alloc (.cells #[.int .i64 k1,.string s1] 45)).alloc (.cells #[.int .i64 6,.string s2] 45)).alloc (.cells #[.int .i64 0,.string ⟨#[]⟩] 45)) (.cells #[.int .i64 6,.string ⟨#[]⟩] 45); simp only [World.size_alloc] at h; exact h)
 clear hb3
 go_enter Tryz.func184,Tryz.ntmps184
 go_upto_region 2 with fail
 rw [<- hw4]
 clear hw4
 obtain ⟨g,hg⟩ : ∃ z,w.heap.size = z := ⟨_,rfl⟩
 rw [hg] at HA HC HR HN ⊢
 have HG := hid hg
 clear hg
 have t2 : ¬ s2.toList = [] := nil_ne hs2
 have e1 : (k1 == 6) = false := by simpa using h1
 obtain ⟨al,a0,a1⟩ := c2_at HA.out
 obtain ⟨cl,c0,c1⟩ := c2_at HC.out
 obtain ⟨nl,n0,n1⟩ := c2_at HN.out
 go_wp2_with fail
 clear al a0 a1 cl c0 c1 nl n0 n1
 refine (refs_y k1 6 s1 s2 _).mono ?_
 rw [show decide (k1 = 4 /\ (6 : Int) = 4) = false by simp]
 rintro e wn ⟨rfl,hbn⟩
 replace HA := hid ((hbn.block _ (Array.getElem?_eq_some_iff.1 HA.out).1).trans HA.out)
 replace HC := hid ((hbn.block _ (Array.getElem?_eq_some_iff.1 HC.out).1).trans HC.out)
 replace HR := hid ((hbn.block _ (Array.getElem?_eq_some_iff.1 HR.out).1).trans HR.out)
 replace HN := hid ((hbn.block _ (Array.getElem?_eq_some_iff.1 HN.out).1).trans HN.out)
 replace HB := hid (HB.out.trans (hbn.mono HB.out.size))
 clear hbn
 obtain ⟨al,a0,a1⟩ := c2_at HA.out
 obtain ⟨cl,c0,c1⟩ := c2_at HC.out
 obtain ⟨nl,n0,n1⟩ := c2_at HN.out
 obtain ⟨rl,rc,rf⟩ := boxN HR.out
 have r0 := rc 0 _ rfl
 have r1 := rc 1 _ rfl
 have z0 := rf 0
 have z1 := rf 1
 simp only [Nat.zero_add] at r0 r1
 clear rc rf
 go_wp2_with fail
 refine bodyPost_ret (v := tyv (7,⟨#[]⟩)) (by simp [*,results,Tryz.results184,go_sem,tyv]) rfl ?_
 exact ⟨rfl,HB.out.trans (set2_bl (by have := HG.out; omega) HB.out.size)⟩
theorem join_t4 (vt : Value) (k1 : Int) (s1 s2 : ByteArray) (w : World) (hs : ¬ s1 = s2) (h1 : ¬ k1 = 6) (h4 : ¬ k1 = 4) :
  Calls Tryz.prog 184 #[vt,.agg #[.int .i64 k1,.string s1],.agg #[.int .i64 k1,.string s2]] w fun e w' => e = .returned (tyv (7,es)) /\ Below w.heap.size w w' := by
 obtain ⟨w4,hw4⟩ : ∃ x,x = (((w.alloc (.cells #[.int .i64 k1,.string s1] 45)).alloc (.cells #[.int .i64 k1,.string s2] 45)).alloc (.cells #[.int .i64 0,.string ⟨#[]⟩] 45)).alloc (.cells #[.int .i64 6,.string ⟨#[]⟩] 45) := ⟨_,rfl⟩
 have hb3 := (jbl2 w (.cells #[.int .i64 k1,.string s1] 45) (.cells #[.int .i64 k1,.string s2] 45))
 have HB : Hid (Below w.heap.size w w4) := hid (by rw [hw4]; exact hb3.trans ((jbl2 _ _ _).mono hb3.size))
 have HA : Hid (w4.heap[w.heap.size]? = some (.cells #[.int .i64 k1,.string s1] 45 (0,0))) := hid (by rw [hw4,(jbl2 _ _ _).block _ (by simp; omega),(below_alR _ _).block _ (by simp)]; exact heap_alloc_new _ _)
 have HC : Hid (w4.heap[w.heap.size + 1]? = some (.cells #[.int .i64 k1,.string s2] 45 (0,0))) := hid (by rw [hw4,(jbl2 _ _ _).block _ (by simp)]; exact jal2 _ _ _ _)
 have HR : Hid (w4.heap[w.heap.size + 2]? = some (.cells #[.int .i64 0,.string ⟨#[]⟩] 45 (0,0))) := hid (by rw [hw4,(below_alR _ _).block _ (by simp)]; have h := heap_alloc_new ((w.alloc (.cells #[.int .i64 k1,.string s1] 45)).alloc (.cells #[.int .i64 k1,.string s2] 45)) (.cells #[.int .i64 0,.string ⟨#[]⟩] 45); simp only [World.size_alloc] at h; exact h)
 have HN : Hid (w4.heap[w.heap.size + 3]? = some (.cells #[.int .i64 6,.string ⟨#[]⟩] 45 (0,0))) := hid (by rw [hw4]; have h := heap_alloc_new (((w.alloc (.cells #[.int .i64 k1,.string s1] 45)).alloc (.cells #[.int .i64 k1,.string s2] 45)).alloc (.cells #[.int .i64 0,.string ⟨#[]⟩] 45)) (.cells #[.int .i64 6,.string ⟨#[]⟩] 45); simp only [World.size_alloc] at h; exact h)
 clear hb3
 go_enter Tryz.func184,Tryz.ntmps184
 go_upto_region 2 with fail
 rw [<- hw4]
 clear hw4
 obtain ⟨g,hg⟩ : ∃ z,w.heap.size = z := ⟨_,rfl⟩
 rw [hg] at HA HC HR HN ⊢
 have HG := hid hg
 clear hg
 have t12 := Go.Proofs.YtfpeakkbbfnhcaaGreat.txt_ne hs
 have t13 : ¬ s1.toList = s2.toList := fun h => by rw [h] at t12; simp at t12
 have e1 : (k1 == 6) = false := by simpa using h1
 obtain ⟨al,a0,a1⟩ := c2_at HA.out
 obtain ⟨cl,c0,c1⟩ := c2_at HC.out
 obtain ⟨nl,n0,n1⟩ := c2_at HN.out
 go_wp2_with fail
 clear al a0 a1 cl c0 c1 nl n0 n1
 refine (refs_y k1 k1 s1 s2 _).mono ?_
 rw [show decide (k1 = 4 /\ k1 = 4) = false by simp [h4]]
 rintro e wn ⟨rfl,hbn⟩
 replace HA := hid ((hbn.block _ (Array.getElem?_eq_some_iff.1 HA.out).1).trans HA.out)
 replace HC := hid ((hbn.block _ (Array.getElem?_eq_some_iff.1 HC.out).1).trans HC.out)
 replace HR := hid ((hbn.block _ (Array.getElem?_eq_some_iff.1 HR.out).1).trans HR.out)
 replace HN := hid ((hbn.block _ (Array.getElem?_eq_some_iff.1 HN.out).1).trans HN.out)
 replace HB := hid (HB.out.trans (hbn.mono HB.out.size))
 clear hbn
 obtain ⟨al,a0,a1⟩ := c2_at HA.out
 obtain ⟨cl,c0,c1⟩ := c2_at HC.out
 obtain ⟨nl,n0,n1⟩ := c2_at HN.out
 obtain ⟨rl,rc,rf⟩ := boxN HR.out
 have r0 := rc 0 _ rfl
 have r1 := rc 1 _ rfl
 have z0 := rf 0
 have z1 := rf 1
 simp only [Nat.zero_add] at r0 r1
 clear rc rf
 go_wp2_with fail
 refine bodyPost_ret (v := tyv (7,⟨#[]⟩)) (by simp [*,results,Tryz.results184,go_sem,tyv]) rfl ?_
 exact ⟨rfl,HB.out.trans (set2_bl (by have := HG.out; omega) HB.out.size)⟩
theorem join_t5 (vt : Value) (s1 s2 : ByteArray) (w : World) (hs : ¬ s1 = s2) (hs1 : ¬ s1 = ⟨#[]⟩) (hs2 : ¬ s2 = ⟨#[]⟩) :
  Calls Tryz.prog 184 #[vt,.agg #[.int .i64 6,.string s1],.agg #[.int .i64 6,.string s2]] w fun e w' => e = .returned (tyv (7,es)) /\ Below w.heap.size w w' := by
 obtain ⟨w4,hw4⟩ : ∃ x,x = (((w.alloc (.cells #[.int .i64 6,.string s1] 45)).alloc (.cells #[.int .i64 6,.string s2] 45)).alloc (.cells #[.int .i64 0,.string ⟨#[]⟩] 45)).alloc (.cells #[.int .i64 6,.string ⟨#[]⟩] 45) := ⟨_,rfl⟩
 have hb3 := (jbl2 w (.cells #[.int .i64 6,.string s1] 45) (.cells #[.int .i64 6,.string s2] 45))
 have HB : Hid (Below w.heap.size w w4) := hid (by rw [hw4]; exact hb3.trans ((jbl2 _ _ _).mono hb3.size))
 have HA : Hid (w4.heap[w.heap.size]? = some (.cells #[.int .i64 6,.string s1] 45 (0,0))) := hid (by rw [hw4,(jbl2 _ _ _).block _ (by simp; omega),(below_alR _ _).block _ (by simp)]; exact heap_alloc_new _ _)
 have HC : Hid (w4.heap[w.heap.size + 1]? = some (.cells #[.int .i64 6,.string s2] 45 (0,0))) := hid (by rw [hw4,(jbl2 _ _ _).block _ (by simp)]; exact jal2 _ _ _ _)
 have HR : Hid (w4.heap[w.heap.size + 2]? = some (.cells #[.int .i64 0,.string ⟨#[]⟩] 45 (0,0))) := hid (by rw [hw4,(below_alR _ _).block _ (by simp)]; have h := heap_alloc_new ((w.alloc (.cells #[.int .i64 6,.string s1] 45)).alloc (.cells #[.int .i64 6,.string s2] 45)) (.cells #[.int .i64 0,.string ⟨#[]⟩] 45); simp only [World.size_alloc] at h; exact h)
 have HN : Hid (w4.heap[w.heap.size + 3]? = some (.cells #[.int .i64 6,.string ⟨#[]⟩] 45 (0,0))) := hid (by rw [hw4]; have h := heap_alloc_new (((w.alloc (.cells #[.int .i64 6,.string s1] 45)).alloc (.cells #[.int .i64 6,.string s2] 45)).alloc (.cells #[.int .i64 0,.string ⟨#[]⟩] 45)) (.cells #[.int .i64 6,.string ⟨#[]⟩] 45); simp only [World.size_alloc] at h; exact h)
 clear hb3
 go_enter Tryz.func184,Tryz.ntmps184
 go_upto_region 2 with fail
 rw [<- hw4]
 clear hw4
 obtain ⟨g,hg⟩ : ∃ z,w.heap.size = z := ⟨_,rfl⟩
 rw [hg] at HA HC HR HN ⊢
 have HG := hid hg
 clear hg
 have t12 := Go.Proofs.YtfpeakkbbfnhcaaGreat.txt_ne hs
 have t13 : ¬ s1.toList = s2.toList := fun h => by rw [h] at t12; simp at t12
 have t1 : ¬ s1.toList = [] := nil_ne hs1
 have t2 : ¬ s2.toList = [] := nil_ne hs2
 obtain ⟨al,a0,a1⟩ := c2_at HA.out
 obtain ⟨cl,c0,c1⟩ := c2_at HC.out
 obtain ⟨nl,n0,n1⟩ := c2_at HN.out
 go_wp2_with fail
 clear al a0 a1 cl c0 c1 nl n0 n1
 refine (refs_y 6 6 s1 s2 _).mono ?_
 rw [show decide ((6 : Int) = 4 /\ (6 : Int) = 4) = false by decide]
 rintro e wn ⟨rfl,hbn⟩
 replace HA := hid ((hbn.block _ (Array.getElem?_eq_some_iff.1 HA.out).1).trans HA.out)
 replace HC := hid ((hbn.block _ (Array.getElem?_eq_some_iff.1 HC.out).1).trans HC.out)
 replace HR := hid ((hbn.block _ (Array.getElem?_eq_some_iff.1 HR.out).1).trans HR.out)
 replace HN := hid ((hbn.block _ (Array.getElem?_eq_some_iff.1 HN.out).1).trans HN.out)
 replace HB := hid (HB.out.trans (hbn.mono HB.out.size))
 clear hbn
 obtain ⟨al,a0,a1⟩ := c2_at HA.out
 obtain ⟨cl,c0,c1⟩ := c2_at HC.out
 obtain ⟨nl,n0,n1⟩ := c2_at HN.out
 obtain ⟨rl,rc,rf⟩ := boxN HR.out
 have r0 := rc 0 _ rfl
 have r1 := rc 1 _ rfl
 have z0 := rf 0
 have z1 := rf 1
 simp only [Nat.zero_add] at r0 r1
 clear rc rf
 go_wp2_with fail
 refine bodyPost_ret (v := tyv (7,⟨#[]⟩)) (by simp [*,results,Tryz.results184,go_sem,tyv]) rfl ?_
 exact ⟨rfl,HB.out.trans (set2_bl (by have := HG.out; omega) HB.out.size)⟩
end Go.Proofs.YtfpeakkbbfnhcaaGreat.R
namespace Go.Proofs.YtfpeakkbbfnhcaaGreat.A
open Go.RowKit Go.Proofs.YtfpeakkbbfnhcaaGreat.D Go.Proofs.YtfpeakkbbfnhcaaGreat.O
def InsAns (x : Ins) (w : World) (e : Ending) (w' : World) : Prop := e = .returned (insV x) /\ Below w.heap.size w w'
theorem one_v (o : Int) (w : World) : Calls Tryz.prog 27 #[.int .i64 o] w (InsAns (iOne o) w) := by
 go_enter Tryz.func27,Tryz.ntmps27
 go_wp2
 refine bodyPost_ret (v := insV (iOne o)) (by simp [results,Tryz.results27,go_sem,insV,iOne,es]) rfl ⟨rfl,?_⟩
 exact (Below.refl _ _).alloc (Nat.le_refl _) _
theorem at_v (o k : Int) (w : World) : Calls Tryz.prog 28 #[.int .i64 o,.int .i64 k] w (InsAns (iAt o k) w) := by
 go_enter Tryz.func28,Tryz.ntmps28
 go_wp2
 refine bodyPost_ret (v := insV (iAt o k)) (by simp [results,Tryz.results28,go_sem,insV,iAt,es]) rfl ⟨rfl,?_⟩
 exact (Below.refl _ _).alloc (Nat.le_refl _) _
theorem num_v (n : Int) (w : World) (hn : -2147483648 <= n /\ n <= 2147483647) : Calls Tryz.prog 60 #[.int .i64 n] w (InsAns (iNum n) w) := by
 go_enter Tryz.func60,Tryz.ntmps60
 go_wp2
 refine bodyPost_ret (v := insV (iNum n)) (by simp [results,Tryz.results60,go_sem,insV,iNum,es]) rfl ⟨rfl,?_⟩
 exact (Below.refl _ _).alloc (Nat.le_refl _) _
theorem str_v (s : ByteArray) (w : World) : Calls Tryz.prog 61 #[.string s] w (InsAns (iStr s) w) := by
 go_enter Tryz.func61,Tryz.ntmps61
 go_wp2
 refine bodyPost_ret (v := insV (iStr s)) (by simp [results,Tryz.results61,go_sem,insV,iStr,es]) rfl ⟨rfl,?_⟩
 exact (Below.refl _ _).alloc (Nat.le_refl _) _
theorem of_v (o : Int) (c : ByteArray) (w : World) : Calls Tryz.prog 26 #[.int .i64 o,.string c] w (InsAns (iOf o c) w) := by
 go_enter Tryz.func26,Tryz.ntmps26
 go_wp2
 refine bodyPost_ret (v := insV (iOf o c)) (by simp [results,Tryz.results26,go_sem,insV,iOf,es]) rfl ⟨rfl,?_⟩
 exact (Below.refl _ _).alloc (Nat.le_refl _) _
theorem part_v (o : Int) (c m : ByteArray) (w : World) : Calls Tryz.prog 66 #[.int .i64 o,.string c,.string m] w (InsAns (iPart o c m) w) := by
 go_enter Tryz.func66,Tryz.ntmps66
 go_wp2
 refine bodyPost_ret (v := insV (iPart o c m)) (by simp [results,Tryz.results66,go_sem,insV,iPart,es]) rfl ⟨rfl,?_⟩
 exact (Below.refl _ _).alloc (Nat.le_refl _) _
theorem call_v (o : Int) (c m d : ByteArray) (w : World) : Calls Tryz.prog 65 #[.int .i64 o,.string c,.string m,.string d] w (InsAns (iCall o c m d) w) := by
 go_enter Tryz.func65,Tryz.ntmps65
 go_wp2
 refine bodyPost_ret (v := insV (iCall o c m d)) (by simp [results,Tryz.results65,go_sem,insV,iCall,es]) rfl ⟨rfl,?_⟩
 exact (Below.refl _ _).alloc (Nat.le_refl _) _
def BdP (w : World) (B bb : Nat) (vl vh : Value) (st : BS) : Prop :=
 w.heap[bb]? = some (.cells #[vl,vh] 130 (0,0)) /\ B <= bb /\ OwnX 7 59 (sP insC) w B vl st.1 /\ OwnX 4 68 (sP hndC) w B vh st.2 /\
 vl.ownBlock ≠ some bb /\ vh.ownBlock ≠ some bb /\ (∀ g,vl.ownBlock = some g -> vh.ownBlock ≠ some g)
def Bd (w : World) (B bb : Nat) (st : BS) : Prop := ∃ vl vh,BdP w B bb vl vh st
theorem OwnX.kptS {α : Type} {sz : Nat} {T : TypeId} {c : α -> List Value} {w w' : World} {B : Nat} {v : Value} {xs : List α} {S : List Nat} (h : OwnX sz T (sP c) w B v xs) (hk : Kpt S w w') (hS : ∀ g,v.ownBlock = some g -> g ∉ S) : OwnX sz T (sP c) w' B v xs := by
 obtain ⟨cs,h1,h2⟩ := h
 have hlt := World.ownsRow.lt h1
 refine ⟨cs,⟨h1.1,?_⟩,h2⟩
 rcases h1.2 with hn | ⟨g,cap,cur,rfl,hb,hg,rest⟩
 ·exact .inl hn
 ·exact .inr ⟨g,cap,cur,rfl,hb,by rw [hk.2 g (hlt g rfl).2 (hS g rfl)]; exact hg,rest⟩
theorem BdP.lt {w : World} {B bb : Nat} {vl vh : Value} {st : BS} (h : BdP w B bb vl vh st) : bb < w.heap.size := (Array.getElem?_eq_some_iff.1 h.1).1
theorem BdP.cells {w : World} {B bb : Nat} {vl vh : Value} {st : BS} (h : BdP w B bb vl vh st) : bb < w.heap.size /\ w.cell? ⟨bb,0,none⟩ = some vl /\ w.cell? ⟨bb,1,none⟩ = some vh /\ w.frozen? ⟨bb,0,none⟩ = false /\ w.frozen? ⟨bb,1,none⟩ = false := by
 refine ⟨h.lt,?_,?_,?_,?_⟩ <;> simp [World.cell?,World.frozen?,h.1]
theorem BdP.below {w w' : World} {B bb : Nat} {vl vh : Value} {st : BS} (h : BdP w B bb vl vh st) (hb : Below w.heap.size w w') : BdP w' B bb vl vh st := by
 have hlt := h.lt
 obtain ⟨h1,h2,h3,h4,h5,h6,h7⟩ := h
 have hk : Kpt [] w w' := .of_below hb
 exact ⟨(hb.block bb hlt).trans h1,h2,h3.kptS hk (fun _ _ => by simp),h4.kptS hk (fun _ _ => by simp),h5,h6,h7⟩
theorem Bd.below {w w' : World} {B bb : Nat} {st : BS} (h : Bd w B bb st) (hb : Below w.heap.size w w') : Bd w' B bb st := by
 obtain ⟨vl,vh,h⟩ := h
 exact ⟨vl,vh,h.below hb⟩
def Built (B bb : Nat) (st : BS) (w : World) (e : Ending) (w' : World) : Prop := e = .returned (.tuple #[]) /\ Bd w' B bb st /\ Below B w w'
theorem rdX_lits {α : Type} {sz : Nat} {c : α -> List Value} (hsz : ∀ x,(c x).length = sz) (w : World) (ys : List α) (cs : Array Value) (T : TypeId) (h : cs.toList = ys.flatMap c) :
  RdX sz (sP c) anyB (w.alloc (.cells cs T)) (.slice (some ⟨w.heap.size,0,none⟩) ys.length ys.length) ys := by
 refine ⟨_,_,rfl,Nat.le_refl _,(fun h => by cases h),.inr ⟨_,_,rfl,trivial,by simp,fun i x hx => ⟨_,rfl,fun j u hu => ?_⟩⟩⟩
 have key : ∀ (l : List α) (i : Nat),l[i]? = some x -> (l.flatMap c)[i * sz + j]? = some u := by
  intro l
  induction l with
  | nil => intro i h; simp at h
  | cons a l ih =>
   intro i hi
   rw [List.flatMap_cons]
   cases i with
   | zero =>
    simp only [List.getElem?_cons_zero,Option.some.injEq] at hi
    subst hi
    rw [Nat.zero_mul,Nat.zero_add,List.getElem?_append_left (List.getElem?_eq_some_iff.1 hu).1]
    exact hu
   | succ i =>
    rw [List.getElem?_append_right (by rw [hsz,Nat.succ_mul]; omega),hsz,Nat.succ_mul,show i * sz + sz + j - sz = i * sz + j by omega]
    exact ih i (by simpa using hi)
 have := key ys i hx
 rw [<- h] at this
 rw [Array.getElem?_toList] at this
 simp [Nat.zero_add,this]
theorem insC_len (x : Ins) : (insC x).length = 7 := rfl
theorem BdP.setL {w w1 : World} {B bb : Nat} {vl vh v' : Value} {st : BS} {L : List Ins} (h : BdP w B bb vl vh st) (hB : B <= w.heap.size) (ho : OwnX 7 59 (sP insC) w1 B v' L) (hg : w.grownBy w1 vl.ownBlock) (hl : v'.ownBlock = vl.ownBlock ∨ v'.ownBlock = some w.heap.size) :
  bb < w1.heap.size /\ w1.cell? ⟨bb,0,none⟩ = some vl /\ w1.frozen? ⟨bb,0,none⟩ = false /\ Bd (w1.setCell ⟨bb,0,none⟩ v') B bb (L,st.2) /\ Below B w (w1.setCell ⟨bb,0,none⟩ v') := by
 have hlt := h.lt
 obtain ⟨h1,h2,h3,h4,h5,h6,h7⟩ := h
 have hw1 : w1.heap[bb]? = some (.cells #[vl,vh] 130 (0,0)) := by rw [hg.block bb hlt (fun e => h5 e.symm)]; exact h1
 have k1 : Kpt vl.ownBlock.toList w w1 := .of_grown hg (fun g e => .inl (by rw [e]; simp))
 have k2 : Kpt [bb] w1 (w1.setCell ⟨bb,0,none⟩ v') := Kpt.set _ _ _ _ _ (by simp)
 have hne : v'.ownBlock ≠ some bb := by
  rcases hl with e | e
  ·rw [e]; exact h5
  ·rw [e]; simp only [ne_eq,Option.some.injEq]; omega
 refine ⟨Nat.lt_of_lt_of_le hlt hg.size,by simp [World.cell?,hw1],by simp [World.frozen?,hw1],⟨v',vh,?_,h2,ho.kptS k2 (fun g e => by simp; rintro rfl; exact hne e),(h4.kptS k1 (fun g e => by simp; intro e'; exact h7 g e' e)).kptS k2 (fun g e => by simp; rintro rfl; exact h6 e),hne,h6,fun g e => ?_⟩,?_⟩
 ·rw [heap_setCell_same w1 bb 0 _ _ _ hw1]; rfl
 ·rcases hl with e' | e'
  ·exact h7 g (e' ▸ e)
  ·rw [e'] at e
   cases e
   intro e2
   have := (h4.lt _ e2).2
   omega
 ·have b1 : Below B w w1 := ⟨hg.os,hg.tape,hg.output,hg.size,fun k hk => hg.block k (by omega) (fun e => by have := (h3.lt k e.symm).1; omega)⟩
  exact b1.trans (k2.below (fun x hx => by simp at hx; omega) (Nat.le_trans hB hg.size))
theorem wp_appM {α : Type} {sz bytes : Nat} {T TS : TypeId} {z : Value} (hI : Inf T TS sz bytes z) {c : α -> List Value} (hS : Shape (sP c) sz) {w : World} {ops : Array Oper} {rest : List Oper} {o : Oper} {a : Act} {Q : Exit -> Act -> World -> Prop} (hgd : o.guard = none) (s x : Operand)
  (ho : o.op = .call { callee := .builtin .append,args := #[s,x],argTypes := #[TS,TS] })
  (B : Nat) (v : Value) (xs : List α) (hs : a.eval s = v) (hown : OwnX sz T (sP c) w B v xs) (g off n cap : Nat) (ys : List α) (hx : a.eval x = .slice (some ⟨g,off,none⟩) n cap) (hr : RdX sz (sP c) anyB w (.slice (some ⟨g,off,none⟩) n cap) ys)
  (hb : xs.length + ys.length <= 1000000) (hbase : B <= w.heap.size)
  (h : ∀ v' w',OwnX sz T (sP c) w' B v' (xs ++ ys) -> w.grownBy w' v.ownBlock -> (v'.ownBlock = v.ownBlock ∨ v'.ownBlock = some w.heap.size) -> wpList Tryz.prog ops Q rest (a.put o.dst v') w') :
  wpList Tryz.prog ops Q (o :: rest) a w := by
 refine wpList_plain hgd fun K hK => ?_
 obtain ⟨p',cap',e,h1,h2,h3⟩ := hr
 simp only [Value.slice.injEq] at e
 obtain ⟨rfl,rfl,rfl⟩ := e
 obtain ⟨v',w',hrun,g1,g2,g4⟩ := run_appX hI (sP.grow c) hS w B v xs ys hown ⟨g,off,none⟩ cap (fun i u hu => by
  rcases h3 with rfl | ⟨b,off',e,_,_,hc⟩
  ·simp at hu
  ·simp only [Option.some.injEq,Addr.mk.injEq,and_true] at e
   obtain ⟨rfl,rfl⟩ := e
   obtain ⟨vs,hv,hcell⟩ := hc i u hu
   refine ⟨vs,hv,fun j u hu => ?_⟩
   have := hcell j u hu
   unfold Addr.add
   split
   ·rename_i h0
    rw [show g = g from rfl] at this
    have e0 : off + i * sz + j = off := by omega
    rw [e0] at this
    exact this
   ·rw [Nat.add_assoc] at this
    exact this) hb hbase o.type
 unfold Oper.wp execOp
 simp only [ho,resolve,invoke,builtin,Sem.run_bind,Sem.run_pure,Result.andThen_ok,List.map_toArray,List.map_cons,List.map_nil,hs,hx]
 simp only [hrun]
 exact hK _ _ (h v' w' g1 g2 g4)
theorem add_b (B bb : Nat) (st : BS) (g n cap : Nat) (ys : List Ins) (w : World) (h : Bd w B bb st) (hB : B <= w.heap.size) (hr : RdX 7 (sP insC) anyB w (.slice (some ⟨g,0,none⟩) n cap) ys) (hl : st.1.length + ys.length <= 1000000) :
  Calls Tryz.prog 59 #[.pointer (some ⟨bb,0,none⟩),.slice (some ⟨g,0,none⟩) n cap] w (Built B bb (bAdd ys st) w) := by
 obtain ⟨vl,vh,h⟩ := h
 obtain ⟨q1,c0,c1,f0,f1⟩ := h.cells
 have HO := hid h.2.2.1
 have HR := hid hr
 have HH := hid h
 clear h hr
 go_enter Tryz.func59,Tryz.ntmps59
 go_wp2_with (at_builtin; refine wp_appM inf_ins shape_ins rfl _ _ rfl B vl st.1 rfl HO.out g 0 n cap ys rfl HR.out hl hB ?_)
 intro v2 w2 ho2 hg2 hl2
 obtain ⟨d0,d1,d2,d3,d4⟩ := HH.out.setL hB ho2 hg2 hl2
 obtain ⟨p2,n2,cc2,hv2⟩ := ho2.slice
 subst hv2
 clear ho2 hg2 hl2
 go_wp2_with fail
 exact bodyPost_end (results_none rfl _ _ _) rfl ⟨rfl,d3,d4⟩
end Go.Proofs.YtfpeakkbbfnhcaaGreat.A
namespace Go.Proofs.YtfpeakkbbfnhcaaGreat.A
open Go.RowKit Go.Proofs.YtfpeakkbbfnhcaaGreat.D Go.Proofs.YtfpeakkbbfnhcaaGreat.O
theorem one_x (o : Int) (w : World) : Calls Tryz.prog 27 #[.int .i64 o] w fun e w' => e = .returned (.agg #[.int .i64 o,.int .i32 0,.int .i64 0,.string ⟨#[]⟩,.string ⟨#[]⟩,.string ⟨#[]⟩,.string ⟨#[]⟩]) /\ Below w.heap.size w w' := one_v o w
theorem at_x (o k : Int) (w : World) : Calls Tryz.prog 28 #[.int .i64 o,.int .i64 k] w fun e w' => e = .returned (.agg #[.int .i64 o,.int .i32 0,.int .i64 k,.string ⟨#[]⟩,.string ⟨#[]⟩,.string ⟨#[]⟩,.string ⟨#[]⟩]) /\ Below w.heap.size w w' := at_v o k w
theorem num_x (n : Int) (w : World) (hn : -2147483648 <= n /\ n <= 2147483647) : Calls Tryz.prog 60 #[.int .i64 n] w fun e w' => e = .returned (.agg #[.int .i64 1,.int .i32 n,.int .i64 0,.string ⟨#[]⟩,.string ⟨#[]⟩,.string ⟨#[]⟩,.string ⟨#[]⟩]) /\ Below w.heap.size w w' := num_v n w hn
theorem str_x (s : ByteArray) (w : World) : Calls Tryz.prog 61 #[.string s] w fun e w' => e = .returned (.agg #[.int .i64 2,.int .i32 0,.int .i64 0,.string s,.string ⟨#[]⟩,.string ⟨#[]⟩,.string ⟨#[]⟩]) /\ Below w.heap.size w w' := str_v s w
theorem of_x (o : Int) (c : ByteArray) (w : World) : Calls Tryz.prog 26 #[.int .i64 o,.string c] w fun e w' => e = .returned (.agg #[.int .i64 o,.int .i32 0,.int .i64 0,.string ⟨#[]⟩,.string c,.string ⟨#[]⟩,.string ⟨#[]⟩]) /\ Below w.heap.size w w' := of_v o c w
theorem part_x (o : Int) (c m : ByteArray) (w : World) : Calls Tryz.prog 66 #[.int .i64 o,.string c,.string m] w fun e w' => e = .returned (.agg #[.int .i64 o,.int .i32 0,.int .i64 0,.string ⟨#[]⟩,.string c,.string m,.string ⟨#[]⟩]) /\ Below w.heap.size w w' := part_v o c m w
theorem call_x (o : Int) (c m d : ByteArray) (w : World) : Calls Tryz.prog 65 #[.int .i64 o,.string c,.string m,.string d] w fun e w' => e = .returned (.agg #[.int .i64 o,.int .i32 0,.int .i64 0,.string ⟨#[]⟩,.string c,.string m,.string d]) /\ Below w.heap.size w w' := call_v o c m d w
theorem rdX_lit1 {α : Type} {sz : Nat} {c : α -> List Value} (hsz : ∀ x,(c x).length = sz) (w : World) (y : α) (cs : Array Value) (T : TypeId) (h : cs.toList = c y) :
  RdX sz (sP c) anyB (w.alloc (.cells cs T)) (.slice (some ⟨w.heap.size,0,none⟩) 1 1) [y] := rdX_lits hsz w [y] cs T (by rw [h]; simp)
def Bs (B bb : Nat) (st : BS) (w0 w : World) : Prop := Bd w B bb st /\ Below B w0 w /\ B <= w.heap.size
theorem Bs.next {B bb : Nat} {st : BS} {w0 w w' : World} (h : Bs B bb st w0 w) (hb : Below w.heap.size w w') : Bs B bb st w0 w' := ⟨h.1.below hb,h.2.1.trans (hb.mono h.2.2),Nat.le_trans h.2.2 hb.size⟩
theorem Bs.lit {B bb : Nat} {st : BS} {w0 w : World} (h : Bs B bb st w0 w) (o : Obj) : Bs B bb st w0 (w.alloc o) := h.next ((Below.refl _ _).alloc (Nat.le_refl _) _)
theorem add_s {B bb : Nat} {st : BS} {w0 w : World} (H : Bs B bb st w0 w) (ys : List Ins) (cs : Array Value) (hcs : cs.toList = ys.flatMap insC) (n : Nat) (hn : n = ys.length) (hl : st.1.length + ys.length <= 1000000) :
  Calls Tryz.prog 59 #[.pointer (some ⟨bb,0,none⟩),.slice (some ⟨w.heap.size,0,none⟩) n n] (w.alloc (.cells cs 59)) fun e w' => e = .returned (.tuple #[]) /\ Bs B bb (bAdd ys st) w0 w' := by
 subst hn
 have hL := H.lit (.cells cs 59)
 refine (add_b B bb st _ _ _ ys _ hL.1 hL.2.2 (rdX_lits insC_len w ys cs 59 hcs) hl).mono ?_
 rintro e w' ⟨rfl,h1,h2⟩
 exact ⟨rfl,h1,hL.2.1.trans h2,Nat.le_trans hL.2.2 h2.size⟩
theorem part_set {cs : List Value} {sz k : Nat} {u : Value} (i : Nat) (j : Nat) (hk : k = i * sz + j) (hj : j < sz) (i' : Nat) :
  ((cs.set k u).drop (i' * sz)).take sz = if i' = i then ((cs.drop (i * sz)).take sz).set j u else (cs.drop (i' * sz)).take sz := by
 subst hk
 rw [List.drop_set]
 by_cases h : i' = i
 ·subst h
  rw [if_neg (by omega),if_pos rfl,List.take_set,show i' * sz + j - i' * sz = j by omega]
 ·rw [if_neg h]
  by_cases h2 : i * sz + j < i' * sz
  ·rw [if_pos h2]
  ·rw [if_neg h2,List.take_set]
   have h3 : i' < i := by
    apply Nat.lt_of_not_le
    intro h4
    have : (i + 1) * sz <= i' * sz := Nat.mul_le_mul_right _ (by omega)
    rw [Nat.succ_mul] at this
    omega
   have h5 : (i' + 1) * sz <= i * sz := Nat.mul_le_mul_right _ (by omega)
   rw [Nat.succ_mul] at h5
   rw [List.set_eq_of_length_le]
   rw [List.length_take]
   omega
theorem OwnX.put1 {α : Type} {sz : Nat} {T : TypeId} {c : α -> List Value} {w : World} {B : Nat} {v : Value} {xs : List α} (h : OwnX sz T (sP c) w B v xs) {i j : Nat} {x y : α} {u : Value} (hi : xs[i]? = some x) (hj : j < sz) (hc : c y = (c x).set j u) :
  ∃ g cap,v = .slice (some ⟨g,0,none⟩) xs.length cap /\ xs.length <= cap /\ B <= g /\ g < w.heap.size /\ (∀ k,w.frozen? ⟨g,k,none⟩ = false) /\ (∀ k u',(c x)[k]? = some u' -> w.cell? ⟨g,i * sz + k,none⟩ = some u') /\ OwnX sz T (sP c) (w.setCell ⟨g,i * sz + j,none⟩ u) B v (xs.set i y) := by
 have hrd := h.rd (sP.grow c)
 obtain ⟨cs,h1,h2⟩ := h
 have hil : i < xs.length := (List.getElem?_eq_some_iff.1 hi).1
 rcases h1.2 with ⟨rfl,hn⟩ | ⟨g,cap,cur,rfl,hb,hg,hle,hm,hs,ht⟩
 ·omega
 ·refine ⟨g,cap,rfl,hle,hb,(Array.getElem?_eq_some_iff.1 hg).1,fun k => by simp [World.frozen?,hg],fun k u' hu => ?_,cs.set (i * sz + j) u,⟨by rw [List.length_set,List.length_set]; exact h1.1,.inr ⟨g,cap,cur.setIfInBounds (i * sz + j) u,by rw [List.length_set],hb,?_,by rw [List.length_set]; exact hle,hm,by simp [hs],?_⟩⟩,fun i' x' hx' => ?_⟩
  ·obtain ⟨b',off',e',-,-,-,-,hcc⟩ := hrd.place (fun e => by rw [e] at hil; simp at hil)
   simp only [Option.some.injEq,Addr.mk.injEq,and_true] at e'
   obtain ⟨rfl,rfl⟩ := e'
   have := sP_at (hcc i x hi) k u' hu
   rw [Nat.zero_add] at this
   exact this
  ·exact heap_setCell_same w g (i * sz + j) cur T u hg
  ·rw [Array.toList_setIfInBounds,List.take_set,List.length_set,ht]
  ·rw [part_set i j rfl hj i']
   rw [List.getElem?_set] at hx'
   by_cases e : i = i'
   ·subst e
    rw [if_pos rfl,if_pos hil] at hx'
    cases hx'
    rw [if_pos rfl,h2 i x hi]
    exact hc.symm
   ·rw [if_neg e] at hx'
    rw [if_neg (fun h => e h.symm)]
    exact h2 i' x' hx'
end Go.Proofs.YtfpeakkbbfnhcaaGreat.A
