/- Texts that the proof is made of, joined. No condition. -/
import Derived.Test.YtijnimjmimeefaaGreatSKATexts
import Derived.Test.YtijnimjmimeefaaGreatSK20
import Derived.Test.YtijnimjmimeefaaGreatSK16
set_option linter.unusedVariables false
set_option linter.unusedSimpArgs false
namespace Go.Proofs.YtijnimjmimeefaaGreat.A
open Go.RowKit Go.Proofs.YtijnimjmimeefaaGreat.D Go.Proofs.YtijnimjmimeefaaGreat.O
def limM (ps : List Ty) (lo : Int) (code : List Ins) (hs : List Hnd) : Mth := ⟨⟨#[109]⟩, ps, (5, ⟨#[]⟩), false, false, lo, code, hs⟩
def limC (is : List ByteArray) (fs : List Fld) (ms : List Mth) : Cls := ⟨⟨#[67]⟩, ⟨#[79, 98, 106, 101, 99, 116]⟩, is, 1, fs, ms⟩
def limF : Fld := (⟨#[102]⟩, (1, ⟨#[]⟩), false)
def limI : Ins := (6, 0, 0, ⟨#[]⟩, ⟨#[]⟩, ⟨#[]⟩, ⟨#[]⟩)
def limH : Hnd := (0, 0, 0, ⟨#[70, 97, 117, 108, 116]⟩)
def limA (k n : Nat) : Arch :=
 match k with
 | 0 => List.replicate n (limC [] [] [])
 | 1 => [limC [] (List.replicate n limF) []]
 | 2 => [limC (List.replicate n ⟨#[73]⟩) [] []]
 | 3 => [limC [] [] [limM (List.replicate n (1, ⟨#[]⟩)) 0 [] []]]
 | 4 => [limC [] [] [limM [] 0 (List.replicate n limI) []]]
 | 5 => [limC [] [] [limM [] (n : Int) [] []]]
 | _ => [limC [] [] [limM [] 0 [] (List.replicate n limH)]]
def limMax (k : Nat) : Nat :=
 match k with
 | 0 => 400
 | 1 => 100
 | 2 => 20
 | 3 => 8
 | 4 => 2000
 | 5 => 200
 | _ => 50
theorem allB_rep {α : Type} {m n : Nat} {f : α → Bool} {x : α} (h : f x = true) : allB m f (List.replicate n x) = decide (n ≤ m) := by
 unfold allB
 rw [List.length_replicate]
 have : (List.replicate n x).all f = true := by
  rw [List.all_eq_true]
  intro y hy
  rw [(List.mem_replicate.1 hy).2]
  exact h
 rw [this, Bool.and_true]
theorem allB_one {α : Type} {m : Nat} {f : α → Bool} {x : α} (hm : 1 ≤ m) : allB m f [x] = f x := by
 unfold allB
 simp [hm]
theorem allB_em {α : Type} {m : Nat} {f : α → Bool} : allB m f [] = true := by
 unfold allB
 simp
theorem limM_B (ps : List Ty) (lo : Int) (code : List Ins) (hs : List Hnd) : mthB (limM ps lo code hs) = (allB 8 holdsB ps && upToB lo 200 && allB 2000 rightI code && allB 50 hndB hs) := by
 have h1 : nameB ⟨#[109]⟩ = true := by decide
 have h2 : rightB 5 ⟨#[]⟩ = true := by decide
 unfold mthB limM
 simp only [h1, h2, Bool.true_and, Bool.and_true]
theorem limC_B (is : List ByteArray) (fs : List Fld) (ms : List Mth) : clsB (limC is fs ms) = (allB 20 nameB is && allB 100 fldB fs && allB 100 mthB ms) := by
 have h1 : nameB ⟨#[67]⟩ = true := by decide
 have h2 : nameB ⟨#[79, 98, 106, 101, 99, 116]⟩ = true := by decide
 have h3 : decide (1 ≤ (1 : Int) ∧ (1 : Int) ≤ 4) = true := by decide
 unfold clsB limC
 simp only [h1, h2, h3, Bool.true_and, Bool.and_true]
theorem lim_formed (k n : Nat) : formedB (limA k n) = decide (n ≤ limMax k) := by
 unfold formedB
 have u0 : upToB 0 200 = true := by decide
 match k with
 | 0 => exact allB_rep (by rw [limC_B, allB_em, allB_em, allB_em]; rfl)
 | 1 => show allB 400 clsB [limC [] (List.replicate n limF) []] = _; rw [allB_one (by decide), limC_B, allB_em, allB_em, allB_rep (by decide)]; simp [limMax]
 | 2 => show allB 400 clsB [limC (List.replicate n ⟨#[73]⟩) [] []] = _; rw [allB_one (by decide), limC_B, allB_em, allB_em, allB_rep (by decide)]; simp [limMax]
 | 3 => show allB 400 clsB [limC [] [] [limM (List.replicate n (1, ⟨#[]⟩)) 0 [] []]] = _; rw [allB_one (by decide), limC_B, allB_em, allB_em, allB_one (by decide), limM_B, allB_em, allB_em, allB_rep (by decide), u0]; simp [limMax]
 | 4 => show allB 400 clsB [limC [] [] [limM [] 0 (List.replicate n limI) []]] = _; rw [allB_one (by decide), limC_B, allB_em, allB_em, allB_one (by decide), limM_B, allB_em, allB_em, allB_rep (by decide +kernel), u0]; simp [limMax]
 | 5 => show allB 400 clsB [limC [] [] [limM [] (n : Int) [] []]] = _; rw [allB_one (by decide), limC_B, allB_em, allB_em, allB_one (by decide), limM_B, allB_em, allB_em, allB_em]; simp [limMax, upToB]; constructor <;> intro h <;> omega
 | k + 6 => show allB 400 clsB [limC [] [] [limM [] 0 [] (List.replicate n limH)]] = _; rw [allB_one (by decide), limC_B, allB_em, allB_em, allB_one (by decide), limM_B, allB_em, allB_em, allB_rep (by decide), u0]; simp [limMax]
def limU (d : ByteArray) : List ByteArray := [⟨#[67]⟩, ⟨#[79, 98, 106, 101, 99, 116]⟩, ⟨#[109]⟩, d, ⟨#[102]⟩, ⟨#[73]⟩, ⟨#[70, 97, 117, 108, 116]⟩]
def limD (k n : Nat) : ByteArray := if k = 3 then ofT (List.replicate n (1, ⟨#[]⟩)) (5, ⟨#[]⟩) else ofT [] (5, ⟨#[]⟩)
theorem limC_texts {U : List ByteArray} {is : List ByteArray} {fs : List Fld} {ms : List Mth} (h1 : ⟨#[67]⟩ ∈ U) (h2 : ⟨#[79, 98, 106, 101, 99, 116]⟩ ∈ U) (h3 : ∀ s ∈ is, s ∈ U) (h4 : ∀ f ∈ fs, f.1 ∈ U ∧ typeT f.2.1.1 f.2.1.2 ∈ U) (h5 : ∀ m ∈ ms, ∀ s ∈ textsM m, s ∈ U) : ∀ s ∈ textsC (limC is fs ms), s ∈ U := by
 intro s hs
 unfold textsC limC at hs
 simp only [List.mem_cons, List.mem_append, List.mem_flatMap] at hs
 rcases hs with rfl | rfl | hs | ⟨f, hf, hs⟩ | ⟨m, hm, hs⟩
 ·exact h1
 ·exact h2
 ·exact h3 s hs
 ·simp only [List.mem_cons, List.not_mem_nil, or_false] at hs
  rcases hs with rfl | rfl
  ·exact (h4 f hf).1
  ·exact (h4 f hf).2
 ·exact h5 m hm s hs
theorem limM_texts {U : List ByteArray} {ps : List Ty} {lo : Int} {code : List Ins} {hs : List Hnd} (h1 : ⟨#[109]⟩ ∈ U) (h2 : ofT ps (5, ⟨#[]⟩) ∈ U) (h3 : ∀ x ∈ code, ∀ s ∈ textsI x, s ∈ U) (h4 : ∀ x ∈ hs, x.2.2.2 ∈ U) : ∀ s ∈ textsM (limM ps lo code hs), s ∈ U := by
 intro s h
 unfold textsM limM at h
 simp only [List.mem_cons, List.mem_append, List.mem_flatMap, List.mem_map] at h
 rcases h with rfl | rfl | ⟨x, hx, h⟩ | ⟨x, hx, rfl⟩
 ·exact h1
 ·exact h2
 ·exact h3 x hx s h
 ·exact h4 x hx
theorem lim_texts (k n : Nat) : ∀ s ∈ textsA (limA k n), s ∈ limU (limD k n) := by
 have a1 : (⟨#[67]⟩ : ByteArray) ∈ limU (limD k n) := by simp [limU]
 have a2 : (⟨#[79, 98, 106, 101, 99, 116]⟩ : ByteArray) ∈ limU (limD k n) := by simp [limU]
 have a3 : (⟨#[109]⟩ : ByteArray) ∈ limU (limD k n) := by simp [limU]
 have a4 : limD k n ∈ limU (limD k n) := by simp [limU]
 have a5 : (⟨#[102]⟩ : ByteArray) ∈ limU (limD k n) := by simp [limU]
 have a6 : (⟨#[73]⟩ : ByteArray) ∈ limU (limD k n) := by simp [limU]
 have a7 : (⟨#[70, 97, 117, 108, 116]⟩ : ByteArray) ∈ limU (limD k n) := by simp [limU]
 have hno : ∀ {α : Type} {P : α → Prop}, ∀ x ∈ ([] : List α), P x := fun x hx => by cases hx
 have one : ∀ {c : Cls}, (∀ s ∈ textsC c, s ∈ limU (limD k n)) → ∀ s ∈ textsA [c], s ∈ limU (limD k n) := by
  intro c h s hs
  unfold textsA at hs
  rw [List.flatMap_cons, List.flatMap_nil, List.append_nil] at hs
  exact h s hs
 match k with
 | 0 =>
  intro s hs
  obtain ⟨c, hc, hs⟩ := List.mem_flatMap.1 hs
  rw [(List.mem_replicate.1 hc).2] at hs
  exact limC_texts a1 a2 hno hno hno s hs
 | 1 => exact one (limC_texts a1 a2 hno (fun f hf => by rw [(List.mem_replicate.1 hf).2]; exact ⟨a5, a6⟩) hno)
 | 2 => exact one (limC_texts a1 a2 (fun f hf => by rw [(List.mem_replicate.1 hf).2]; exact a6) hno hno)
 | 3 => exact one (limC_texts a1 a2 hno hno (fun m hm => by rw [List.mem_singleton.1 hm]; exact limM_texts a3 a4 hno hno))
 | 4 => exact one (limC_texts a1 a2 hno hno (fun m hm => by rw [List.mem_singleton.1 hm]; exact limM_texts a3 a4 (fun x hx s hs => by rw [(List.mem_replicate.1 hx).2] at hs; cases hs) hno))
 | 5 => exact one (limC_texts a1 a2 hno hno (fun m hm => by rw [List.mem_singleton.1 hm]; exact limM_texts a3 a4 hno hno))
 | k + 6 =>
  have a4' : ofT [] (5, ⟨#[]⟩) ∈ limU (limD (k + 6) n) := by
   have : limD (k + 6) n = ofT [] (5, ⟨#[]⟩) := by unfold limD; rw [if_neg (by omega)]
   rw [this] at a4 ⊢
   exact a4
  exact one (limC_texts a1 a2 hno hno (fun m hm => by rw [List.mem_singleton.1 hm]; exact limM_texts a3 a4' hno (fun x hx => by rw [(List.mem_replicate.1 hx).2]; exact a7)))
theorem lim_right (k n : Nat) : rightA (limA k n) = decide (n ≤ limMax k) := by
 rw [right_of (lim_texts k n) (by show 7 ≤ 10000; decide), lim_formed]
theorem sum_rep {α : Type} (f : α → Nat) (x : α) : ∀ n, ((List.replicate n x).map f).sum = n * f x
 | 0 => by simp
 | n + 1 => by rw [List.replicate_succ, List.map_cons, List.sum_cons, sum_rep f x n, Nat.succ_mul]; omega
theorem lim_cost {k n : Nat} (h : n ≤ 2002) : costA (limA k n) ≤ 12100 := by
 unfold costA
 match k with
 | 0 => show 1 + ((List.replicate n (limC [] [] [])).map costC).sum ≤ _; rw [sum_rep]; show 1 + n * 6 ≤ _; omega
 | 1 => simp [limA, limC, costC]; omega
 | 2 => simp [limA, limC, costC]; omega
 | 3 => simp [limA, limC, limM, costC, costM]
 | 4 => simp [limA, limC, limM, costC, costM]; omega
 | 5 => simp [limA, limC, limM, costC, costM]
 | k + 6 => simp [limA, limC, limM, costC, costM]; omega
theorem lim_each {P : Cls → Prop} {k n : Nat} (h : ∀ is fs ms, (∀ s ∈ is, s = ⟨#[73]⟩) → (∀ f ∈ fs, f = limF) → is.length ≤ n → fs.length ≤ n → (∀ m ∈ ms, ∃ ps lo cs hs, m = limM ps lo cs hs ∧ (∀ t ∈ ps, t = (1, ⟨#[]⟩)) ∧ (∀ x ∈ cs, x = limI) ∧ (∀ x ∈ hs, x = limH)) → P (limC is fs ms)) : ∀ c ∈ limA k n, P c := by
 have hno : ∀ {α : Type} {P : α → Prop}, ∀ x ∈ ([] : List α), P x := fun x hx => by cases hx
 have hr : ∀ {α : Type} {y : α}, ∀ x ∈ List.replicate n y, x = y := fun x hx => (List.mem_replicate.1 hx).2
 have one : ∀ {c : Cls}, P c → ∀ x ∈ [c], P x := fun hc x hx => by rw [List.mem_singleton.1 hx]; exact hc
 have mm : ∀ {m : Mth}, (∃ ps lo cs hs, m = limM ps lo cs hs ∧ (∀ t ∈ ps, t = (1, ⟨#[]⟩)) ∧ (∀ x ∈ cs, x = limI) ∧ (∀ x ∈ hs, x = limH)) → ∀ x ∈ [m], ∃ ps lo cs hs, x = limM ps lo cs hs ∧ (∀ t ∈ ps, t = (1, ⟨#[]⟩)) ∧ (∀ x ∈ cs, x = limI) ∧ (∀ x ∈ hs, x = limH) := fun hm x hx => by rw [List.mem_singleton.1 hx]; exact hm
 match k with
 | 0 => intro c hc; rw [(List.mem_replicate.1 hc).2]; exact h _ _ _ hno hno (by simp) (by simp) hno
 | 1 => exact one (h _ _ _ hno hr (by simp) (by simp) hno)
 | 2 => exact one (h _ _ _ hr hno (by simp) (by simp) hno)
 | 3 => exact one (h _ _ _ hno hno (by simp) (by simp) (mm ⟨_, _, _, _, rfl, hr, hno, hno⟩))
 | 4 => exact one (h _ _ _ hno hno (by simp) (by simp) (mm ⟨_, _, _, _, rfl, hno, hr, hno⟩))
 | 5 => exact one (h _ _ _ hno hno (by simp) (by simp) (mm ⟨_, _, _, _, rfl, hno, hno, hno⟩))
 | k + 6 => exact one (h _ _ _ hno hno (by simp) (by simp) (mm ⟨_, _, _, _, rfl, hno, hno, hr⟩))
theorem lim_sz (k n : Nat) : szA (limA k n) := by
 refine lim_each fun is fs ms hi hf _ _ hm => ⟨(by decide : ByteArray.size ⟨#[67]⟩ ≤ 100000), (by decide : ByteArray.size ⟨#[79, 98, 106, 101, 99, 116]⟩ ≤ 100000), fun s hs => ?_, fun f h => ?_, fun m h => ?_⟩
 ·rw [hi s hs]; decide
 ·rw [hf f h]; exact ⟨by decide, by decide⟩
 ·obtain ⟨ps, lo, cs, hs, rfl, h1, h2, h3⟩ := hm m h
  have h0 : ByteArray.size ⟨#[]⟩ ≤ 100000 := by decide
  exact ⟨(by decide : ByteArray.size ⟨#[109]⟩ ≤ 100000), fun t ht => by rw [h1 t ht]; decide, h0, fun x hx => by rw [h2 x hx]; exact ⟨h0, h0, h0, h0⟩, fun x hx => by rw [h3 x hx]; decide⟩
theorem lim_wf (k n : Nat) : wfA (limA k n) := by
 refine lim_each fun is fs ms _ _ _ _ hm => fun m h => ?_
 obtain ⟨ps, lo, cs, hs, rfl, h1, h2, h3⟩ := hm m h
 intro x hx
 rw [h2 x hx]
 exact ⟨by decide, by decide⟩
theorem lim_small {k n : Nat} (h : n ≤ 2002) : small (limA k n) := by
 unfold small
 have := lim_cost (k := k) h
 omega
theorem ofT_len (n : Nat) : (ofT (List.replicate n (1, ⟨#[]⟩)) (5, ⟨#[]⟩)).size = n + 3 := by
 rw [Lib.size_eq, ofT_data]
 unfold ofL
 rw [List.length_cons, List.length_append, List.length_cons, List.length_flatMap, sum_rep]
 have e1 : (typeL (1, ⟨#[]⟩)).length = 1 := by decide
 have e2 : (typeL (5, ⟨#[]⟩)).length = 1 := by decide
 rw [e1, e2]
 omega
theorem limD_size {k n : Nat} (h : n ≤ 2002) : (limD k n).size ≤ 2010 := by
 unfold limD
 split
 ·rw [ofT_len]; omega
 ·have := ofT_len 0
  rw [List.replicate_zero] at this
  omega
theorem lim_len {k n : Nat} (h : n ≤ 2002) : (putA (limA k n)).length ≤ 1000000 := by
 have h1 := put_len (lim_texts k n) (by show 7 ≤ 10000; decide) (lim_wf k n)
 have h2 := lim_cost (k := k) h
 have h3 : ((limU (limD k n)).map fun s => (tb s).length).sum ≤ 3000 := by
  have h4 := limD_size (k := k) h
  have h5 := tb_len (s := limD k n) (by omega)
  have e1 : (tb ⟨#[67]⟩).length = 2 := by decide +kernel
  have e2 : (tb ⟨#[79, 98, 106, 101, 99, 116]⟩).length = 7 := by decide +kernel
  have e3 : (tb ⟨#[109]⟩).length = 2 := by decide +kernel
  have e4 : (tb ⟨#[102]⟩).length = 2 := by decide +kernel
  have e5 : (tb ⟨#[73]⟩).length = 2 := by decide +kernel
  have e6 : (tb ⟨#[70, 97, 117, 108, 116]⟩).length = 6 := by decide +kernel
  unfold limU
  simp only [List.map_cons, List.map_nil, List.sum_cons, List.sum_nil, e1, e2, e3, e4, e5, e6]
  omega
 omega
theorem lim_pos {k n : Nat} (h : n ≤ limMax k) : 4 ≤ (putA (limA k n)).length := by
 unfold putA
 rw [lim_right, decide_eq_true h, if_pos rfl, List.length_append, List.length_append]
 have : bon.length = 4 := rfl
 omega
theorem lim_none {k n : Nat} (h : limMax k < n) : putA (limA k n) = [] := by
 unfold putA
 rw [lim_right, decide_eq_false (by omega)]
 rfl
end Go.Proofs.YtijnimjmimeefaaGreat.A
