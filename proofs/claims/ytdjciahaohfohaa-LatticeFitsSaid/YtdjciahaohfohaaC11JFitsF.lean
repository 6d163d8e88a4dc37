/- Texts that the proof is made of, joined. No condition. -/
import Derived.Test.YtdjciahaohfohaaC1115
import Derived.Deep.DeepCutAuto
import Derived.Deep.CutBlock
set_option linter.unusedVariables false
set_option linter.unusedSimpArgs false
set_option maxRecDepth 100000
set_option maxHeartbeats 16000000
namespace Go.Proofs.Ytdjciahaohfohaa.R
open Go.RowKit Go.Proofs.Ytdjciahaohfohaa.D Go.Proofs.Ytdjciahaohfohaa.O Go.Proofs.Ytdjciahaohfohaa.A
theorem fits_facts (b3 b6 b2 : Bool) {i j k : Nat} {a b c : Ty} (ha : tyJ[i]? = some a) (hb : tyJ[j]? = some b) (hc : tyJ[k]? = some c) :
    (fitsT (tabT b3 b6 b2) a b = true → fitsT (tabT b3 b6 b2) b c = true → fitsT (tabT b3 b6 b2) a c = true) ∧ fitsT (tabT b3 b6 b2) a a = decide (a ≠ topT) ∧ fitsT (tabT b3 b6 b2) a topT = false ∧ fitsT (tabT b3 b6 b2) topT a = false ∧ joinT (tabT b3 b6 b2) a topT = topT ∧ (refB a = true → fitsT (tabT b3 b6 b2) b a = true → refB b = true) ∧ (a = topT ∨ (a.1 == 7) = false) := by
  have hi : i < 19 := (List.getElem?_eq_some_iff.1 ha).1
  have hj : j < 19 := (List.getElem?_eq_some_iff.1 hb).1
  have hk : k < 19 := (List.getElem?_eq_some_iff.1 hc).1
  have ht : tyJ[4]? = some topT := rfl
  have one : ∀ b6 : Bool, ∀ i : Fin 19, fiI b6 i i = decide ((tyJ.getD i (0, es)) ≠ topT) ∧ fiI b6 i 4 = false ∧ fiI b6 4 i = false ∧ joI i 4 = 4 ∧ (tyJ.getD i (0, es) = topT ∨ ((tyJ.getD i (0, es)).1 == 7) = false) := by decide +kernel
  have two : ∀ b6 : Bool, ∀ i j : Fin 19, (!refB (tyJ.getD i (0, es)) || !fiI b6 j i || refB (tyJ.getD j (0, es))) = true := by decide +kernel
  obtain ⟨o1, o2, o3, o4, o5⟩ := one b6 ⟨i, hi⟩
  have ga : tyJ.getD i (0, es) = a := by rw [List.getD_eq_getElem?_getD, ha]; rfl
  have gb : tyJ.getD j (0, es) = b := by rw [List.getD_eq_getElem?_getD, hb]; rfl
  have o6 := two b6 ⟨i, hi⟩ ⟨j, hj⟩
  have o7 := fi_trans b6 ⟨i, hi⟩ ⟨j, hj⟩ ⟨k, hk⟩
  dsimp only at o1 o2 o3 o4 o5 o6 o7
  rw [ga] at o1 o5 o6
  rw [gb] at o6
  rw [fi_at b3 b6 b2 ha hb, fi_at b3 b6 b2 hb hc, fi_at b3 b6 b2 ha hc, fi_at b3 b6 b2 ha ha, fi_at b3 b6 b2 ha ht, fi_at b3 b6 b2 ht ha, fi_at b3 b6 b2 hb ha]
  have j4 := jo_at b3 b6 b2 ha ht
  rw [o4, ht, Option.some.injEq] at j4
  refine ⟨fun p q => ?_, o1, o2, o3, j4.symm, fun p q => ?_, o5⟩
  · rw [p, q] at o7; simpa using o7
  · rw [p, q] at o6; simpa using o6
end Go.Proofs.Ytdjciahaohfohaa.R
