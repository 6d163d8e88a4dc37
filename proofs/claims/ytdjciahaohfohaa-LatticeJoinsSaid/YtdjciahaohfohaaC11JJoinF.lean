/- Texts that the proof is made of, joined. No condition. -/
import Derived.Test.YtdjciahaohfohaaC1115
import Derived.Deep.DeepCutAuto
import Derived.Deep.CutBlock
set_option linter.unusedVariables false
set_option linter.unusedSimpArgs false
set_option maxRecDepth 100000
set_option maxHeartbeats 16000000
namespace Go.Proofs.Ytdjciahaohfohaa.R
open Go.RowKit Go.Proofs.Ytdjciahaohfohaa.D Go.Proofs.Ytdjciahaohfohaa.O Go.Proofs.Ytdjciahaohfohaa.A
theorem no_body {i : Nat} {a : Ty} (h : tyJ[i]? = some a) (hn : (a.2.toList == [78, 111, 98, 111, 100, 121]) = false) : i < 18 := by
  have hi : i < 19 := (List.getElem?_eq_some_iff.1 h).1
  have key : ∀ i : Fin 19, i.val < 18 ∨ ((tyJ.getD i.val (0, es)).2.toList == [78, 111, 98, 111, 100, 121]) = true := by decide +kernel
  have hg : tyJ.getD i (0, es) = a := by rw [List.getD_eq_getElem?_getD, h]; rfl
  rcases key ⟨i, hi⟩ with h1 | h1
  · exact h1
  · dsimp only at h1
    rw [hg, hn] at h1
    cases h1
def ifB (d : Ty) : Bool := (d.2.toList == [73]) || (d.2.toList == [74])
theorem joins_facts (b3 b6 b2 : Bool) {i j k l : Nat} {a b c d : Ty} (ha : tyJ[i]? = some a) (hb : tyJ[j]? = some b) (hc : tyJ[k]? = some c) (hd : tyJ[l]? = some d) (na : i < 18) (nb : j < 18) (nc : k < 18) (nd : l < 18) :
    ∃ e m f : Ty, joinT (tabT b3 b6 b2) a b = e ∧ joinT (tabT b3 b6 b2) b a = e ∧ joinT (tabT b3 b6 b2) e c = m ∧ joinT (tabT b3 b6 b2) b c = f ∧ joinT (tabT b3 b6 b2) a f = m ∧ joinT (tabT b3 b6 b2) a a = a ∧ (¬ e.1 = 7 → fitsT (tabT b3 b6 b2) a e = true ∧ fitsT (tabT b3 b6 b2) b e = true) ∧ (ifB d = false → fitsT (tabT b3 b6 b2) a d = true → fitsT (tabT b3 b6 b2) b d = true → fitsT (tabT b3 b6 b2) e d = true) ∧ e.2.size ≤ 1000 ∧ f.2.size ≤ 1000 := by
  have he := jo_at b3 b6 b2 ha hb
  have he2 := jo_at b3 b6 b2 hb ha
  have hf := jo_at b3 b6 b2 hb hc
  have hm := jo_at b3 b6 b2 he hc
  have hm2 := jo_at b3 b6 b2 ha hf
  have haa := jo_at b3 b6 b2 ha ha
  rw [← jo_comm ⟨i, by omega⟩ ⟨j, by omega⟩, he, Option.some.injEq] at he2
  rw [← jo_assoc ⟨i, na⟩ ⟨j, nb⟩ ⟨k, nc⟩, hm, Option.some.injEq] at hm2
  rw [jo_self ⟨i, by omega⟩, ha, Option.some.injEq] at haa
  refine ⟨_, _, _, rfl, he2.symm, rfl, rfl, hm2.symm, haa.symm, fun h7 => ?_, fun hi p q => ?_, ty_sz _ (List.mem_of_getElem? he), ty_sz _ (List.mem_of_getElem? hf)⟩
  · have h := jo_fits b6 ⟨i, na⟩ ⟨j, nb⟩
    rw [fi_at b3 b6 b2 ha he, fi_at b3 b6 b2 hb he]
    simp only [Bool.or_eq_true, Bool.and_eq_true, decide_eq_true_eq] at h
    rcases h with h | h
    · rw [h] at he
      have e2 : joinT (tabT b3 b6 b2) a b = (7, es) := (Option.some.inj he).symm
      exact absurd (by rw [e2]) h7
    · exact h
  · have h := jo_least b6 ⟨i, na⟩ ⟨j, nb⟩ ⟨l, nd⟩
    rw [fi_at b3 b6 b2 ha hd] at p
    rw [fi_at b3 b6 b2 hb hd] at q
    rw [fi_at b3 b6 b2 he hd]
    simp only [Bool.or_eq_true, Bool.not_eq_true', decide_eq_true_eq] at h
    rcases h with (((h | h) | h) | h) | h
    · have hl : l = 10 := congrArg Fin.val h
      subst hl
      have e2 : d = (4, ⟨#[73]⟩) := (Option.some.inj hd).symm
      rw [e2] at hi
      exact absurd hi (by decide +kernel)
    · have hl : l = 11 := congrArg Fin.val h
      subst hl
      have e2 : d = (4, ⟨#[74]⟩) := (Option.some.inj hd).symm
      rw [e2] at hi
      exact absurd hi (by decide +kernel)
    · rw [p] at h; cases h
    · rw [q] at h; cases h
    · exact h
end Go.Proofs.Ytdjciahaohfohaa.R
