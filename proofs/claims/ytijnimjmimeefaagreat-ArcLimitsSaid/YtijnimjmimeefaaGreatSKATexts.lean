/- Texts that the proof is made of, joined. No condition. -/
import Derived.Test.YtijnimjmimeefaaGreatSK4
set_option linter.unusedVariables false
set_option linter.unusedSimpArgs false
namespace Go.Proofs.YtijnimjmimeefaaGreat.A
open Go.RowKit Go.Proofs.YtijnimjmimeefaaGreat.D Go.Proofs.YtijnimjmimeefaaGreat.O
def InU (U : List ByteArray) (f : WS → WS) : Prop := ∀ st : WS, (∀ s ∈ st.1, s ∈ U) → st.1.Nodup → (∀ s ∈ (f st).1, s ∈ U) ∧ (f st).1.Nodup
theorem InU.comp {U : List ByteArray} {f g F : WS → WS} (h1 : InU U f) (h2 : InU U g) (hF : ∀ st, F st = g (f st)) : InU U F := fun st a b => by
 rw [hF]
 obtain ⟨c, d⟩ := h1 st a b
 exact h2 _ c d
theorem inU_text {U : List ByteArray} {s : ByteArray} (h : s ∈ U) : InU U (wText s) := by
 intro st a b
 unfold wText putL
 dsimp only
 split
 ·exact ⟨a, b⟩
 ·rename_i hn
  refine ⟨fun x hx => ?_, ?_⟩
  ·rcases List.mem_append.1 hx with hx | hx
   ·exact a x hx
   ·rw [List.mem_singleton.1 hx]; exact h
  ·refine List.nodup_append.2 ⟨b, by simp, fun x hx y hy => ?_⟩
   rw [List.mem_singleton.1 hy]
   intro e
   subst e
   exact hn hx
theorem inU_nums {U : List ByteArray} (zs : List Int) : InU U (wNums zs) := fun _ a b => ⟨a, b⟩
theorem inU_int {U : List ByteArray} (z : Int) : InU U (wInt z) := fun _ a b => ⟨a, b⟩
theorem inU_all {α : Type} {U : List ByteArray} {f : α → WS → WS} : ∀ l : List α, (∀ x ∈ l, InU U (f x)) → InU U (wAll f l)
 | [], _ => fun _ a b => ⟨a, b⟩
 | x :: l, h => InU.comp (h x (by simp)) (inU_all l (fun y hy => h y (by simp [hy]))) (fun _ => rfl)
theorem inU_list {α : Type} {U : List ByteArray} {f : α → WS → WS} {l : List α} (h : ∀ x ∈ l, InU U (f x)) : InU U (wList f l) := InU.comp (inU_nums _) (inU_all l h) (fun _ => rfl)
def textsI (x : Ins) : List ByteArray :=
 if usesI x.1 = 2 then [x.2.2.2.1] else if usesI x.1 = 4 then [x.2.2.2.2.1, x.2.2.2.2.2.1] else if usesI x.1 = 5 then [x.2.2.2.2.1, x.2.2.2.2.2.1, x.2.2.2.2.2.2] else if usesI x.1 = 6 then [x.2.2.2.2.1] else []
def textsM (m : Mth) : List ByteArray := m.name :: ofT m.params m.ret :: (m.code.flatMap textsI ++ m.hs.map (·.2.2.2))
def textsC (c : Cls) : List ByteArray := c.name :: c.super :: (c.ifaces ++ (c.fields.flatMap (fun f => [f.1, typeT f.2.1.1 f.2.1.2]) ++ c.methods.flatMap textsM))
def textsA (a : Arch) : List ByteArray := a.flatMap textsC
theorem inU_ins {U : List ByteArray} {x : Ins} (h : ∀ s ∈ textsI x, s ∈ U) : InU U (wIns x) := by
 refine InU.comp (inU_nums [x.1]) (g := wUse x) ?_ (fun _ => rfl)
 unfold textsI at h
 by_cases h1 : usesI x.1 = 1
 ·rw [show wUse x = wInt x.2.1 from funext fun st => by unfold wUse; rw [if_pos h1]]
  exact inU_int _
 by_cases h2 : usesI x.1 = 2
 ·rw [show wUse x = wText x.2.2.2.1 from funext fun st => by unfold wUse; simp [h2]]
  rw [if_pos h2] at h
  exact inU_text (h _ (by simp))
 by_cases h3 : usesI x.1 = 3
 ·rw [show wUse x = wNums [x.2.2.1] from funext fun st => by unfold wUse; simp [h3]]
  exact inU_nums _
 by_cases h4 : usesI x.1 = 4
 ·rw [if_neg h2, if_pos h4] at h
  exact InU.comp (inU_text (s := x.2.2.2.2.1) (h _ (by simp))) (inU_text (s := x.2.2.2.2.2.1) (h _ (by simp))) (fun st => by unfold wUse; simp [h4])
 by_cases h5 : usesI x.1 = 5
 ·rw [if_neg h2, if_neg h4, if_pos h5] at h
  exact InU.comp (InU.comp (inU_text (s := x.2.2.2.2.1) (h _ (by simp))) (inU_text (s := x.2.2.2.2.2.1) (h _ (by simp))) (fun _ => rfl)) (inU_text (s := x.2.2.2.2.2.2) (h _ (by simp))) (fun st => by unfold wUse; simp [h5])
 by_cases h6 : usesI x.1 = 6
 ·rw [show wUse x = wText x.2.2.2.2.1 from funext fun st => by unfold wUse; simp [h6]]
  rw [if_neg h2, if_neg h4, if_neg h5, if_pos h6] at h
  exact inU_text (h _ (by simp))
 ·rw [show wUse x = fun st => st from funext fun st => by unfold wUse; simp [h1, h2, h3, h4, h5, h6]]
  exact fun _ a b => ⟨a, b⟩
theorem inU_mth {U : List ByteArray} {m : Mth} (h : ∀ s ∈ textsM m, s ∈ U) : InU U (wMth m) := by
 unfold textsM at h
 refine InU.comp (f := fun st => wList wIns m.code (wNums [bitN m.st 1 + bitN m.ab 2, m.locals] (wText (ofT m.params m.ret) (wText m.name st)))) (g := wList wHnd m.hs) (InU.comp (InU.comp (InU.comp (inU_text (h _ (by simp))) (inU_text (s := ofT m.params m.ret) (h _ (by simp))) (fun _ => rfl)) (inU_nums [bitN m.st 1 + bitN m.ab 2, m.locals]) (fun _ => rfl)) (g := wList wIns m.code) (inU_list fun x hx => inU_ins fun s hs => ?_) (fun _ => rfl)) (inU_list fun x hx => ?_) (fun _ => rfl)
 ·refine h s ?_
  simp only [List.mem_cons, List.mem_append, List.mem_flatMap]
  exact .inr (.inr (.inl ⟨x, hx, hs⟩))
 ·refine InU.comp (inU_nums [x.1, x.2.1, x.2.2.1]) (inU_text (s := x.2.2.2) (h _ ?_)) (fun _ => rfl)
  simp only [List.mem_cons, List.mem_append, List.mem_map]
  exact .inr (.inr (.inr ⟨x, hx, rfl⟩))
theorem inU_cls {U : List ByteArray} {c : Cls} (h : ∀ s ∈ textsC c, s ∈ U) : InU U (wCls c) := by
 unfold textsC at h
 simp only [List.mem_cons, List.mem_append, List.mem_flatMap] at h
 refine InU.comp (InU.comp (InU.comp (InU.comp (InU.comp (inU_text (s := c.name) (h _ (.inl rfl))) (inU_text (s := c.super) (h _ (.inr (.inl rfl)))) (fun _ => rfl)) (g := wList wText c.ifaces) (inU_list fun x hx => inU_text (h _ (.inr (.inr (.inl hx))))) (fun _ => rfl)) (inU_nums [c.kind]) (fun _ => rfl)) (g := wList wFld c.fields) (inU_list fun x hx => ?_) (fun _ => rfl)) (g := wList wMth c.methods) (inU_list fun x hx => inU_mth fun s hs => h s (.inr (.inr (.inr (.inr ⟨x, hx, hs⟩))))) (fun _ => rfl)
 refine InU.comp (InU.comp (inU_text (s := x.1) (h _ (.inr (.inr (.inr (.inl ⟨x, hx, .inl rfl⟩)))))) (inU_text (s := typeT x.2.1.1 x.2.1.2) (h _ (.inr (.inr (.inr (.inl ⟨x, hx, .inr (.inl rfl)⟩)))))) (fun _ => rfl)) (inU_nums [bitN x.2.2 1]) (fun _ => rfl)
theorem written_texts {U : List ByteArray} {a : Arch} (h : ∀ s ∈ textsA a, s ∈ U) : (∀ s ∈ (written a).1, s ∈ U) ∧ (written a).1.Nodup := by
 have : InU U (wList wCls a) := inU_list fun c hc => inU_cls fun s hs => h s (List.mem_flatMap.2 ⟨c, hc, hs⟩)
 exact this ([], []) (by simp) (by simp)
theorem sum_erase {α : Type} [DecidableEq α] (f : α → Nat) {x : α} : ∀ {U : List α}, x ∈ U → (U.map f).sum = f x + ((U.erase x).map f).sum
 | [], h => by cases h
 | y :: U, h => by
  by_cases e : y = x
  ·subst e
   simp
  ·have hx : x ∈ U := by
    rcases List.mem_cons.1 h with h | h
    ·exact absurd h.symm e
    ·exact h
   rw [List.erase_cons_tail (by simpa using e), List.map_cons, List.sum_cons, sum_erase f hx, List.map_cons, List.sum_cons]
   omega
theorem sum_among {α : Type} [DecidableEq α] (f : α → Nat) : ∀ {L U : List α}, L.Nodup → (∀ s ∈ L, s ∈ U) → (L.map f).sum ≤ (U.map f).sum
 | [], _, _, _ => by simp
 | x :: L, U, hd, h => by
  rw [List.nodup_cons] at hd
  have ih := sum_among f (L := L) (U := U.erase x) hd.2 (fun y hy => (List.mem_erase_of_ne (fun e => by subst e; exact hd.1 hy)).2 (h y (by simp [hy])))
  have := sum_erase f (h x (by simp))
  rw [List.map_cons, List.sum_cons]
  omega
theorem sum_one {α : Type} : ∀ L : List α, (L.map fun _ => 1).sum = L.length
 | [] => rfl
 | x :: L => by rw [List.map_cons, List.sum_cons, sum_one L, List.length_cons]; omega
theorem written_few {U : List ByteArray} {a : Arch} (h : ∀ s ∈ textsA a, s ∈ U) : (written a).1.length ≤ U.length := by
 obtain ⟨h1, h2⟩ := written_texts h
 have := sum_among (fun _ => 1) h2 h1
 rwa [sum_one, sum_one] at this
theorem right_of {U : List ByteArray} {a : Arch} (h : ∀ s ∈ textsA a, s ∈ U) (hU : U.length ≤ 10000) : rightA a = formedB a := by
 unfold rightA
 rw [decide_eq_true (Nat.le_trans (written_few h) hU), Bool.and_true]
theorem put_len {U : List ByteArray} {a : Arch} (h : ∀ s ∈ textsA a, s ∈ U) (hU : U.length ≤ 10000) (hi : wfA a) : (putA a).length ≤ 14 + (U.map fun s => (tb s).length).sum + 30 * costA a := by
 unfold putA
 split
 ·rename_i hr
  rw [right_of h hU] at hr
  obtain ⟨h1, h2⟩ := written_texts h
  have h3 := sum_among (fun s => (tb s).length) h2 h1
  have h4 := (written_ext hr hi).2.1
  have h5 : (written a).1.length ≤ 10000 := Nat.le_trans (written_few h) hU
  have h6 := nb_len10 (v := (written a).1.length) (by omega)
  have h7 : (tbs (written a).1).length = ((written a).1.map fun s => (tb s).length).sum := by unfold tbs; rw [List.length_flatMap]
  unfold poolB
  rw [List.length_append, List.length_append, List.length_append, h7]
  have : bon.length = 4 := rfl
  omega
 ·simp
end Go.Proofs.YtijnimjmimeefaaGreat.A
