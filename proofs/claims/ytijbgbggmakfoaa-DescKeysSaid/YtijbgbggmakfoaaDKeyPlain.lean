/- Types' texts are read back: plainly. -/
import Derived.Test.YtijbgbggmakfoaaDKnown
namespace Go.Proofs.Ytijbgbggmakfoaa
open Go.RowKit

theorem firstR_of {t : Ty} (h : rightB t.1 t.2 = true) (rest : List UInt8) : firstR (typeL t ++ rest) = (t, rest, true) := by
  obtain ⟨k, c⟩ := t
  unfold rightB at h
  by_cases h4 : k = 4
  · subst h4
    simp only [if_true] at h
    have hb : c = bx c.data.toList := by rw [bx, Lib.mk_data]
    rw [hb, typeL_ref]
    show firstR (76 :: (c.data.toList ++ [59] ++ rest)) = _
    rw [firstR_cons, if_neg (by decide), if_neg (by decide), if_neg (by decide), if_neg (by decide), if_pos rfl]
    exact refR_hit (by simp) h
  · rw [if_neg h4] at h
    simp only [Bool.and_eq_true, decide_eq_true_eq] at h
    have hc : c = bx [] := by
      refine toList_inj ?_
      rw [Lib.toList_data, Lib.toList_data, List.eq_nil_of_length_eq_zero (l := c.data.toList) (by rw [← Lib.size_eq]; exact h.2)]
      rfl
    subst hc
    have hk : k = 1 ∨ k = 2 ∨ k = 3 ∨ k = 5 := by omega
    rcases hk with rfl | rfl | rfl | rfl <;> rfl

theorem oneR_of {t : Ty} (h : rightB t.1 t.2 = true) : oneR (typeL t) = (t, true) := by
  have := firstR_of h []
  rw [List.append_nil] at this
  unfold oneR
  rw [this]; rfl

theorem typeL_41 {t : Ty} (h : rightB t.1 t.2 = true) (rest : List UInt8) : Lib.hasPrefix (typeL t ++ rest) [41] = false := by
  cases hp : Lib.hasPrefix (typeL t ++ rest) [41] with
  | false => rfl
  | true =>
    have h1 := pre41 41 hp
    have h2 := firstR_of h rest
    rw [h1, firstR_cons, if_neg (by decide), if_neg (by decide), if_neg (by decide), if_neg (by decide), if_neg (by decide)] at h2
    simp at h2

theorem listR_of : ∀ (qs ps : List Ty) (n : Nat) (rest : List UInt8), (∀ q ∈ qs, rightB q.1 q.2 = true ∧ ¬ q.1 = 5) → ps.length + qs.length ≤ 8 → (qs.flatMap typeL ++ 41 :: rest).length < n →
    listR n ps (qs.flatMap typeL ++ 41 :: rest) = (ps ++ qs, rest, true)
  | [], ps, 0, rest, _, _, hn => absurd hn (Nat.not_lt_zero _)
  | [], ps, n + 1, rest, _, _, _ => by
    rw [List.append_nil]
    exact listR_yes
  | q :: qs, ps, 0, rest, _, _, hn => absurd hn (Nat.not_lt_zero _)
  | q :: qs, ps, n + 1, rest, hq, hl, hn => by
    have h1 := hq q (List.mem_cons_self ..)
    rw [List.flatMap_cons, List.append_assoc] at hn ⊢
    simp only [List.length_cons] at hl
    rw [listR_no (typeL_41 h1.1 _), firstR_of h1.1, if_neg (by simp [h1.2]; omega)]
    rw [listR_of qs _ n rest (fun x hx => hq x (List.mem_cons_of_mem _ hx)) (by simp; omega) (by have := typeL_pos h1.1; simp only [List.length_append, List.length_cons] at hn ⊢; omega)]
    simp

theorem parseR_of {ps : List Ty} {r : Ty} (hps : ∀ q ∈ ps, rightB q.1 q.2 = true ∧ ¬ q.1 = 5) (hl : ps.length ≤ 8) (hr : rightB r.1 r.2 = true) : parseR (ofL ps r) = (ps, r, true) := by
  unfold ofL
  refine (parseR_yes _ _ (Nat.lt_succ_self _) (listR_of ps [] _ (typeL r) hps (by simpa using hl) (Nat.lt_succ_self _))).trans ?_
  rw [oneR_of hr]
  simp

/-- of a small number: a type -/
def ofR (n : Int) : Ty :=
  if 120 ≤ n then (4, if n % 5 = 0 then ⟨#[65]⟩ else if n % 5 = 1 then ⟨#[66]⟩ else if n % 5 = 2 then ⟨#[65, 66]⟩ else if n % 5 = 3 then ⟨#[76]⟩ else ⟨#[73]⟩)
  else (if n % 3 = 0 then 1 else if n % 3 = 1 then 2 else 3, ⟨#[]⟩)

theorem ofR_right (n : Int) : rightB (ofR n).1 (ofR n).2 = true ∧ ¬ (ofR n).1 = 5 := by
  unfold ofR
  split
  · refine ⟨?_, fun h => absurd h (by show ¬ (4 : Int) = 5; decide)⟩
    show (if (4 : Int) = 4 then nameB _ else _) = true
    rw [if_pos rfl]
    split
    · rfl
    split
    · rfl
    split
    · rfl
    split <;> rfl
  · split
    · exact ⟨rfl, by decide⟩
    split
    · exact ⟨rfl, by decide⟩
    · exact ⟨rfl, by decide⟩

theorem ofR_size (n : Int) : (ofR n).2.size ≤ 2 := by
  unfold ofR
  split
  · show (if n % 5 = 0 then (⟨#[65]⟩ : ByteArray) else if n % 5 = 1 then ⟨#[66]⟩ else if n % 5 = 2 then ⟨#[65, 66]⟩ else if n % 5 = 3 then ⟨#[76]⟩ else ⟨#[73]⟩).size ≤ 2
    split
    · decide
    split
    · decide
    split
    · decide
    split <;> decide
  · exact Nat.zero_le _

def tysOf (zs : List Int) : List Ty := zs.map ofR

theorem tysOf_right (zs : List Int) : ∀ q ∈ tysOf zs, rightB q.1 q.2 = true ∧ ¬ q.1 = 5 := by
  intro q hq
  obtain ⟨z, _, rfl⟩ := List.mem_map.1 hq
  exact ofR_right z
theorem tysOf_size (zs : List Int) : ∀ q ∈ tysOf zs, q.2.size ≤ 1000000 := by
  intro q hq
  obtain ⟨z, _, rfl⟩ := List.mem_map.1 hq
  have := ofR_size z
  omega
theorem tysOf_snoc (zs : List Int) (k : Nat) (z : Int) (h : zs[k]? = some z) : tysOf (zs.take (k + 1)) = tysOf (zs.take k) ++ [ofR z] := by
  obtain ⟨hk, rfl⟩ := List.getElem?_eq_some_iff.1 h
  unfold tysOf
  rw [List.take_succ_eq_append_getElem hk, List.map_append]
  rfl

theorem of_small (zs : List Int) (r : Int) (h : (tysOf zs).length ≤ 8) : (bx (ofL (tysOf zs) ((ofR r).1, (ofR r).2))).size ≤ 4294967280 := by
  have h1 := flat_len (tysOf zs) 1000000 (tysOf_size zs)
  have h2 := typeL_len (ofR r)
  have h3 := ofR_size r
  rw [bx_size]
  unfold ofL
  rw [List.length_cons, List.length_append, List.length_cons]
  have h5 : (typeL ((ofR r).1, (ofR r).2)).length ≤ 4 := by show (typeL (ofR r)).length ≤ 4; omega
  omega

/-- two methods have one Key just if their types are alike -/
theorem key_eq (zs ys : List Int) (r s : Int) (h1 : zs.length ≤ 8) (h2 : ys.length ≤ 8) (h : (⟨#[102]⟩ : ByteArray) ++ bx (ofL (tysOf zs) (ofR r)) = ⟨#[102]⟩ ++ bx (ofL (tysOf ys) (ofR s))) :
    tysOf zs = tysOf ys ∧ ofR r = ofR s := by
  have e := congrArg (fun x : ByteArray => x.data.toList) h
  simp only [data_app, bx_data] at e
  have e2 := List.append_cancel_left e
  have e3 := congrArg parseR e2
  rw [parseR_of (tysOf_right zs) (by simpa [tysOf] using h1) (ofR_right r).1, parseR_of (tysOf_right ys) (by simpa [tysOf] using h2) (ofR_right s).1] at e3
  simp only [Prod.mk.injEq, and_true] at e3
  exact e3

end Go.Proofs.Ytijbgbggmakfoaa
