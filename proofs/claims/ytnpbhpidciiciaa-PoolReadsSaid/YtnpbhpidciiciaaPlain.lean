/- What is written is read back: numbers and texts, in plain lists. -/
import Derived.Test.YtnpbhpidciiciaaKnown
namespace Go.Proofs.Ytnpbhpidciiciaa
open Go.RowKit

theorem goOn_toNat (u : Nat) : (goOn u).toNat = u % 128 + 128 := by
  unfold goOn
  rw [UInt8.toNat_ofNat']
  omega

theorem small_toNat {u : Nat} (h : u < 128) : (UInt8.ofNat u).toNat = u := by
  rw [UInt8.toNat_ofNat']
  omega

theorem pow_next (u i : Nat) : u % 128 * 2 ^ (7 * i) + u / 128 * 2 ^ (7 * (i + 1)) = u * 2 ^ (7 * i) := by
  have e : 2 ^ (7 * (i + 1)) = 128 * 2 ^ (7 * i) := by rw [show 7 * (i + 1) = 7 + 7 * i from by omega, Nat.pow_add]
  rw [e, ← Nat.mul_assoc, ← Nat.add_mul]
  congr 1
  omega

theorem dec_nb (m : Nat) (l : List UInt8) : ∀ (f u i v : Nat), u < f → (i = 0 ∨ 0 < u) → i + (nb u).length ≤ 9 →
    dec m (nb u ++ l) i v = if m < v + u * 2 ^ (7 * i) then (0, 0, 22) else (v + u * 2 ^ (7 * i), i + (nb u).length, 0)
  | 0, _, _, _, h, _, _ => by omega
  | f + 1, u, i, v, hf, h0, hl => by
    by_cases hu : u < 128
    · rw [nb_small hu] at hl ⊢
      simp only [List.length_singleton] at hl
      rw [List.cons_append, List.nil_append, dec, if_neg (by omega), small_toNat hu, if_pos hu]
      unfold wholeR
      rw [if_neg (by omega)]
      rfl
    · rw [nb_big hu] at hl ⊢
      rw [List.length_cons] at hl
      have hg : (UInt8.ofNat (u % 128 + 128)).toNat = u % 128 + 128 := goOn_toNat u
      rw [List.cons_append, dec, if_neg (by have := nb_pos (u / 128); omega), hg, if_neg (by omega)]
      rw [dec_nb m l f (u / 128) (i + 1) _ (by omega) (by omega) (by omega)]
      rw [show (u % 128 + 128) % 128 = u % 128 from by omega, Nat.add_assoc, pow_next, List.length_cons, show i + 1 + (nb (u / 128)).length = i + ((nb (u / 128)).length + 1) from by omega]

theorem nb_len9 {u : Nat} (h : u ≤ 9223372036854775807) : (nb u).length ≤ 9 :=
  nb_len 8 u (Nat.lt_of_le_of_lt h (by decide))

theorem lookR_nb {bs l : List UInt8} {k u m : Nat} (hd : bs.drop k = nb u ++ l) (hu : u ≤ 9223372036854775807) :
    lookR bs k 0 m = if m < u then (0, 0, 22) else (u, (nb u).length, 0) := by
  have h := dec_nb m l (u + 1) u 0 0 (by omega) (.inl rfl) (by have := nb_len9 hu; omega)
  unfold lookR
  rw [if_pos rfl, hd, h]
  simp

theorem numR_nb {bs l : List UInt8} {k u m : Nat} (hd : bs.drop k = nb u ++ l) (hu : u ≤ 9223372036854775807) :
    numR bs k 0 m = if m < u then (0, k, 22) else (u, k + (nb u).length, 0) := by
  unfold numR
  rw [lookR_nb hd hu]
  by_cases h : m < u <;> simp [h]

theorem textR_nb {bs l t : List UInt8} {k m : Nat} (hd : bs.drop k = nb t.length ++ (t ++ l)) (hu : t.length ≤ 9223372036854775807) :
    textR bs k 0 m = if m < t.length then ([], k, 22) else (t, k + (nb t.length).length + t.length, 0) := by
  have hdr : bs.drop (k + (nb t.length).length) = t ++ l := by
    rw [← List.drop_drop, hd, List.drop_left]
  have hl : (bs.drop (k + (nb t.length).length)).length = t.length + l.length := by rw [hdr, List.length_append]
  rw [List.length_drop] at hl
  unfold textR
  simp only [lookR_nb hd hu]
  by_cases h : m < t.length
  · simp [h]
  · simp only [h, if_false, if_true]
    rw [if_neg (by omega), hdr, List.take_left]

theorem cnt_nat (M : Nat) : cnt (M : Int) = M := by unfold cnt; omega
theorem cnt_pred (M : Nat) : cnt ((M : Int) - 1) = M - 1 := by unfold cnt; omega
theorem nums_one (z : Int) : nums [z] = nb (cnt z) := by
  show nb (cnt z) ++ [] = _
  rw [List.append_nil]

theorem Rdr.lt {w : World} {B rb : Nat} {bs : List UInt8} {k e : Nat} (h : Rdr w B rb bs k e) : rb < w.heap.size := by
  obtain ⟨_, _, sl, hx, _⟩ := h
  exact (Array.getElem?_eq_some_iff.1 hx).1

/-- another Reader, all of it elsewhere, stays as it is -/
theorem Rdr.other {w w' : World} {B C rb qb : Nat} {bs cs : List UInt8} {k e k' e' : Nat} (h : Rdr w B rb bs k e) (hg : Gone w w' C qb cs k' e') (hq : qb < B) : Rdr w' B rb bs k e := by
  obtain ⟨h1, h2, sl, hx, ho, hn⟩ := h
  have hlt := (Array.getElem?_eq_some_iff.1 hx).1
  refine ⟨h1, h2, sl, ?_, ho.kept hg.2 ?_, hn⟩
  · rw [hg.2.block rb hlt (by intro e; cases e; omega)]
    exact hx
  · refine .inr (fun h => ?_)
    have := (ho.lt _ h).1
    omega

/-- a Reader made earlier stays as it is where a later one goes on -/
theorem Rdr.other2 {w w' : World} {B C rb qb : Nat} {bs cs : List UInt8} {k e k' e' : Nat} (h : Rdr w B rb bs k e) (hg : Gone w w' C qb cs k' e') (hq : rb < qb) : Rdr w' B rb bs k e := by
  obtain ⟨h1, h2, sl, hx, ho, hn⟩ := h
  have hlt := (Array.getElem?_eq_some_iff.1 hx).1
  refine ⟨h1, h2, sl, ?_, ho.kept hg.2 (.inr (fun h => by have := hn _ h; omega)), hn⟩
  rw [hg.2.block rb hlt (by intro e; cases e; omega)]
  exact hx

theorem empty_of_size {s : ByteArray} (h : s.size = 0) : s = { data := #[] } := by
  obtain ⟨d⟩ := s
  have : d.size = 0 := h
  rw [Array.eq_empty_of_size_eq_zero this]

end Go.Proofs.Ytnpbhpidciiciaa
