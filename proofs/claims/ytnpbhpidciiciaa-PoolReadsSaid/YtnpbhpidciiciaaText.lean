/- What Two and Text answer. -/
import Derived.Test.YtnpbhpidciiciaaRead
namespace Go.Proofs.Ytnpbhpidciiciaa
open Go.RowKit

/-- what lookTwo answers -/
def lookTwoR (bs : List UInt8) (k e m : Nat) : Nat × Nat :=
  if e = 0 then
    match bs.drop k with
    | a :: b :: _ => if m < a.toNat + b.toNat * 256 then (0, 22) else (a.toNat + b.toNat * 256, 0)
    | _ => (0, 20)
  else (0, e)

theorem lookTwoR_short {bs : List UInt8} {k m : Nat} (h : bs.length - k < 2) : lookTwoR bs k 0 m = (0, 20) := by
  have hl : (bs.drop k).length < 2 := by simpa using h
  unfold lookTwoR
  rw [if_pos rfl]
  match hd : bs.drop k with
  | [] => rfl
  | [_] => rfl
  | a :: b :: r => rw [hd] at hl; simp at hl; omega

theorem lookTwoR_long {bs : List UInt8} {k m a b g : Nat} {w : World} (ha : Byte w g bs k a) (hb : Byte w g bs (k + 1) b) :
    lookTwoR bs k 0 m = if m < a + b * 256 then (0, 22) else (a + b * 256, 0) := by
  obtain ⟨ca, rfl, hx, _⟩ := ha
  obtain ⟨cb, rfl, hy, _⟩ := hb
  obtain ⟨hlt, hx⟩ := List.getElem?_eq_some_iff.1 hx
  obtain ⟨hlt2, hy⟩ := List.getElem?_eq_some_iff.1 hy
  unfold lookTwoR
  rw [if_pos rfl, List.drop_eq_getElem_cons hlt, List.drop_eq_getElem_cons hlt2, hx, hy]

/-- what two bytes tell -/
def twoR (a b m : Nat) : Nat × Nat := if m < a + b * 256 then (0, 22) else (a + b * 256, 0)

def pair (r : Nat × Nat) : Value := .tuple #[.int .u64 r.1, .int .i64 r.2]

theorem pair_eq (r : Nat × Nat) (a b : Nat) (c : Int) (h : r = (a, b)) (hc : c = a) : Ending.returned (.tuple #[.int .u64 c, .int .i64 b]) = Ending.returned (pair r) := by rw [h, hc]; rfl

theorem or256 (a b : Nat) (ha : a < 256) (hb : b < 256) : bits .or .u64 (a : Int) ((b : Int) * 256) = (a : Int) + (b : Int) * 256 := by
  have h := join a b 8 (by omega) (show b * 2 ^ 8 < 18446744073709551616 by omega) (show a < 18446744073709551616 by omega)
  have e : ((b * 2 ^ 8 : Nat) : Int) = (b : Int) * 256 := by omega
  rw [e] at h
  rw [h]
  omega

theorem lookTwoR_facts (bs : List UInt8) (k e m a x : Nat) (he : e < 100) (h : lookTwoR bs k e m = (a, x)) :
    a ≤ m ∧ (x = 0 → k + 2 ≤ bs.length ∧ e = 0) ∧ (x ≠ 0 → a = 0) ∧ x < 100 := by
  unfold lookTwoR at h
  by_cases he0 : e = 0
  · rw [if_pos he0] at h
    match hd : bs.drop k with
    | [] => rw [hd] at h; simp at h; omega
    | [_] => rw [hd] at h; simp at h; omega
    | c :: d :: r =>
      have hl : (bs.drop k).length = r.length + 2 := by rw [hd]; simp
      rw [List.length_drop] at hl
      rw [hd] at h
      simp only at h
      split at h
      · simp only [Prod.mk.injEq] at h
        omega
      · simp only [Prod.mk.injEq] at h
        omega
  · rw [if_neg he0] at h
    simp only [Prod.mk.injEq] at h
    omega

/-- what Two answers, and where the Reader stands behind it -/
def rtwoR (bs : List UInt8) (k e m : Nat) : Nat × Nat × Nat :=
  if (lookTwoR bs k e m).2 = 0 then ((lookTwoR bs k e m).1, k + 2, 0) else (0, k, (lookTwoR bs k e m).2)

end Go.Proofs.Ytnpbhpidciiciaa
