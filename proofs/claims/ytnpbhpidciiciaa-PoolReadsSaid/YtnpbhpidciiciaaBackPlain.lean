/- What is written one behind the other is read one behind the other. -/
import Derived.Test.YtnpbhpidciiciaaArgs
import Derived.SliceStrings
namespace Go.Proofs.Ytnpbhpidciiciaa
open Go.RowKit

/-- the first n pieces, one behind the other -/
def catTo (F : Nat → List UInt8) : Nat → List UInt8
  | 0 => []
  | n + 1 => catTo F n ++ F n

theorem cat_split (F : Nat → List UInt8) (k : Nat) : ∀ n, k < n → ∃ r, catTo F n = catTo F k ++ (F k ++ r)
  | 0, h => by omega
  | n + 1, h => by
    by_cases hk : k = n
    · subst hk
      exact ⟨[], by rw [List.append_nil]; rfl⟩
    · obtain ⟨r, hr⟩ := cat_split F k n (by omega)
      exact ⟨r ++ F n, by show catTo F n ++ F n = _; rw [hr]; simp⟩

theorem cat_len (F : Nat → List UInt8) (m : Nat) : ∀ n, (∀ k, k < n → (F k).length ≤ m) → (catTo F n).length ≤ n * m
  | 0, _ => by simp [catTo]
  | n + 1, h => by
    have ih := cat_len F m n (fun k hk => h k (by omega))
    have := h n (by omega)
    show (catTo F n ++ F n).length ≤ _
    rw [List.length_append, Nat.succ_mul]
    omega

def pN (L : Nat → Int) (k : Nat) : List UInt8 := nb (cnt (L k))
def pI (N : Nat → Int) (k : Nat) : List UInt8 := nb (foldN (N k))
def pS (S : Nat → ByteArray) (k : Nat) : List UInt8 := nb (S k).size ++ sb (S k) ++ two (S k).size

theorem drop_at {a b r bs : List UInt8} (h : bs = a ++ (b ++ r)) : bs.drop a.length = b ++ r := by rw [h, List.drop_left]

theorem two_small {n : Nat} (h : n ≤ 100) : two (n : Int) = [UInt8.ofNat n, 0] := by
  unfold two twoN
  rw [cnt_nat, Nat.min_eq_left (by omega), Nat.mod_eq_of_lt (by omega), Nat.div_eq_of_lt (by omega)]
  rfl

theorem rtwoR_two {bs r : List UInt8} {k n : Nat} (h : n ≤ 100) (hd : bs.drop k = two (n : Int) ++ r) : rtwoR bs k 0 (cnt (n : Int)) = (n, k + 2, 0) := by
  have e : lookTwoR bs k 0 n = (n, 0) := by
    unfold lookTwoR
    rw [if_pos rfl, hd, two_small h]
    show (if n < (UInt8.ofNat n).toNat + (0 : UInt8).toNat * 256 then ((0, 22) : Nat × Nat) else ((UInt8.ofNat n).toNat + (0 : UInt8).toNat * 256, 0)) = (n, 0)
    have e1 : (UInt8.ofNat n).toNat = n := by rw [UInt8.toNat_ofNat']; omega
    have e2 : (0 : UInt8).toNat = 0 := rfl
    rw [e1, e2, if_neg (by omega)]
    simp
  unfold rtwoR
  rw [cnt_nat, e]
  rfl

/-- a slice of texts that came in -/
def IsStrs (w : World) (a : Option Addr) (len cap : Nat) (ss : List ByteArray) : Prop :=
  (a = none ∧ len = 0 ∧ cap = 0) ∨
  ∃ x, a = some x ∧ len ≤ cap ∧ cap ≤ maxLen ∧ ss.length = cap ∧ ∀ i, i < ss.length → w.cell? (x.add i) = some (.string (ss.getD i ByteArray.empty))

/-- the cells of a row, one by one -/
def RowAt (w : World) (b off len : Nat) (V : Nat → Value) : Prop := b < w.heap.size ∧ ∀ i, i < len → w.cell? ⟨b, off + i, none⟩ = some (V i)

theorem RowAt.below {w w' : World} {b off len i : Nat} {V : Nat → Value} (h : RowAt w b off len V) (hb : Below w.heap.size w w') (hi : i < len) : w'.cell? ⟨b, off + i, none⟩ = some (V i) :=
  (hb.cell (p := ⟨b, off + i, none⟩) h.1).trans (h.2 i hi)

theorem row_some {k : IntKind} {w : World} {a : Option Addr} {len cap : Nat} {zs : List Int} (h : IsRow k w a len cap zs) (hl : 0 < len) :
    ∃ b off, a = some ⟨b, off, none⟩ ∧ len ≤ cap ∧ RowAt w b off len (fun i => .int k (zs.getD i 0)) ∧ ∀ i, i < len → (Lit.int k (zs.getD i 0)).wf = true := by
  rcases h with ⟨_, h0, _⟩ | ⟨x, rfl, h1, _, hz, hc, hw⟩
  · omega
  · have h0 := hc 0 (by omega)
    have e0 : x.add 0 = x := by simp [Addr.add]
    rw [e0] at h0
    have hs := spot_of_cell h0
    refine ⟨x.block, x.off, ?_, h1, ⟨World.block_lt_of_cell? _ _ h0, fun i hi => ?_⟩, fun i hi => ?_⟩
    · obtain ⟨b, o, s⟩ := x
      simp only at hs
      subst hs
      rfl
    · rw [← add_add x i hs, hc i (by omega)]
    · refine hw _ ?_
      rw [List.getD_eq_getElem?_getD, List.getElem?_eq_getElem (show i < zs.length by omega)]
      exact List.getElem_mem _

theorem strs_some {w : World} {a : Option Addr} {len cap : Nat} {ss : List ByteArray} (h : IsStrs w a len cap ss) (hl : 0 < len) :
    ∃ b off, a = some ⟨b, off, none⟩ ∧ len ≤ cap ∧ RowAt w b off len (fun i => .string (ss.getD i ByteArray.empty)) := by
  rcases h with ⟨_, h0, _⟩ | ⟨x, rfl, h1, _, hz, hc⟩
  · omega
  · have h0 := hc 0 (by omega)
    have e0 : x.add 0 = x := by simp [Addr.add]
    rw [e0] at h0
    have hs := spot_of_cell h0
    refine ⟨x.block, x.off, ?_, h1, ⟨World.block_lt_of_cell? _ _ h0, fun i hi => ?_⟩⟩
    · obtain ⟨b, o, s⟩ := x
      simp only at hs
      subst hs
      rfl
    · rw [← add_add x i hs, hc i (by omega)]

end Go.Proofs.Ytnpbhpidciiciaa
