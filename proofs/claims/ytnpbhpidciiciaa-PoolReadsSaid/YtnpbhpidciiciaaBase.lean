/- Small facts that all texts of this seat use: the numbers' bytes, what a slice of bytes reads as. -/
import Derived.Test.YtnpbhpidciiciaaRows
import Derived.WalkKit
import Derived.WalkSpells
import Derived.WalkLawsBesides
import Derived.Lib.Hide
namespace Go.Proofs.Ytnpbhpidciiciaa
open Go.RowKit

/-- the bytes of a number, seven bits each -/
def nb (v : Nat) : List UInt8 :=
  if v < 128 then [UInt8.ofNat v] else UInt8.ofNat (v % 128 + 128) :: nb (v / 128)
termination_by v
decreasing_by omega

theorem nb_small {v : Nat} (h : v < 128) : nb v = [UInt8.ofNat v] := by rw [nb, if_pos h]
theorem nb_big {v : Nat} (h : ¬ v < 128) : nb v = UInt8.ofNat (v % 128 + 128) :: nb (v / 128) := by rw [nb, if_neg h]

theorem nb_pos (v : Nat) : 0 < (nb v).length := by
  by_cases h : v < 128
  · rw [nb_small h]; simp
  · rw [nb_big h]; simp

theorem nb_len : ∀ (k v : Nat), v < 128 ^ (k + 1) → (nb v).length ≤ k + 1
  | 0, v, h => by rw [nb_small (by omega)]; simp
  | k + 1, v, h => by
    by_cases hv : v < 128
    · rw [nb_small hv]; simp
    · rw [nb_big hv]
      have := nb_len k (v / 128) (by rw [Nat.pow_succ] at h; omega)
      simp; omega

theorem nb_len10 {v : Nat} (h : v < 18446744073709551616) : (nb v).length ≤ 10 :=
  nb_len 9 v (Nat.lt_of_lt_of_le h (by decide))

/-- a number below 0 counts as 0 -/
def cnt (z : Int) : Nat := z.toNat

/-- v fits 64 bits -/
def U64 (v : Nat) : Prop := v < 18446744073709551616
theorem U64.out {v : Nat} (h : U64 v) : v < 18446744073709551616 := h
theorem U64.div {v : Nat} (h : U64 v) (k : Nat) : U64 (v / k) := Nat.lt_of_le_of_lt (Nat.div_le_self v k) h
theorem U64.le {v u : Nat} (h : U64 v) (hu : u ≤ v) : U64 u := Nat.lt_of_le_of_lt hu h

/-- what a byte reads as in a cell -/
def u8 (x : UInt8) : Value := .int .u8 (x.toNat : Int)

theorem u8_ofNat {n : Nat} (h : n < 256) : u8 (UInt8.ofNat n) = .int .u8 (n : Int) := by
  simp [u8, Nat.mod_eq_of_lt h]

theorem u8_one (l : List UInt8) : ∀ u ∈ l.map u8, u.oneCell' = true := by
  intro u hu
  obtain ⟨_, _, rfl⟩ := List.mem_map.1 hu
  rfl

/-- the slice value v reads as the bytes l -/
def Rd (w : World) (v : Value) (l : List UInt8) : Prop :=
  ∃ (p : Option Addr) (cap : Nat), v = .slice p l.length cap ∧ l.length ≤ cap ∧ (p = none → cap = 0) ∧
    ∀ a, p = some a → ∀ (i : Nat) x, l[i]? = some x → w.cell? (a.add i) = some (u8 x)

/-- the slice value v is the call's own, from block B on, and reads as the bytes l -/
def Own (w : World) (B : Nat) (v : Value) (l : List UInt8) : Prop := w.ownsRow B 5 1 v l.length (l.map u8)

theorem ret_int {k : IntKind} {a b : Int} (h : a = b) : Ending.returned (.int k a) = .returned (.int k b) := by rw [h]
theorem Try.infoB : (Try.prog.info? 5).map (fun i => (i.zero, i.size, i.bytes)) = some (some (.int .u8 0), 1, 1) := by kernel_rfl

theorem Own.len {w : World} {B : Nat} {v : Value} {l : List UInt8} (h : Own w B v l) : ∃ a c, v = .slice a l.length c ∧ l.length ≤ c ∧ c ≤ maxLen := by
  rcases h.2 with ⟨rfl, hn⟩ | ⟨g, cap, cur, rfl, _, _, h1, h2, _⟩
  · exact ⟨none, 0, by rw [hn], by omega, by unfold maxLen; omega⟩
  · exact ⟨_, cap, rfl, h1, h2⟩

theorem Own.rd {w : World} {B : Nat} {v : Value} {l : List UInt8} (h : Own w B v l) : Rd w v l := by
  have hh := h
  rcases h.2 with ⟨rfl, hn⟩ | ⟨g, cap, cur, rfl, hb, hg, h1, h2, h3, h4⟩
  · exact ⟨none, 0, by rw [hn], by omega, fun _ => rfl, fun a ha => by cases ha⟩
  · refine ⟨some ⟨g, 0, none⟩, cap, rfl, h1, (fun h => by cases h), fun a ha => ?_⟩
    cases ha
    intro i x hx
    have := World.ownsRow.cells hh (g := g) rfl i (u8 x) (by simp [hx])
    exact this

theorem add_block (a : Addr) (i : Nat) : (a.add i).block = a.block := by unfold Addr.add; split <;> rfl

theorem Rd.below {B : Nat} {w w' : World} {v : Value} {l : List UInt8} (h : Rd w v l) (hb : Below B w w') (hv : l = [] ∨ ∀ g, v.ownBlock = some g → g < B) : Rd w' v l := by
  obtain ⟨p, cap, rfl, h1, h2, h3⟩ := h
  rcases hv with rfl | hv
  · exact ⟨p, cap, rfl, h1, h2, fun a ha i x hx => by simp at hx⟩
  refine ⟨p, cap, rfl, h1, h2, fun a ha i x hx => ?_⟩
  have hlt := hv a.block (by rw [ha]; rfl)
  rw [hb.cell (p := a.add i) (by rw [add_block]; exact hlt)]
  exact h3 a ha i x hx

theorem Own.kept {w w' : World} {B : Nat} {v : Value} {l : List UInt8} {row : Option Nat} (h : Own w B v l) (hg : w.grownBy w' row) (hne : v.ownBlock = none ∨ v.ownBlock ≠ row) : Own w' B v l := World.ownsRow.kept h hg hne

theorem Own.mono {w : World} {B B' : Nat} {v : Value} {l : List UInt8} (h : Own w B v l) (hB : B' ≤ B) : Own w B' v l := by
  refine ⟨h.1, ?_⟩
  rcases h.2 with h' | ⟨g, cap, cur, e, hb, r⟩
  · exact .inl h'
  · exact .inr ⟨g, cap, cur, e, Nat.le_trans hB hb, r⟩

theorem Own.below {w w' : World} {B C : Nat} {v : Value} {l : List UInt8} (h : Own w B v l) (hb : Below C w w') (hC : ∀ g, v.ownBlock = some g → g < C) : Own w' B v l := by
  refine ⟨h.1, ?_⟩
  rcases h.2 with h' | ⟨g, cap, cur, e, hB, hg, r⟩
  · exact .inl h'
  · refine .inr ⟨g, cap, cur, e, hB, ?_, r⟩
    rw [hb.block g (hC g (by rw [e]; rfl))]
    exact hg

end Go.Proofs.Ytnpbhpidciiciaa
