/- What Two answers, and New and Clone. -/
import Derived.Test.YtnpbhpidciiciaaNum
namespace Go.Proofs.Ytnpbhpidciiciaa
open Go.RowKit

/-- n in two bytes -/
def twoN (n : Int) : Nat := min (cnt n) 65535
def two (n : Int) : List UInt8 := [UInt8.ofNat (twoN n % 256), UInt8.ofNat (twoN n / 256)]

theorem int_eq {k : IntKind} {a b : Int} (h : a = b) : Value.int k a = Value.int k b := by rw [h]

theorem rd_new2 (w : World) (v1 v2 : Value) (t : TypeId) (x y : UInt8) (h1 : v1 = u8 x) (h2 : v2 = u8 y) : Rd (w.alloc (.cells #[v1, v2] t)) (.slice (some ⟨w.heap.size, 0, none⟩) 2 2) [x, y] := by
  subst h1
  subst h2
  refine ⟨_, 2, rfl, by simp, (fun h => by cases h), fun a ha => ?_⟩
  cases ha
  intro i z hz
  match i, hz with
  | 0, hz => simp at hz; subst hz; simp [Addr.add]
  | 1, hz => simp at hz; subst hz; simp [Addr.add]

theorem Rd.alloc {w : World} {v : Value} {l : List UInt8} (h : Rd w v l) (o : Obj) (hv : l = [] ∨ ∀ g, v.ownBlock = some g → g < w.heap.size) : Rd (w.alloc o) v l :=
  h.below ((Below.refl _ _).alloc (Nat.le_refl _) o) hv

end Go.Proofs.Ytnpbhpidciiciaa
