/- WireReads: what any bytes tell, and the first error. -/
import Derived.Test.YtnpbhpidciiciaaRefRd4
import Derived.Test.YtnpbhpidciiciaaRef2
import Derived.Deep.RegionHeld3
import Derived.Deep.DeepCutAuto
namespace Go.Proofs.Ytnpbhpidciiciaa
open Go.RowKit

/-- an owned slice can be written at each of its places -/
theorem Own.put {w : World} {B : Nat} {v : Value} {l : List UInt8} (h : Own w B v l) (hl : 0 < l.length) :
    ∃ g cap, v = .slice (some ⟨g, 0, none⟩) l.length cap ∧ B ≤ g ∧ ∀ j, j < l.length → (∃ u, w.cell? ⟨g, j, none⟩ = some u) ∧ w.frozen? ⟨g, j, none⟩ = false ∧
      ∀ y, Own (w.setCell ⟨g, j, none⟩ (u8 y)) B v (l.set j y) ∧ w.grownBy (w.setCell ⟨g, j, none⟩ (u8 y)) (some g) := by
  have h' := h
  rcases h.2 with ⟨rfl, hn⟩ | ⟨g, cap, cur, rfl, hb, hg, h1, h2, h3, h4⟩
  · omega
  · refine ⟨g, cap, rfl, hb, fun j hj => ⟨⟨u8 l[j], ?_⟩, World.ownsRow.frozenAt h' _, fun y => ?_⟩⟩
    · rw [World.ownsRow.cellAt h' j (by omega)]
      simp [hj]
    · obtain ⟨r1, r2⟩ := World.ownsRow.stored h' j (u8 y)
      refine ⟨?_, r2⟩
      unfold Own
      rw [List.length_set, List.map_set]
      exact r1

/-- four slices in a row, their bytes below block M -/
def Four (w : World) (tb M : Nat) : Prop :=
  tb < M ∧ ∀ j, j < 4 → ∃ p c xs, w.cell? ⟨tb, j, none⟩ = some (.slice p (xs : List UInt8).length c) ∧ Rd w (.slice p xs.length c) xs ∧ (xs = [] ∨ ∀ g, (Value.slice p xs.length c).ownBlock = some g → g < M) ∧ xs.length ≤ 1000

theorem Four.below {w w' : World} {tb M : Nat} (h : Four w tb M) (hb : Below M w w') : Four w' tb M :=
  ⟨h.1, fun j hj => by
    obtain ⟨p, c, xs, h1, h2, h3, h4⟩ := h.2 j hj
    exact ⟨p, c, xs, (hb.cell (p := ⟨tb, j, none⟩) h.1).trans h1, h2.below hb h3, h3, h4⟩⟩

theorem Ref.below {w w' : World} {M qb C : Nat} {bs : List UInt8} {k e : Nat} (h : Ref w M qb bs k e) (hb : Below C w w') (hC : w.heap.size ≤ C) : Ref w' M qb bs k e := by
  obtain ⟨h1, h2, p, c, hx, hr, hv⟩ := h
  have hlt := (Array.getElem?_eq_some_iff.1 hx).1
  exact ⟨h1, h2, p, c, by rw [hb.block qb (by omega)]; exact hx, hr.below hb (hv.imp id (fun h g hg => by have := h g hg; omega)), hv⟩

/-- the answers' Reader stays as it is where the Reader goes on -/
theorem Ref.other {w w' : World} {M qb C rb : Nat} {bs cs : List UInt8} {k e k' e' : Nat} (h : Ref w M qb bs k e) (hg : Gone w w' C rb cs k' e') (hq : M ≤ rb) (hne : qb ≠ rb) : Ref w' M qb bs k e := by
  obtain ⟨h1, h2, p, c, hx, hr, hv⟩ := h
  have hlt := (Array.getElem?_eq_some_iff.1 hx).1
  refine ⟨h1, h2, p, c, ?_, hr.grown hg.2 (hv.imp id (fun h g hg' => ⟨by have := h g hg'; omega, by have := h g hg'; intro e; cases e; omega⟩)), hv⟩
  rw [hg.2.block qb hlt (by intro e; cases e; exact hne rfl)]
  exact hx

/-- the Reader stays as it is where the answers' Reader goes on -/
theorem Rdr.otherF {w w' : World} {B M rb qb : Nat} {bs cs : List UInt8} {k e k' e' : Nat} (h : Rdr w B rb bs k e) (hg : GoneF w w' M qb cs k' e') (hq : rb < qb) : Rdr w' B rb bs k e := by
  obtain ⟨h1, h2, sl, hx, ho, hn⟩ := h
  have hlt := (Array.getElem?_eq_some_iff.1 hx).1
  refine ⟨h1, h2, sl, ?_, ho.kept hg.2 (.inr (fun h => by have := hn _ h; omega)), hn⟩
  rw [hg.2.block rb hlt (by intro e; cases e; omega)]
  exact hx

theorem GoneF.below {w w' : World} {M qb : Nat} {bs : List UInt8} {k e C : Nat} (h : GoneF w w' M qb bs k e) (hC : C ≤ w.heap.size) (hr : C ≤ qb) : Below C w w' :=
  (Below.refl _ _).grown h.2 hC (fun k hk => by cases hk; exact hr)

end Go.Proofs.Ytnpbhpidciiciaa
