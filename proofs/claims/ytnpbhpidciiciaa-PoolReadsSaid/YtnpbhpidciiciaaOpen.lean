/- Slices of integers that came in are rows. -/
import Derived.Test.YtnpbhpidciiciaaArgs
import Derived.ProofKit
namespace Go.Proofs.Ytnpbhpidciiciaa
open Go.ChangeShapes Go.WideShapes Go.ChangeAt Go.RowKit

theorem row_open {H : Type} {enc : TypeId × Value → H} {W : World} {base : Nat} {spare : Nat → Bool} {held : Bool} {t e : TypeId} {k : IntKind} {a : Option Addr} {len cap : Nat} {d : DataW H} {p : List MemPlace}
    (ht : Try.prog.underlying t = some (.slice e)) (he : Try.prog.underlying e = some (.int k)) (hc : Try.prog.cellsOf e = 1) (h : DataW.Trod enc Try.prog W base spare held t (.slice a len cap) d p) (hsp : ∀ b, spare b = true := by exact fun _ => rfl) :
    ∃ zs, IsRow k W a len cap zs := by
  obtain ⟨fuel, hf⟩ := h
  rcases open_ints ht he hc hf with ⟨hcs, _⟩ | ⟨x, l, c, zs, hcs, _, hl, hm, hz, _, hcell, hwz⟩
  · simp [Value.cells] at hcs
    obtain ⟨rfl, rfl, rfl⟩ := hcs
    exact ⟨[], .inl ⟨rfl, rfl, rfl, rfl⟩⟩
  · simp [Value.cells] at hcs
    obtain ⟨rfl, rfl, rfl⟩ := hcs
    exact ⟨zs, .inr ⟨_, rfl, hl, hm, by simpa [hsp] using hz, hcell, hwz⟩⟩

theorem row_le {k : IntKind} {w : World} {a : Option Addr} {len cap : Nat} {zs : List Int} (h : IsRow k w a len cap zs) : len ≤ 9223372036854775807 := by
  rcases h with ⟨_, h, _⟩ | ⟨_, _, h1, h2, _⟩
  · omega
  · unfold maxLen at h2; omega

theorem live_below {α : Type} {l : List α} {v : Value} {B : Nat} {w W : World} (hB : Below B w W) (hv : l = [] ∨ ∀ g, v.ownBlock = some g → g < w.heap.size) : l = [] ∨ ∀ g, v.ownBlock = some g → g < W.heap.size :=
  hv.imp id (fun h g hg => Nat.lt_of_lt_of_le (h g hg) hB.size)

end Go.Proofs.Ytnpbhpidciiciaa
