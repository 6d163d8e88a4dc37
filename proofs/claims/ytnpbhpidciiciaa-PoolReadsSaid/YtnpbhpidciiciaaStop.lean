/- A Reader that is at an error; a list of deeds that came in. -/
import Derived.Test.YtnpbhpidciiciaaArgs
import Derived.Deep.SlicePairs
namespace Go.Proofs.Ytnpbhpidciiciaa
open Go.RowKit

theorem lookR_stop {bs : List UInt8} {k e m : Nat} (he : e ≠ 0) : lookR bs k e m = (0, 0, e) := by unfold lookR; rw [if_neg he]
theorem numR_stop {bs : List UInt8} {k e m : Nat} (he : e ≠ 0) : numR bs k e m = (0, k, e) := by unfold numR; rw [lookR_stop he]; simp [he]
theorem textR_stop {bs : List UInt8} {k e m : Nat} (he : e ≠ 0) : textR bs k e m = ([], k, e) := by unfold textR; simp [lookR_stop he, he]
theorem rtwoR_stop {bs : List UInt8} {k e m : Nat} (he : e ≠ 0) : rtwoR bs k e m = (0, k, e) := by unfold rtwoR lookTwoR; simp [he]

theorem rnum_stop {B rb : Nat} {bs : List UInt8} {k e : Nat} {most : Int} {w : World} (he : e ≠ 0) (h : Rdr w B rb bs k e) (he2 : e < 100) (hl : bs.length ≤ 400000) (h1 : -9223372036854775808 ≤ most) (h2 : most ≤ 9223372036854775807) :
    Calls Try.prog 29 #[.pointer (some ⟨rb, 0, none⟩), .int .i64 most] w fun r w' => r = .returned (.int .i64 0) ∧ Gone w w' B rb bs k e :=
  rnum_at (numR_stop he) h he2 hl h1 h2

theorem rtext_stop {B rb : Nat} {bs : List UInt8} {k e : Nat} {most : Int} {w : World} (he : e ≠ 0) (h : Rdr w B rb bs k e) (he2 : e < 100) (hl : bs.length ≤ 400000) (h1 : -9223372036854775808 ≤ most) (h2 : most ≤ 9223372036854775807) :
    Calls Try.prog 30 #[.pointer (some ⟨rb, 0, none⟩), .int .i64 most] w fun r w' => r = .returned (.string { data := #[] }) ∧ Gone w w' B rb bs k e :=
  rtext_at (textR_stop he) h he2 hl h1 h2

theorem rdone_stop {B rb : Nat} {bs : List UInt8} {k e : Nat} {w : World} (he : e ≠ 0) (h : Rdr w B rb bs k e) (hl : bs.length ≤ 400000) :
    Calls Try.prog 22 #[.pointer (some ⟨rb, 0, none⟩)] w fun r w' => r = .returned (.bool false) ∧ Gone w w' B rb bs k e :=
  (rdone_any B rb bs k e w h hl).mono fun r w' ⟨hr, n, hw⟩ => ⟨by rw [hr, decide_eq_false (fun h => he h.1)], by rw [hw]; exact ⟨h.drewN n, grown_drewN w n _⟩⟩

/-- a list of deeds that came in: A the kinds, M the numbers -/
def IsActs (w : World) (a : Option Addr) (len cap : Nat) (A M : Nat → Int) : Prop :=
  (a = none ∧ len = 0 ∧ cap = 0) ∨
  ∃ x, a = some x ∧ len ≤ cap ∧ cap ≤ maxLen ∧ ∀ i, i < len → w.cell? (x.add (i * 2)) = some (.int .u8 (A i)) ∧ w.cell? (x.add (i * 2 + 1)) = some (.int .i64 (M i)) ∧
    (0 ≤ A i ∧ A i ≤ 255) ∧ -9223372036854775808 ≤ M i ∧ M i ≤ 9223372036854775807

/-- the i-th deed in memory -/
def ActAt (w : World) (b off i : Nat) (A M : Int) : Prop :=
  b < w.heap.size ∧ w.cell? ⟨b, off + i * 2, none⟩ = some (.int .u8 A) ∧ w.cell? ⟨b, off + i * 2 + 1, none⟩ = some (.int .i64 M)

theorem ActAt.below {w w' : World} {b off i : Nat} {A M : Int} (h : ActAt w b off i A M) (hb : Below w.heap.size w w') : w'.cell? ⟨b, off + i * 2, none⟩ = some (.int .u8 A) ∧ w'.cell? ⟨b, off + i * 2 + 1, none⟩ = some (.int .i64 M) :=
  ⟨(hb.cell (p := ⟨b, off + i * 2, none⟩) h.1).trans h.2.1, (hb.cell (p := ⟨b, off + i * 2 + 1, none⟩) h.1).trans h.2.2⟩

theorem acts_some {w : World} {a : Option Addr} {len cap : Nat} {A M : Nat → Int} (h : IsActs w a len cap A M) (hl : 0 < len) :
    ∃ b off, a = some ⟨b, off, none⟩ ∧ len ≤ cap ∧ (∀ i, i < len → ActAt w b off i (A i) (M i) ∧ 0 ≤ A i ∧ A i ≤ 255 ∧ -9223372036854775808 ≤ M i ∧ M i ≤ 9223372036854775807) := by
  rcases h with ⟨_, h0, _⟩ | ⟨x, rfl, h1, _, hc⟩
  · omega
  · have h0 := (hc 0 hl).1
    have e0 : x.add (0 * 2) = x := by simp [Addr.add]
    rw [e0] at h0
    have hs := spot_of_cell h0
    have hlt := World.block_lt_of_cell? _ _ h0
    refine ⟨x.block, x.off, ?_, h1, fun i hi => ?_⟩
    · obtain ⟨b, o, s⟩ := x
      simp only at hs
      subst hs
      rfl
    · obtain ⟨c1, c2, b1, b2, b3⟩ := hc i hi
      rw [add_add x _ hs] at c1 c2
      exact ⟨⟨hlt, c1, by rw [Nat.add_assoc]; exact c2⟩, b1.1, b1.2, b2, b3⟩

theorem Try.cellsU8 : Try.prog.cellsOf 5 = 1 := by kernel_rfl
theorem Try.cellsInt : Try.prog.cellsOf 3 = 1 := by kernel_rfl

end Go.Proofs.Ytnpbhpidciiciaa
