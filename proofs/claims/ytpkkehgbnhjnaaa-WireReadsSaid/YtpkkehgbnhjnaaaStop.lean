/- A Reader that is at an error; a list of deeds that came in. -/
import Derived.Test.YtpkkehgbnhjnaaaArgs
import Derived.Deep.SlicePairs
namespace Go.Proofs.Ytpkkehgbnhjnaaa
open Go.RowKit

theorem lookR_stop {bs : List UInt8} {k e m : Nat} (he : e ≠ 0) : lookR bs k e m = (0, 0, e) := by unfold lookR; rw [if_neg he]
theorem numR_stop {bs : List UInt8} {k e m : Nat} (he : e ≠ 0) : numR bs k e m = (0, k, e) := by unfold numR; rw [lookR_stop he]; simp [he]
theorem textR_stop {bs : List UInt8} {k e m : Nat} (he : e ≠ 0) : textR bs k e m = ([], k, e) := by unfold textR; simp [lookR_stop he, he]
theorem rtwoR_stop {bs : List UInt8} {k e m : Nat} (he : e ≠ 0) : rtwoR bs k e m = (0, k, e) := by unfold rtwoR lookTwoR; simp [he]

theorem rnum_stop {B rb : Nat} {bs : List UInt8} {k e : Nat} {most : Int} {w : World} (he : e ≠ 0) (h : Rdr w B rb bs k e) (he2 : e < 100) (hl : bs.length ≤ 400000) (h1 : -9223372036854775808 ≤ most) (h2 : most ≤ 9223372036854775807) :
    Calls Try.prog 19 #[.pointer (some ⟨rb, 0, none⟩), .int .i64 most] w fun r w' => r = .returned (.int .i64 0) ∧ Gone w w' B rb bs k e :=
  rnum_at (numR_stop he) h he2 hl h1 h2

theorem rint_stop {B rb : Nat} {bs : List UInt8} {k e : Nat} {w : World} (he : e ≠ 0) (h : Rdr w B rb bs k e) (he2 : e < 100) (hl : bs.length ≤ 400000) :
    Calls Try.prog 21 #[.pointer (some ⟨rb, 0, none⟩)] w fun r w' => r = .returned (.int .i32 0) ∧ Gone w w' B rb bs k e :=
  rint_at (numR_stop he) h he2 hl

theorem rtext_stop {B rb : Nat} {bs : List UInt8} {k e : Nat} {most : Int} {w : World} (he : e ≠ 0) (h : Rdr w B rb bs k e) (he2 : e < 100) (hl : bs.length ≤ 400000) (h1 : -9223372036854775808 ≤ most) (h2 : most ≤ 9223372036854775807) :
    Calls Try.prog 23 #[.pointer (some ⟨rb, 0, none⟩), .int .i64 most] w fun r w' => r = .returned (.string { data := #[] }) ∧ Gone w w' B rb bs k e :=
  rtext_at (textR_stop he) h he2 hl h1 h2

theorem rtwo_stop {B rb : Nat} {bs : List UInt8} {k e : Nat} {most : Int} {w : World} (he : e ≠ 0) (h : Rdr w B rb bs k e) (he2 : e < 100) (hl : bs.length ≤ 400000) (h1 : -9223372036854775808 ≤ most) (h2 : most ≤ 9223372036854775807) :
    Calls Try.prog 25 #[.pointer (some ⟨rb, 0, none⟩), .int .i64 most] w fun r w' => r = .returned (.int .i64 0) ∧ Gone w w' B rb bs k e :=
  rtwo_at (rtwoR_stop he) h he2 hl h1 h2

theorem rdone_stop {B rb : Nat} {bs : List UInt8} {k e : Nat} {w : World} (he : e ≠ 0) (h : Rdr w B rb bs k e) (hl : bs.length ≤ 400000) :
    Calls Try.prog 28 #[.pointer (some ⟨rb, 0, none⟩)] w fun r w' => r = .returned (.bool false) ∧ Gone w w' B rb bs k e :=
  (rdone_any B rb bs k e w h hl).mono fun r w' ⟨hr, n, hw⟩ => ⟨by rw [hr, decide_eq_false (fun h => he h.1)], by rw [hw]; exact ⟨h.drewN n, grown_drewN w n _⟩⟩

/-- a list of deeds that came in: A the kinds, M the numbers -/
def IsActs (w : World) (a : Option Addr) (len cap : Nat) (A M : Nat → Int) : Prop :=
  (a = none ∧ len = 0 ∧ cap = 0) ∨
  ∃ x, a = some x ∧ len ≤ cap ∧ cap ≤ maxLen ∧ ∀ i, i < len → w.cell? (x.add (i * 2)) = some (.int .u8 (A i)) ∧ w.cell? (x.add (i * 2 + 1)) = some (.int .i64 (M i)) ∧
    (0 ≤ A i ∧ A i ≤ 255) ∧ -9223372036854775808 ≤ M i ∧ M i ≤ 9223372036854775807

/-- the i-th deed in memory -/
def ActAt (w : World) (b off i : Nat) (A M : Int) : Prop :=
  b < w.heap.size ∧ w.cell? ⟨b, off + i * 2, none⟩ = some (.int .u8 A) ∧ w.cell? ⟨b, off + i * 2 + 1, none⟩ = some (.int .i64 M)

theorem ActAt.below {w w' : World} {b off i : Nat} {A M : Int} (h : ActAt w b off i A M) (hb : Below w.heap.size w w') : w'.cell? ⟨b, off + i * 2, none⟩ = some (.int .u8 A) ∧ w'.cell? ⟨b, off + i * 2 + 1, none⟩ = some (.int .i64 M) :=
  ⟨(hb.cell (p := ⟨b, off + i * 2, none⟩) h.1).trans h.2.1, (hb.cell (p := ⟨b, off + i * 2 + 1, none⟩) h.1).trans h.2.2⟩

theorem acts_some {w : World} {a : Option Addr} {len cap : Nat} {A M : Nat → Int} (h : IsActs w a len cap A M) (hl : 0 < len) :
    ∃ b off, a = some ⟨b, off, none⟩ ∧ len ≤ cap ∧ (∀ i, i < len → ActAt w b off i (A i) (M i) ∧ 0 ≤ A i ∧ A i ≤ 255 ∧ -9223372036854775808 ≤ M i ∧ M i ≤ 9223372036854775807) := by
  rcases h with ⟨_, h0, _⟩ | ⟨x, rfl, h1, _, hc⟩
  · omega
  · have h0 := (hc 0 hl).1
    have e0 : x.add (0 * 2) = x := by simp [Addr.add]
    rw [e0] at h0
    have hs := spot_of_cell h0
    have hlt := World.block_lt_of_cell? _ _ h0
    refine ⟨x.block, x.off, ?_, h1, fun i hi => ?_⟩
    · obtain ⟨b, o, s⟩ := x
      simp only at hs
      subst hs
      rfl
    · obtain ⟨c1, c2, b1, b2, b3⟩ := hc i hi
      rw [add_add x _ hs] at c1 c2
      exact ⟨⟨hlt, c1, by rw [Nat.add_assoc]; exact c2⟩, b1.1, b1.2, b2, b3⟩

theorem Try.cellsAct : Try.prog.cellsOf 39 = 2 := by kernel_rfl
theorem Try.cellsU8 : Try.prog.cellsOf 5 = 1 := by kernel_rfl
theorem Try.cellsInt : Try.prog.cellsOf 3 = 1 := by kernel_rfl

theorem acts_open {H : Type} {enc : TypeId × Value → H} {w : World} {base : Nat} {spare : Nat → Bool} {held : Bool} {fuel : Nat} {a : Option Addr} {len cap : Nat} {x : DataW H × List MemPlace}
    (h : DataW.trod enc Try.prog w base spare held fuel 30 [.slice a len cap] = some x) (hsp : ∀ b, spare b = true) : ∃ A M, IsActs w a len cap A M := by
  rcases Deep.open_slice_pairs Try.underlying30 Try.underlying39 Try.cellsAct rfl rfl Try.cellsU8 Try.cellsInt h with ⟨hcs, _⟩ | ⟨ad, l, c, m, n, V0, V1, D0, D1, P0, P1, hcs, _, hl, hm, hmm, _, hx⟩
  · simp at hcs
    obtain ⟨rfl, rfl, rfl⟩ := hcs
    exact ⟨fun _ => 0, fun _ => 0, .inl ⟨rfl, rfl, rfl⟩⟩
  · simp at hcs
    obtain ⟨rfl, rfl, rfl⟩ := hcs
    rw [hsp, if_pos rfl] at hmm
    subst hmm
    have hv : ∀ i, ∃ p : Int × Int, i < len → V0 i = .int .u8 p.1 ∧ V1 i = .int .i64 p.2 ∧ (Lit.int .u8 p.1).wf = true ∧ (Lit.int .i64 p.2).wf = true := fun i => by
      by_cases hi : i < len
      · obtain ⟨_, _, t0, t1⟩ := hx i (by omega)
        obtain ⟨z0, e0, _, w0⟩ := DataW.trod_int Try.underlying5 t0
        obtain ⟨z1, e1, _, w1⟩ := DataW.trod_int Try.underlying3 t1
        simp at e0 e1
        exact ⟨(z0, z1), fun _ => ⟨e0, e1, w0, w1⟩⟩
      · exact ⟨(0, 0), fun h => absurd h hi⟩
    refine ⟨fun i => (Classical.choose (hv i)).1, fun i => (Classical.choose (hv i)).2, .inr ⟨ad, rfl, hl, hm, fun i hi => ?_⟩⟩
    obtain ⟨g0, g1, g2, g3⟩ := Classical.choose_spec (hv i) hi
    obtain ⟨c0, c1, _, _⟩ := hx i (by omega)
    exact ⟨by rw [c0, g0], by rw [c1, g1], wf_u8 g2, bounds_i64 g3⟩

end Go.Proofs.Ytpkkehgbnhjnaaa
