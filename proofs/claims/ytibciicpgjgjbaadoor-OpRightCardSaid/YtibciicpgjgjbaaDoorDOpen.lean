/- What came in, opened: slices of integers, slices of types, a type. -/
import Derived.Test.YtibciicpgjgjbaaDoorDArgs
import Derived.Test.YtibciicpgjgjbaaDoorDTys
import Derived.ProofKit
import Derived.Deep.SlicePairs
import Derived.SizedLaws
import Derived.Lib.SmallJoins
namespace Go.Proofs.YtibciicpgjgjbaaDoor
open Go.ChangeShapes Go.WideShapes Go.ChangeAt Go.RowKit

theorem row_open {H : Type} {enc : TypeId × Value → H} {W : World} {base : Nat} {spare : Nat → Bool} {held : Bool} {t e : TypeId} {k : IntKind} {a : Option Addr} {len cap : Nat} {d : DataW H} {p : List MemPlace}
    (ht : Tryd.prog.underlying t = some (.slice e)) (he : Tryd.prog.underlying e = some (.int k)) (hc : Tryd.prog.cellsOf e = 1) (h : DataW.Trod enc Tryd.prog W base spare held t (.slice a len cap) d p) (hsp : ∀ b, spare b = true := by exact fun _ => rfl) :
    ∃ zs, IsRow k W a len cap zs := by
  obtain ⟨fuel, hf⟩ := h
  rcases open_ints ht he hc hf with ⟨hcs, _⟩ | ⟨x, l, c, zs, hcs, _, hl, hm, hz, _, hcell, hwz⟩
  · simp [Value.cells] at hcs
    obtain ⟨rfl, rfl, rfl⟩ := hcs
    exact ⟨[], .inl ⟨rfl, rfl, rfl, rfl⟩⟩
  · simp [Value.cells] at hcs
    obtain ⟨rfl, rfl, rfl⟩ := hcs
    exact ⟨zs, .inr ⟨_, rfl, hl, hm, by simpa [hsp] using hz, hcell, hwz⟩⟩

/-- a slice of types that came in -/
def InTys (w : World) (a : Option Addr) (len cap : Nat) (ts : List Ty) : Prop :=
  ts.length = len ∧ RdT w (.slice a len cap) ts ∧ (∀ t ∈ ts, t.2.size ≤ maxLen) ∧ len ≤ maxLen ∧ (a = none → cap = 0)

theorem cellsTy : Tryd.prog.cellsOf 43 = 2 := by kernel_rfl
theorem cellsInt : Tryd.prog.cellsOf 3 = 1 := by kernel_rfl
theorem cellsStr : Tryd.prog.cellsOf 9 = 1 := by kernel_rfl

theorem tys_open {H : Type} {enc : TypeId × Value → H} {w : World} {base : Nat} {spare : Nat → Bool} {held : Bool} {fuel : Nat} {a : Option Addr} {len cap : Nat} {x : DataW H × List MemPlace}
    (h : DataW.trod enc Tryd.prog w base spare held fuel 41 [.slice a len cap] = some x) (hsp : ∀ b, spare b = true) : ∃ ts, InTys w a len cap ts := by
  rcases Deep.open_slice_pairs Tryd.underlying41 Tryd.underlying43 cellsTy rfl rfl cellsInt cellsStr h with ⟨hcs, _⟩ | ⟨ad, l, c, m, n, V0, V1, D0, D1, P0, P1, hcs, _, hl, hm, hmm, _, hx⟩
  · simp at hcs
    obtain ⟨rfl, rfl, rfl⟩ := hcs
    exact ⟨[], rfl, ⟨none, 0, rfl, (fun a ha => by cases ha), fun _ => rfl, fun a ha => by cases ha⟩, (fun t ht => by simp at ht), by unfold maxLen; omega, fun _ => rfl⟩
  · simp at hcs
    obtain ⟨rfl, rfl, rfl⟩ := hcs
    rw [hsp, if_pos rfl] at hmm
    subst hmm
    have hv : ∀ i, ∃ p : Ty, i < len → V0 i = .int .i64 p.1 ∧ V1 i = .string p.2 ∧ p.2.size ≤ maxLen := fun i => by
      by_cases hi : i < len
      · obtain ⟨_, _, t0, t1⟩ := hx i (by omega)
        obtain ⟨z0, e0, _, w0⟩ := DataW.trod_int Tryd.underlying3 t0
        obtain ⟨z1, e1, _, w1⟩ := DataW.trod_string Tryd.underlying9 t1
        simp at e0 e1
        exact ⟨(z0, z1), fun _ => ⟨e0, e1, w1⟩⟩
      · exact ⟨(0, ByteArray.empty), fun h => absurd h hi⟩
    have hg : ∀ i t, ((List.range len).map fun i => Classical.choose (hv i))[i]? = some t → i < len ∧ t = Classical.choose (hv i) := by
      intro i t ht
      rw [List.getElem?_map, Option.map_eq_some_iff] at ht
      obtain ⟨j, hj, rfl⟩ := ht
      obtain ⟨h1, h2⟩ := List.getElem?_eq_some_iff.1 hj
      rw [List.length_range] at h1
      rw [List.getElem_range] at h2
      subst h2
      exact ⟨h1, rfl⟩
    have hlen : ((List.range len).map fun i => Classical.choose (hv i)).length = len := by simp
    have hsp0 : 0 < len → ad.spot = none := by
      intro h0
      have := (hx 0 (by omega)).1
      have e0 : ad.add (0 * 2) = ad := by simp [Addr.add]
      rw [e0] at this
      exact spot_of_cell this
    refine ⟨(List.range len).map fun i => Classical.choose (hv i), hlen, ⟨some ad, _, by rw [hlen], fun a ha hne => ?_, (fun h => by cases h), fun a ha i t ht => ?_⟩, fun t ht => ?_, Nat.le_trans hl hm, fun h => by cases h⟩
    · cases ha
      refine hsp0 ?_
      cases len with
      | zero => simp at hne
      | succ n => omega
    · cases ha
      obtain ⟨hi, rfl⟩ := hg i t ht
      obtain ⟨g0, g1, g2⟩ := Classical.choose_spec (hv i) hi
      obtain ⟨c0, c1, _, _⟩ := hx i (by omega)
      rw [add_add _ _ (hsp0 (by omega))] at c0 c1
      rw [← Nat.add_assoc] at c1
      exact ⟨c0.trans (congrArg some g0), c1.trans (congrArg some g1)⟩
    · obtain ⟨i, hi⟩ := List.mem_iff_getElem?.1 ht
      obtain ⟨hi2, rfl⟩ := hg i t hi
      exact (Classical.choose_spec (hv i) hi2).2.2

theorem ty_open {H : Type} {enc : TypeId × Value → H} {w : World} {base b0 : Nat} {spare : Nat → Bool} {held : Bool} {r : Reach} {v : Value} {d : DataW H} {p : List MemPlace}
    (hv : Value.okWide Tryd.prog w r b0 43 v) (h : DataW.Trod enc Tryd.prog w base spare held 43 v d p) :
    ∃ (k : Int) (c : ByteArray) (d0 : DataW H), v = .agg #[.int .i64 k, .string c] ∧ d = .agg [d0, .lit (.string c.data.toList)] ∧ c.size ≤ maxLen := by
  obtain ⟨v0, v1, y0, y1, n, rfl, rfl, _, t0, t1⟩ := Joins.open_agg2 Tryd.underlying43 (by kernel_rfl) cellsTy hv h
  obtain ⟨z0, e0, _, _⟩ := DataW.trod_int Tryd.underlying3 t0
  obtain ⟨z1, e1, h1, w1⟩ := DataW.trod_string Tryd.underlying9 t1
  simp at e0 e1
  subst e0 e1 h1
  exact ⟨z0, z1, y0.1, rfl, rfl, w1⟩

theorem sized_ty {H : Type} {tys : List TypeId} {ds : List (DataW H)} (h : (DataW.weightsEach Tryd.prog tys ds).all (· ≤ reachBytes) = true) {j : Nat} {d0 : DataW H} {c : ByteArray}
    (ht : tys[j]? = some 43) (hd : ds[j]? = some (.agg [d0, .lit (.string c.data.toList)])) : c.size ≤ 140737488355328 := by
  have := List.all_eq_true.1 h _ (DataW.weights_mem_each ht hd c.data.toList.length (by simp [DataW.weights, Tryd.underlying43, DataW.weightsEach]))
  have h2 : c.data.toList.length ≤ reachBytes := by simpa using this
  rw [← Lib.size_eq] at h2
  exact Nat.le_trans h2 (Nat.le_of_lt reachBytes_lt)

theorem sized_str {H : Type} {tys : List TypeId} {ds : List (DataW H)} (h : (DataW.weightsEach Tryd.prog tys ds).all (· ≤ reachBytes) = true) {j : Nat} {c : ByteArray}
    (ht : tys[j]? = some 9) (hd : ds[j]? = some (.lit (.string c.data.toList))) : c.size ≤ 140737488355328 := by
  have h2 := sized_string h ht hd
  rw [← Lib.size_eq] at h2
  exact Nat.le_trans h2 (Nat.le_of_lt reachBytes_lt)

end Go.Proofs.YtibciicpgjgjbaaDoor
