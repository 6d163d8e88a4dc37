/- Texts that the proof is made of, joined. No condition. -/
import Derived.Test.YtdjciahaohfohaaC120
import Derived.ProofKit
import Derived.Test.YtdjciahaohfohaaC121
import Derived.Laws.IdiomArrays
import Derived.SizedLaws
import Derived.Lib.SmallJoins
import Derived.OpenShut
import Derived.Below
import Derived.Deep.SlicePairs
set_option linter.unusedVariables false
set_option linter.unusedSimpArgs false
set_option maxRecDepth 100000
set_option maxHeartbeats 16000000
namespace Go.Proofs.Ytdjciahaohfohaa
open Go.ChangeShapes Go.WideShapes Go.ChangeAt Go.RowKit
theorem row_open {H : Type} {enc : TypeId × Value → H} {W : World} {base : Nat} {spare : Nat → Bool} {held : Bool} {t e : TypeId} {k : IntKind} {a : Option Addr} {len cap : Nat} {d : DataW H} {p : List MemPlace}
    (ht : Try.prog.underlying t = some (.slice e)) (he : Try.prog.underlying e = some (.int k)) (hc : Try.prog.cellsOf e = 1) (h : DataW.Trod enc Try.prog W base spare held t (.slice a len cap) d p) (hsp : ∀ b, spare b = true := by exact fun _ => rfl) :
    ∃ zs, IsRow k W a len cap zs := by
  obtain ⟨fuel, hf⟩ := h
  rcases open_ints ht he hc hf with ⟨hcs, _⟩ | ⟨x, l, c, zs, hcs, _, hl, hm, hz, _, hcell, hwz⟩
  · simp [Value.cells] at hcs
    obtain ⟨rfl, rfl, rfl⟩ := hcs
    exact ⟨[], .inl ⟨rfl, rfl, rfl, rfl⟩⟩
  · simp [Value.cells] at hcs
    obtain ⟨rfl, rfl, rfl⟩ := hcs
    exact ⟨zs, .inr ⟨_, rfl, hl, hm, by simpa [hsp] using hz, hcell, hwz⟩⟩
theorem row_le {k : IntKind} {w : World} {a : Option Addr} {len cap : Nat} {zs : List Int} (h : IsRow k w a len cap zs) : len ≤ 9223372036854775807 := by
  rcases h with ⟨_, h, _⟩ | ⟨_, _, h1, h2, _⟩
  · omega
  · unfold maxLen at h2; omega
end Go.Proofs.Ytdjciahaohfohaa
namespace Go.Proofs.Ytdjciahaohfohaa.A
open Go.ChangeShapes Go.WideShapes Go.ChangeAt Go.RowKit
theorem cells4 : Try.prog.cellsOf 22 = 4 := by kernel_rfl
theorem four_of {l : List Value} (h : l.length = 4) : ∃ c0 c1 c2 c3, l = [c0, c1, c2, c3] := by
  match l, h with
  | [c0, c1, c2, c3], _ => exact ⟨c0, c1, c2, c3, rfl⟩
set_option maxRecDepth 100000 in
theorem arr4_open {H : Type} {enc : TypeId × Value → H} {w : World} {base b0 : Nat} {spare : Nat → Bool} {held : Bool} {r : Reach} {v : Value} {d : DataW H} {p : List MemPlace}
    (hv : Value.okWide Try.prog w r b0 22 v) (h : DataW.Trod enc Try.prog w base spare held 22 v d p) :
    ∃ x0 x1 x2 x3 : Int, v = .agg #[.int .u8 x0, .int .u8 x1, .int .u8 x2, .int .u8 x3] ∧ (Lit.int .u8 x0).wf = true ∧ (Lit.int .u8 x1).wf = true ∧ (Lit.int .u8 x2).wf = true ∧ (Lit.int .u8 x3).wf = true := by
  obtain ⟨cs, rfl, hsz, _⟩ : ∃ cs, v = .agg cs ∧ cs.size = Try.prog.cellsOf 22 ∧ Row.okWide Try.prog w r b0 22 cs := by
    simpa [Value.okWide, Try.underlying22] using hv
  rw [cells4] at hsz
  obtain ⟨l⟩ := cs
  obtain ⟨c0, c1, c2, c3, rfl⟩ := four_of hsz
  obtain ⟨fuel, hf⟩ := h
  obtain ⟨y0, y1, y2, y3, m, hx, hy0, hy1, hy2, hy3⟩ := trod_array4 Try.underlying22 (by kernel_rfl) hf
  obtain ⟨x0, e0, rfl, w0⟩ := DataW.trod_int Try.underlying5 hy0
  obtain ⟨x1, e1, rfl, w1⟩ := DataW.trod_int Try.underlying5 hy1
  obtain ⟨x2, e2, rfl, w2⟩ := DataW.trod_int Try.underlying5 hy2
  obtain ⟨x3, e3, rfl, w3⟩ := DataW.trod_int Try.underlying5 hy3
  simp at e0 e1 e2 e3
  subst e0 e1 e2 e3
  exact ⟨x0, x1, x2, x3, rfl, w0, w1, w2, w3⟩
theorem bytes_open {H : Type} {enc : TypeId × Value → H} {W : World} {base : Nat} {spare : Nat → Bool} {held : Bool} {a : Option Addr} {len cap : Nat} {d : DataW H} {p : List MemPlace}
    (h : DataW.Trod enc Try.prog W base spare held 25 (.slice a len cap) d p) (hsp : ∀ b, spare b = true) : ∃ l : List UInt8, len = l.length ∧ Rd W (.slice a len cap) l ∧ (l = [] ∨ ∀ g, (Value.slice a len cap).ownBlock = some g → g < W.heap.size) ∧ len ≤ 9223372036854775807 := by
  obtain ⟨zs, hz⟩ := row_open Try.underlying25 Try.underlying5 (by kernel_rfl) h hsp
  obtain ⟨l, hl, hr⟩ := rd_of_row hz
  exact ⟨l, hl.symm, hr, live_of_row hz hl, row_le hz⟩
end Go.Proofs.Ytdjciahaohfohaa.A
namespace Go.Proofs.Ytdjciahaohfohaa.D
open Go.RowKit
def IsRow (k : IntKind) (w : World) (a : Option Addr) (len cap : Nat) (zs : List Int) : Prop :=
  (a = none ∧ len = 0 ∧ cap = 0 ∧ zs = []) ∨
  ∃ x, a = some x ∧ len ≤ cap ∧ cap ≤ maxLen ∧ zs.length = cap ∧ (∀ i, i < zs.length → w.cell? (x.add i) = some (.int k (zs.getD i 0))) ∧ ∀ n ∈ zs, (Lit.int k n).wf = true
theorem add_add (x : Addr) (i : Nat) (h : x.spot = none) : x.add i = ⟨x.block, x.off + i, none⟩ := by
  obtain ⟨b, o, s⟩ := x
  simp only at h
  subst h
  unfold Addr.add
  split <;> simp_all
theorem wf_u8 {n : Int} (h : (Lit.int .u8 n).wf = true) : 0 ≤ n ∧ n ≤ 255 := bounds_u8 h
end Go.Proofs.Ytdjciahaohfohaa.D
namespace Go.Proofs.Ytdjciahaohfohaa.D
open Go.ChangeShapes Go.WideShapes Go.ChangeAt Go.RowKit
theorem row_open {H : Type} {enc : TypeId × Value → H} {W : World} {base : Nat} {spare : Nat → Bool} {held : Bool} {t e : TypeId} {k : IntKind} {a : Option Addr} {len cap : Nat} {d : DataW H} {p : List MemPlace}
    (ht : Try.prog.underlying t = some (.slice e)) (he : Try.prog.underlying e = some (.int k)) (hc : Try.prog.cellsOf e = 1) (h : DataW.Trod enc Try.prog W base spare held t (.slice a len cap) d p) (hsp : ∀ b, spare b = true := by exact fun _ => rfl) :
    ∃ zs, IsRow k W a len cap zs := by
  obtain ⟨fuel, hf⟩ := h
  rcases open_ints ht he hc hf with ⟨hcs, _⟩ | ⟨x, l, c, zs, hcs, _, hl, hm, hz, _, hcell, hwz⟩
  · simp [Value.cells] at hcs
    obtain ⟨rfl, rfl, rfl⟩ := hcs
    exact ⟨[], .inl ⟨rfl, rfl, rfl, rfl⟩⟩
  · simp [Value.cells] at hcs
    obtain ⟨rfl, rfl, rfl⟩ := hcs
    exact ⟨zs, .inr ⟨_, rfl, hl, hm, by simpa [hsp] using hz, hcell, hwz⟩⟩
theorem cellsTy : Try.prog.cellsOf 24 = 2 := by kernel_rfl
set_option maxRecDepth 100000 in
theorem ty_open {H : Type} {enc : TypeId × Value → H} {w : World} {base b0 : Nat} {spare : Nat → Bool} {held : Bool} {r : Reach} {v : Value} {d : DataW H} {p : List MemPlace}
    (hv : Value.okWide Try.prog w r b0 24 v) (h : DataW.Trod enc Try.prog w base spare held 24 v d p) :
    ∃ (k : Int) (c : ByteArray) (d0 : DataW H), v = .agg #[.int .i64 k, .string c] ∧ d = .agg [d0, .lit (.string c.data.toList)] ∧ c.size ≤ maxLen := by
  obtain ⟨v0, v1, y0, y1, n, rfl, rfl, _, t0, t1⟩ := Joins.open_agg2 Try.underlying24 (by kernel_rfl) cellsTy hv h
  obtain ⟨z0, e0, _, _⟩ := DataW.trod_int Try.underlying3 t0
  obtain ⟨z1, e1, h1, w1⟩ := DataW.trod_string Try.underlying9 t1
  simp at e0 e1
  subst e0 e1 h1
  exact ⟨z0, z1, y0.1, rfl, rfl, w1⟩
set_option maxRecDepth 100000 in
theorem sized_ty {H : Type} {tys : List TypeId} {ds : List (DataW H)} (h : (DataW.weightsEach Try.prog tys ds).all (· ≤ reachBytes) = true) {j : Nat} {d0 : DataW H} {c : ByteArray}
    (ht : tys[j]? = some 24) (hd : ds[j]? = some (.agg [d0, .lit (.string c.data.toList)])) : c.size ≤ 140737488355328 := by
  have := List.all_eq_true.1 h _ (DataW.weights_mem_each ht hd c.data.toList.length (by simp [DataW.weights, Try.underlying24, DataW.weightsEach]))
  have h2 : c.data.toList.length ≤ reachBytes := by simpa using this
  rw [← Lib.size_eq] at h2
  exact Nat.le_trans h2 (Nat.le_of_lt reachBytes_lt)
set_option maxRecDepth 100000 in
theorem sized_str {H : Type} {tys : List TypeId} {ds : List (DataW H)} (h : (DataW.weightsEach Try.prog tys ds).all (· ≤ reachBytes) = true) {j : Nat} {c : ByteArray}
    (ht : tys[j]? = some 9) (hd : ds[j]? = some (.lit (.string c.data.toList))) : c.size ≤ 140737488355328 := by
  have h2 := sized_string h ht hd
  rw [← Lib.size_eq] at h2
  exact Nat.le_trans h2 (Nat.le_of_lt reachBytes_lt)
end Go.Proofs.Ytdjciahaohfohaa.D
