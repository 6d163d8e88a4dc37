/- The law OpRight walked, for whatever comes in; an instruction that came in, opened. -/
import Derived.Test.YtibciicpgjgjbaaDoorORLaw
import Derived.Test.YtibciicpgjgjbaaDoorDOpen
namespace Go.Proofs.YtibciicpgjgjbaaDoor
open Go.ChangeShapes Go.WideShapes Go.ChangeAt Go.RowKit

set_option maxHeartbeats 2000000 in
set_option maxRecDepth 100000 in
theorem right_law (o0 n0 k0 : Int) (s0 c0 m0 d0 : ByteArray) (a n k : Int) (c m d : ByteArray) (l wh : Int) (w : World) (ht : Tab w) (hg : Glob w)
    (z : s0.size ≤ 140737488355328 ∧ c0.size ≤ 140737488355328 ∧ m0.size ≤ 140737488355328 ∧ d0.size ≤ 140737488355328) (zc : c.size ≤ 140737488355328) (zm : m.size ≤ 140737488355328) (zd : d.size ≤ 140737488355328) (ha : 0 ≤ a) (hl : 0 ≤ l) (hw : 0 ≤ wh) :
    Calls Tryd.prog 4 #[.agg #[.int .i64 o0, .int .i32 n0, .int .i64 k0, .string s0, .string c0, .string m0, .string d0], .int .u8 a, .int .i32 n, .int .i64 k, .string c, .string m, .string d, .int .u16 l, .int .u8 wh] w fun e w' => e = .returned (.bool true) ∧ Below w.heap.size w w' := by
  by_cases h : s0.size + c0.size + m0.size + d0.size ≤ 400 ∧ c.size + m.size + d.size ≤ 300
  · obtain ⟨o, ho, ho1⟩ : ∃ o : Nat, a.tmod 44 = o ∧ o < 44 := ⟨(a % 44).toNat, by rw [Int.tmod_eq_emod_of_nonneg ha]; omega, by omega⟩
    obtain ⟨L, hL, hL1⟩ : ∃ L : Nat, l.tmod 1010 = L ∧ L < 1010 := ⟨(l % 1010).toNat, by rw [Int.tmod_eq_emod_of_nonneg hl]; omega, by omega⟩
    exact right_law0 o0 n0 k0 s0 c0 m0 d0 a n k c m d l wh w ht hg h.1 h.2 o ho ho1 (k % 4096) (and4095 k) L hL hL1 (by rw [Int.tmod_eq_emod_of_nonneg hw]; omega)
  · obtain ⟨z0, z1, z2, z3⟩ := z
    have big : 400 < s0.size + c0.size + m0.size + d0.size ∨ (s0.size + c0.size + m0.size + d0.size ≤ 400 ∧ 300 < c.size + m.size + d.size) := by omega
    clear h
    rcases big with h | ⟨h, h'⟩
    · have e1 : decide ((400 : Int) < s0.size + c0.size + m0.size + d0.size) = true := decide_eq_true (by omega)
      go_enter Tryd.func4, Tryd.ntmps4
      go_wp2_with fail
      refine (known_any _ (ht.alloc _) (hg.alloc _)).mono ?_
      rintro e w1 ⟨rfl, hb1⟩
      have hr1 := ibox_next (ibox_at w o0 n0 k0 s0 c0 m0 d0) (by simp) hb1
      have hB1 : Below w.heap.size w w1 := ((Below.refl _ _).alloc (Nat.le_refl _) _).trans (hb1.mono (by simp))
      clear hb1 ht hg
      go_wp2_with fail
      go_ret
      exact ⟨rfl, hB1⟩
    · have e1 : decide ((400 : Int) < s0.size + c0.size + m0.size + d0.size) = false := decide_eq_false (by omega)
      have e2 : decide ((300 : Int) < c.size + m.size + d.size) = true := decide_eq_true (by omega)
      go_enter Tryd.func4, Tryd.ntmps4
      go_wp2_with fail
      refine (known_any _ (ht.alloc _) (hg.alloc _)).mono ?_
      rintro e w1 ⟨rfl, hb1⟩
      have hr1 := ibox_next (ibox_at w o0 n0 k0 s0 c0 m0 d0) (by simp) hb1
      have hB1 : Below w.heap.size w w1 := ((Below.refl _ _).alloc (Nat.le_refl _) _).trans (hb1.mono (by simp))
      clear hb1 ht hg
      go_wp2_with fail
      go_ret
      exact ⟨rfl, hB1⟩

theorem cellsI32 : Tryd.prog.cellsOf 21 = 1 := by kernel_rfl
theorem cellsIns : Tryd.prog.cellsOf 29 = 7 := by kernel_rfl

theorem ins_open {H : Type} {enc : TypeId × Value → H} {w : World} {base b0 : Nat} {spare : Nat → Bool} {held : Bool} {r : Reach} {v : Value} {d : DataW H} {p : List MemPlace}
    (hv : Value.okWide Tryd.prog w r b0 29 v) (h : DataW.Trod enc Tryd.prog w base spare held 29 v d p) :
    ∃ (xo xn xk : Int) (xs xc xm xd : ByteArray) (e0 e1 e2 : DataW H), v = .agg #[.int .i64 xo, .int .i32 xn, .int .i64 xk, .string xs, .string xc, .string xm, .string xd] ∧
      d = .agg [e0, e1, e2, .lit (.string xs.data.toList), .lit (.string xc.data.toList), .lit (.string xm.data.toList), .lit (.string xd.data.toList)] := by
  obtain ⟨⟨cs⟩, rfl, hsz⟩ := okWide_struct Tryd.underlying29 hv
  rw [cellsIns] at hsz
  obtain ⟨fuel, hf⟩ := h
  obtain ⟨xs, n, _, hx, _, hlen, hfl⟩ := DataW.trod_struct Tryd.underlying29 hf
  match cs, hsz with
  | [c0, c1, c2, c3, c4, c5, c6], _ =>
    match xs, hlen with
    | [y0, y1, y2, y3, y4, y5, y6], _ =>
      have t0 := hfl 0 _ rfl
      have t1 := hfl 1 _ rfl
      have t2 := hfl 2 _ rfl
      have t3 := hfl 3 _ rfl
      have t4 := hfl 4 _ rfl
      have t5 := hfl 5 _ rfl
      have t6 := hfl 6 _ rfl
      simp [Value.cells, cellsInt, cellsStr, cellsI32] at t0 t1 t2 t3 t4 t5 t6
      obtain ⟨z0, e0, _, _⟩ := DataW.trod_int Tryd.underlying3 t0
      obtain ⟨z1, e1, _, _⟩ := DataW.trod_int Tryd.underlying21 t1
      obtain ⟨z2, e2, _, _⟩ := DataW.trod_int Tryd.underlying3 t2
      obtain ⟨z3, e3, h3, _⟩ := DataW.trod_string Tryd.underlying9 t3
      obtain ⟨z4, e4, h4, _⟩ := DataW.trod_string Tryd.underlying9 t4
      obtain ⟨z5, e5, h5, _⟩ := DataW.trod_string Tryd.underlying9 t5
      obtain ⟨z6, e6, h6, _⟩ := DataW.trod_string Tryd.underlying9 t6
      simp at e0 e1 e2 e3 e4 e5 e6
      subst e0 e1 e2 e3 e4 e5 e6 h3 h4 h5 h6
      simp only [Prod.mk.injEq] at hx
      exact ⟨z0, z1, z2, z3, z4, z5, z6, y0.1, y1.1, y2.1, rfl, hx.1⟩

theorem sized_ins {H : Type} {tys : List TypeId} {ds : List (DataW H)} (h : (DataW.weightsEach Tryd.prog tys ds).all (· ≤ reachBytes) = true) {j : Nat} {e0 e1 e2 : DataW H} {s c m d : ByteArray}
    (ht : tys[j]? = some 29) (hd : ds[j]? = some (.agg [e0, e1, e2, .lit (.string s.data.toList), .lit (.string c.data.toList), .lit (.string m.data.toList), .lit (.string d.data.toList)])) :
    s.size ≤ 140737488355328 ∧ c.size ≤ 140737488355328 ∧ m.size ≤ 140737488355328 ∧ d.size ≤ 140737488355328 := by
  have one : ∀ b : ByteArray, b.data.toList.length ∈ DataW.weights Tryd.prog 29 (.agg [e0, e1, e2, .lit (.string s.data.toList), .lit (.string c.data.toList), .lit (.string m.data.toList), .lit (.string d.data.toList)] : DataW H) → b.size ≤ 140737488355328 := fun b hb => by
    have := List.all_eq_true.1 h _ (DataW.weights_mem_each ht hd b.data.toList.length hb)
    have h2 : b.data.toList.length ≤ reachBytes := by simpa using this
    rw [← Lib.size_eq] at h2
    exact Nat.le_trans h2 (Nat.le_of_lt reachBytes_lt)
  refine ⟨one s ?_, one c ?_, one m ?_, one d ?_⟩ <;> simp [DataW.weights, Tryd.underlying29, DataW.weightsEach]

end Go.Proofs.YtibciicpgjgjbaaDoor
