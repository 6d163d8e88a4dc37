/- LatticeTells holds: for every six small numbers, every text, every two types and all bytes the statement of that name answers true, and leaves what was there as it was. No condition. -/
import Derived.Test.YtdjciahaohfohaaC1218
import Derived.Test.YtdjciahaohfohaaC1219
import Derived.ProofKit
import Derived.HandedShaped
import Derived.OpenShut
import Derived.ShutString
import Derived.ChangeOld
import Derived.Below
set_option linter.unusedVariables false
set_option linter.unusedSimpArgs false
set_option maxRecDepth 100000
set_option maxHeartbeats 16000000
namespace Go.Proofs.Ytdjciahaohfohaa.latticeTells
open Go.Proofs.Ytdjciahaohfohaa.D Go.ChangeShapes Go.WideShapes Go.ChangeAt Go.RowKit
open Go.ChangeMaps (open_string shut_string)
theorem own : ownKnob Try.prog.godebug = none := by kernel_rfl
theorem laidOut : laidOutB Try.prog = true := by kernel_rfl
theorem walk (a0x0 a0x1 a0x2 a0x3 : Int) (a1 : Int) (a2 : Int) (a3 : ByteArray) (a4 : Int) (b4 : ByteArray) (a5 : Int) (b5 : ByteArray) (a6 : Option Addr) (cap6 : Nat) (l6 : List UInt8) (a7 : Option Addr) (cap7 : Nat) (l7 : List UInt8)  (w : World) (w0x0 : (Lit.int .u8 a0x0).wf = true) (w0x1 : (Lit.int .u8 a0x1).wf = true) (w0x2 : (Lit.int .u8 a0x2).wf = true) (w0x3 : (Lit.int .u8 a0x3).wf = true) (w1 : (Lit.int .u8 a1).wf = true) (w2 : (Lit.int .u8 a2).wf = true) (w3 : a3.size ≤ 140737488355328) (w4 : b4.size ≤ 140737488355328) (w5 : b5.size ≤ 140737488355328) (w6 : Rd w (.slice a6 l6.length cap6) l6) (b6 : l6 = [] ∨ ∀ g, (Value.slice a6 l6.length cap6).ownBlock = some g → g < w.heap.size) (m6 : l6.length ≤ 9223372036854775807) (w7 : Rd w (.slice a7 l7.length cap7) l7) (b7 : l7 = [] ∨ ∀ g, (Value.slice a7 l7.length cap7).ownBlock = some g → g < w.heap.size) (m7 : l7.length ≤ 9223372036854775807) :
    Calls Try.prog 3 #[.agg #[.int .u8 a0x0, .int .u8 a0x1, .int .u8 a0x2, .int .u8 a0x3], .int .u8 a1, .int .u8 a2, .string a3, .agg #[.int .i64 a4, .string b4], .agg #[.int .i64 a5, .string b5], .slice a6 l6.length cap6, .slice a7 l7.length cap7] w fun e w' => e = .returned (.bool true) ∧ Below w.heap.size w w' := by
  have c0x0 := bounds_u8 w0x0
  obtain ⟨k0, rfl⟩ : ∃ c : Nat, a0x0 = (c : Int) := ⟨a0x0.toNat, by omega⟩
  have c0x1 := bounds_u8 w0x1
  obtain ⟨k1, rfl⟩ : ∃ c : Nat, a0x1 = (c : Int) := ⟨a0x1.toNat, by omega⟩
  have c0x2 := bounds_u8 w0x2
  obtain ⟨k2, rfl⟩ : ∃ c : Nat, a0x2 = (c : Int) := ⟨a0x2.toNat, by omega⟩
  have c0x3 := bounds_u8 w0x3
  obtain ⟨k3, rfl⟩ : ∃ c : Nat, a0x3 = (c : Int) := ⟨a0x3.toNat, by omega⟩
  have c1 := bounds_u8 w1
  obtain ⟨x, rfl⟩ : ∃ c : Nat, a1 = (c : Int) := ⟨a1.toNat, by omega⟩
  have c2 := bounds_u8 w2
  obtain ⟨y, rfl⟩ : ∃ c : Nat, a2 = (c : Int) := ⟨a2.toNat, by omega⟩
  exact R.tells_l k0 k1 k2 k3 x y a3 b4 b5 a4 a5 l6 l7 a6 a7 cap6 cap7 w (by omega) (by omega) (by omega) (by omega) (by omega) (by omega) w3 w4 w5 w6 b6 w7 b7
set_option maxRecDepth 100000 in
theorem lifted (os : Os) (started : os.Started) (H : Type) (enc : TypeId × Value → H) :
    ReturnsInHanded {} Try.checked os 3 .any (Rows.latticeTellsSpec.pre6 enc Try.prog Try.f3 Rows.latticeTellsRow.domain false) (Rows.latticeTellsSpec.post enc Try.prog Try.f3 false true false false) := by
  refine returnsInHanded_of_change_shaped (C := Try.checked) own started (by kernel_rfl) Try.func3
    (ChangeSpec.witness6 (enc := enc) (C := Try.checked) false ⟨#[], #[.agg #[.int .u8 0, .int .u8 0, .int .u8 0, .int .u8 0], .int .u8 0, .int .u8 0, .string ByteArray.empty, .agg #[.int .i64 0, .string ByteArray.empty], .agg #[.int .i64 0, .string ByteArray.empty], .slice none 0 0, .slice none 0 0], []⟩ 8 (by kernel_rfl) (by kernel_rfl) (by kernel_rfl) (by kernel_rfl)) ?_
  intro W base args ds gs before hval0 hW hcnd hsz hsh _
  have hval : ∀ (j : Nat) t v, Try.f3.params[j]? = some t → args[j]? = some v → Value.okWide Try.prog W .any base t v := hval0
  have hW' := hW
  obtain ⟨p, q, hA0, hV, rfl, hfz, hnd⟩ := hW
  have hA : DataW.TrodAll enc Try.prog W 0 (fun _ => true) true Try.f3.params.toList args.toList ds p := hA0
  rw [Try.params3] at hA hval
  obtain ⟨v0, vs0, d0, ds0, p0, q0, hargs, rfl, rfl, h0, r0⟩ := trodAll_cons hA
  obtain ⟨v1, vs1, d1, ds1, p1, q1, rfl, rfl, rfl, h1, r1⟩ := trodAll_cons r0
  obtain ⟨v2, vs2, d2, ds2, p2, q2, rfl, rfl, rfl, h2, r2⟩ := trodAll_cons r1
  obtain ⟨v3, vs3, d3, ds3, p3, q3, rfl, rfl, rfl, h3, r3⟩ := trodAll_cons r2
  obtain ⟨v4, vs4, d4, ds4, p4, q4, rfl, rfl, rfl, h4, r4⟩ := trodAll_cons r3
  obtain ⟨v5, vs5, d5, ds5, p5, q5, rfl, rfl, rfl, h5, r5⟩ := trodAll_cons r4
  obtain ⟨v6, vs6, d6, ds6, p6, q6, rfl, rfl, rfl, h6, r6⟩ := trodAll_cons r5
  obtain ⟨v7, vs7, d7, ds7, p7, q7, rfl, rfl, rfl, h7, r7⟩ := trodAll_cons r6
  obtain ⟨rfl, rfl, rfl⟩ := trodAll_nil r7
  obtain rfl : args = #[v0, v1, v2, v3, v4, v5, v6, v7] := by cases args; simp_all
  obtain ⟨rfl, rfl⟩ := trodVars_none hV
  have k0 := h0
  have lt0 : ∀ x ∈ p0, x.block < W.heap.size := by obtain ⟨m, hm⟩ := k0; exact DataW.trod_lt m _ _ _ hm
  obtain ⟨a0x0, a0x1, a0x2, a0x3, rfl, w0x0, w0x1, w0x2, w0x3⟩ := A.arr4_open (hval 0 22 v0 rfl rfl) h0
  obtain ⟨a1, rfl, rfl, rfl, w1⟩ := open_int Try.underlying5 (hval 1 5 v1 rfl rfl) h1
  obtain ⟨a2, rfl, rfl, rfl, w2⟩ := open_int Try.underlying5 (hval 2 5 v2 rfl rfl) h2
  obtain ⟨a3, rfl, rfl, rfl, w3⟩ := open_string Try.underlying9 (hval 3 9 v3 rfl rfl) h3
  have k4 := h4
  have lt4 : ∀ x ∈ p4, x.block < W.heap.size := by obtain ⟨m, hm⟩ := k4; exact DataW.trod_lt m _ _ _ hm
  obtain ⟨a4, b4, e4, rfl, rfl, w4⟩ := ty_open (hval 4 24 v4 rfl rfl) h4
  have k5 := h5
  have lt5 : ∀ x ∈ p5, x.block < W.heap.size := by obtain ⟨m, hm⟩ := k5; exact DataW.trod_lt m _ _ _ hm
  obtain ⟨a5, b5, e5, rfl, rfl, w5⟩ := ty_open (hval 5 24 v5 rfl rfl) h5
  obtain ⟨a6, len6, cap6, rfl⟩ := okWide_slice Try.underlying25 (hval 6 25 v6 rfl rfl)
  have k6 := h6
  have lt6 : ∀ x ∈ p6, x.block < W.heap.size := by obtain ⟨m, hm⟩ := k6; exact DataW.trod_lt m _ _ _ hm
  obtain ⟨l6, rfl, w6, b6, m6⟩ := A.bytes_open h6 (fun _ => rfl)
  obtain ⟨a7, len7, cap7, rfl⟩ := okWide_slice Try.underlying25 (hval 7 25 v7 rfl rfl)
  have k7 := h7
  have lt7 : ∀ x ∈ p7, x.block < W.heap.size := by obtain ⟨m, hm⟩ := k7; exact DataW.trod_lt m _ _ _ hm
  obtain ⟨l7, rfl, w7, b7, m7⟩ := A.bytes_open h7 (fun _ => rfl)
  clear hA0 hval0
  simp only [List.append_nil] at hW'
  refine (walk a0x0 a0x1 a0x2 a0x3 a1 a2 a3 a4 b4 a5 b5 a6 cap6 l6 a7 cap7 l7  W w0x0 w0x1 w0x2 w0x3 w1 w2 (sized_str hsz (j := 3) rfl rfl) (sized_ty hsz (j := 4) rfl rfl) (sized_ty hsz (j := 5) rfl rfl) w6 b6 m6 w7 b7 m7).mono fun e W' ⟨he, bel⟩ => ?_
  subst he
  exact ⟨_, rfl, _, _, _, [], _, [], hW', trodAll_mk1 (shut_bool Try.underlying4 _), (trodAll_cons_mk (Below.trod laidOut (by kernel_rfl) (of_decide_eq_true (by kernel_rfl)) k0 bel lt0) (trodAll_cons_mk (shut_int Try.underlying5 w1) (trodAll_cons_mk (shut_int Try.underlying5 w2) (trodAll_cons_mk (shut_string Try.underlying9 w3) (trodAll_cons_mk (Below.trod laidOut (by kernel_rfl) (of_decide_eq_true (by kernel_rfl)) k4 bel lt4) (trodAll_cons_mk (Below.trod laidOut (by kernel_rfl) (of_decide_eq_true (by kernel_rfl)) k5 bel lt5) (trodAll_cons_mk (Below.trod laidOut (by kernel_rfl) (of_decide_eq_true (by kernel_rfl)) k6 bel lt6) (trodAll_cons_mk (Below.trod laidOut (by kernel_rfl) (of_decide_eq_true (by kernel_rfl)) k7 bel lt7) trodAll_mk0)))))))), rfl, bel.frame _, fun h => by cases h⟩
theorem over : Rows.latticeTellsRow.holds Try.pinned (OpenSpec.ofChange Rows.latticeTellsSpec) :=
  OpenClaim.holds_of_wide 3 Try.f3 rfl rfl rfl rfl rfl rfl rfl ⟨rfl, rfl, rfl, rfl, rfl⟩ rfl rfl rfl rfl rfl (by kernel_rfl) Try.func3 (by kernel_rfl)
    (of_decide_eq_true (by kernel_rfl)) (by unfold Func.isWrapper; first | (rw [if_pos (by decide +kernel)]; kernel_rfl) | (rw [if_neg (by decide +kernel)]; exact ⟨rfl, rfl⟩))
    (fun os started H enc _ => lifted os started H enc)
theorem proved : Rows.LatticeTellsSaid := over
#print axioms proved
end Go.Proofs.Ytdjciahaohfohaa.latticeTells
