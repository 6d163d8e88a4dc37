/- ArcCopies holds: for every four small numbers and all bytes the statement of that name answers true, and leaves what was there as it was. No condition. -/
import Derived.Test.YtijnimjmimeefaaGreatSC18
import Derived.ProofKit
import Derived.HandedShaped
import Derived.OpenShut
import Derived.ShutString
import Derived.ChangeOld
import Derived.Below
set_option linter.unusedVariables false
set_option linter.unusedSimpArgs false
set_option maxRecDepth 100000
set_option maxHeartbeats 16000000
namespace Go.Proofs.YtijnimjmimeefaaGreat.arcCopies
open Go.Proofs.YtijnimjmimeefaaGreat.D Go.ChangeShapes Go.WideShapes Go.ChangeAt Go.RowKit
theorem own : ownKnob Tryz.prog.godebug = none := by kernel_rfl
theorem laidOut : laidOutB Tryz.prog = true := by kernel_rfl
theorem walk (a0x0 a0x1 a0x2 a0x3 : Int) (a1 : Option Addr) (cap1 : Nat) (l1 : List UInt8)  (w : World) (w0x0 : (Lit.int .u8 a0x0).wf = true) (w0x1 : (Lit.int .u8 a0x1).wf = true) (w0x2 : (Lit.int .u8 a0x2).wf = true) (w0x3 : (Lit.int .u8 a0x3).wf = true) (w1 : Rd w (.slice a1 l1.length cap1) l1) (b1 : l1 = [] ∨ ∀ g, (Value.slice a1 l1.length cap1).ownBlock = some g -> g < w.heap.size) (m1 : l1.length <= 9223372036854775807) (hg : Glob w) :
  Calls Tryz.prog 6 #[.agg #[.int .u8 a0x0, .int .u8 a0x1, .int .u8 a0x2, .int .u8 a0x3], .slice a1 l1.length cap1] w fun e w' => e = .returned (.bool true) /\ Below w.heap.size w w' := by
 have c0 := bounds_u8 w0x0
 have c1 := bounds_u8 w0x1
 have c2 := bounds_u8 w0x2
 have c3 := bounds_u8 w0x3
 obtain ⟨k0, rfl⟩ : ∃ c : Nat, a0x0 = (c : Int) := ⟨a0x0.toNat, by omega⟩
 obtain ⟨k1, rfl⟩ : ∃ c : Nat, a0x1 = (c : Int) := ⟨a0x1.toNat, by omega⟩
 obtain ⟨k2, rfl⟩ : ∃ c : Nat, a0x2 = (c : Int) := ⟨a0x2.toNat, by omega⟩
 obtain ⟨k3, rfl⟩ : ∃ c : Nat, a0x3 = (c : Int) := ⟨a0x3.toNat, by omega⟩
 exact A.copies_v k0 k1 k2 k3 l1 a1 cap1 w hg (by omega) (by omega) (by omega) (by omega) w1 b1 m1
theorem lifted (os : Os) (started : os.Started) (H : Type) (enc : TypeId × Value -> H) :
  ReturnsInHanded {} Tryz.checked os 6 .any (Rows.arcCopiesSpec.pre6 enc Tryz.prog Tryz.f6 Rows.arcCopiesRow.domain false) (Rows.arcCopiesSpec.post enc Tryz.prog Tryz.f6 false true false false) := by
 refine returnsInHanded_of_change_shaped (C := Tryz.checked) own started (by kernel_rfl) Tryz.func6
  (ChangeSpec.witness6 (enc := enc) (C := Tryz.checked) false ⟨#[], #[.agg #[.int .u8 0, .int .u8 0, .int .u8 0, .int .u8 0], .slice none 0 0], []⟩ 8 (by kernel_rfl) (by kernel_rfl) (by kernel_rfl) (by kernel_rfl)) ?_
 intro W base args ds gs before hval0 hW hcnd hsz hsh _
 have hg : Glob W := Tryz.laysM145.s1_3 W hsh
 have hval : ∀ (j : Nat) t v, Tryz.f6.params[j]? = some t -> args[j]? = some v -> Value.okWide Tryz.prog W .any base t v := hval0
 have hW' := hW
 obtain ⟨p, q, hA0, hV, rfl, hfz, hnd⟩ := hW
 have hA : DataW.TrodAll enc Tryz.prog W 0 (fun _ => true) true Tryz.f6.params.toList args.toList ds p := hA0
 rw [Tryz.params6] at hA hval
 obtain ⟨v0, vs0, d0, ds0, p0, q0, hargs, rfl, rfl, h0, r0⟩ := trodAll_cons hA
 obtain ⟨v1, vs1, d1, ds1, p1, q1, rfl, rfl, rfl, h1, r1⟩ := trodAll_cons r0
 obtain ⟨rfl, rfl, rfl⟩ := trodAll_nil r1
 obtain rfl : args = #[v0, v1] := by cases args; simp_all
 obtain ⟨rfl, rfl⟩ := trodVars_none hV
 have k0 := h0
 have lt0 : ∀ x ∈ p0, x.block < W.heap.size := by obtain ⟨m, hm⟩ := k0; exact DataW.trod_lt m _ _ _ hm
 obtain ⟨a0x0, a0x1, a0x2, a0x3, rfl, w0x0, w0x1, w0x2, w0x3⟩ := A.arr4_open (hval 0 25 v0 rfl rfl) h0
 obtain ⟨a1, len1, cap1, rfl⟩ := okWide_slice Tryz.underlying26 (hval 1 26 v1 rfl rfl)
 have k1 := h1
 have lt1 : ∀ x ∈ p1, x.block < W.heap.size := by obtain ⟨m, hm⟩ := k1; exact DataW.trod_lt m _ _ _ hm
 obtain ⟨l1, rfl, w1, b1, m1⟩ := A.bytes_open h1 (fun _ => rfl)
 clear hA0 hval0
 simp only [List.append_nil] at hW'
 refine (walk a0x0 a0x1 a0x2 a0x3 a1 cap1 l1  W w0x0 w0x1 w0x2 w0x3 w1 b1 m1 hg).mono fun e W' ⟨he, bel⟩ => ?_
 subst he
 exact ⟨_, rfl, _, _, _, [], _, [], hW', trodAll_mk1 (shut_bool Tryz.underlying4 _), (trodAll_cons_mk (Below.trod laidOut (by kernel_rfl) (of_decide_eq_true (by kernel_rfl)) k0 bel lt0) (trodAll_cons_mk (Below.trod laidOut (by kernel_rfl) (of_decide_eq_true (by kernel_rfl)) k1 bel lt1) trodAll_mk0)), rfl, bel.frame _, fun h => by cases h⟩
theorem over : Rows.arcCopiesRow.holds Tryz.pinned (OpenSpec.ofChange Rows.arcCopiesSpec) :=
 OpenClaim.holds_of_wide 6 Tryz.f6 rfl rfl rfl rfl rfl rfl rfl ⟨rfl, rfl, rfl, rfl, rfl⟩ rfl rfl rfl rfl rfl (by kernel_rfl) Tryz.func6 (by kernel_rfl)
  (of_decide_eq_true (by kernel_rfl)) (by unfold Func.isWrapper; first | (rw [if_pos (by decide +kernel)]; kernel_rfl) | (rw [if_neg (by decide +kernel)]; exact ⟨rfl, rfl⟩))
  (fun os started H enc _ => lifted os started H enc)
theorem proved : Rows.ArcCopiesSaid := over
#print axioms proved
end Go.Proofs.YtijnimjmimeefaaGreat.arcCopies
