/- FlowMerges holds: for every seven small numbers the statement of that name answers true, and leaves what was there as it was. No condition. -/
import Derived.Test.YtfpeakkbbfnhcaaGreatC13GMrg
import Derived.Test.YtfpeakkbbfnhcaaGreatC13AOpen
import Derived.ProofKit
import Derived.HandedShaped
import Derived.OpenShut
import Derived.ShutString
import Derived.ChangeOld
import Derived.Below
set_option linter.unusedVariables false
set_option linter.unusedSimpArgs false
set_option maxRecDepth 100000
set_option maxHeartbeats 16000000
namespace Go.Proofs.YtfpeakkbbfnhcaaGreat.flowMerges
open Go.Proofs.YtfpeakkbbfnhcaaGreat.D Go.ChangeShapes Go.WideShapes Go.ChangeAt Go.RowKit
theorem own : ownKnob Tryz.prog.godebug = none := by kernel_rfl
theorem laidOut : laidOutB Tryz.prog = true := by kernel_rfl
theorem walk (a0x0 a0x1 a0x2 a0x3 : Int) (a1 : Int) (a2 : Int) (a3 : Int)  (w : World) (w0x0 : (Lit.int .u8 a0x0).wf = true) (w0x1 : (Lit.int .u8 a0x1).wf = true) (w0x2 : (Lit.int .u8 a0x2).wf = true) (w0x3 : (Lit.int .u8 a0x3).wf = true) (w1 : (Lit.int .u8 a1).wf = true) (w2 : (Lit.int .u8 a2).wf = true) (w3 : (Lit.int .u8 a3).wf = true) :
  Calls Tryz.prog 5 #[.agg #[.int .u8 a0x0,.int .u8 a0x1,.int .u8 a0x2,.int .u8 a0x3],.int .u8 a1,.int .u8 a2,.int .u8 a3] w fun e w' => e = .returned (.bool true) /\ Below w.heap.size w w' := by
 have c0x0 := bounds_u8 w0x0
 obtain ⟨k0,rfl⟩ : ∃ c : Nat,a0x0 = (c : Int) := ⟨a0x0.toNat,by omega⟩
 have c0x1 := bounds_u8 w0x1
 obtain ⟨k1,rfl⟩ : ∃ c : Nat,a0x1 = (c : Int) := ⟨a0x1.toNat,by omega⟩
 have c0x2 := bounds_u8 w0x2
 obtain ⟨k2,rfl⟩ : ∃ c : Nat,a0x2 = (c : Int) := ⟨a0x2.toNat,by omega⟩
 have c0x3 := bounds_u8 w0x3
 obtain ⟨k3,rfl⟩ : ∃ c : Nat,a0x3 = (c : Int) := ⟨a0x3.toNat,by omega⟩
 have c1 := bounds_u8 w1
 obtain ⟨x,rfl⟩ : ∃ c : Nat,a1 = (c : Int) := ⟨a1.toNat,by omega⟩
 have c2 := bounds_u8 w2
 obtain ⟨y,rfl⟩ : ∃ c : Nat,a2 = (c : Int) := ⟨a2.toNat,by omega⟩
 have c3 := bounds_u8 w3
 obtain ⟨z,rfl⟩ : ∃ c : Nat,a3 = (c : Int) := ⟨a3.toNat,by omega⟩
 exact R.merges_l k0 k1 k2 k3 x y z w (by omega) (by omega) (by omega) (by omega) (by omega) (by omega) (by omega)
theorem lifted (os : Os) (started : os.Started) (H : Type) (enc : TypeId × Value -> H) :
  ReturnsInHanded {} Tryz.checked os 5 .any (Rows.flowMergesSpec.pre6 enc Tryz.prog Tryz.f5 Rows.flowMergesRow.domain false) (Rows.flowMergesSpec.post enc Tryz.prog Tryz.f5 false true false false) := by
 refine returnsInHanded_of_change (C := Tryz.checked) own started (by kernel_rfl) Tryz.func5
  (ChangeSpec.witness6 (enc := enc) (C := Tryz.checked) false ⟨#[],#[.agg #[.int .u8 0,.int .u8 0,.int .u8 0,.int .u8 0],.int .u8 0,.int .u8 0,.int .u8 0],[]⟩ 8 (by kernel_rfl) (by kernel_rfl) (by kernel_rfl) (by kernel_rfl)) ?_
 intro W base args ds gs before hval0 hW hcnd _
 have hval : ∀ (j : Nat) t v,Tryz.f5.params[j]? = some t -> args[j]? = some v -> Value.okWide Tryz.prog W .any base t v := hval0
 have hW' := hW
 obtain ⟨p,q,hA0,hV,rfl,hfz,hnd⟩ := hW
 have hA : DataW.TrodAll enc Tryz.prog W 0 (fun _ => true) true Tryz.f5.params.toList args.toList ds p := hA0
 rw [Tryz.params5] at hA hval
 obtain ⟨v0,vs0,d0,ds0,p0,q0,hargs,rfl,rfl,h0,r0⟩ := trodAll_cons hA
 obtain ⟨v1,vs1,d1,ds1,p1,q1,rfl,rfl,rfl,h1,r1⟩ := trodAll_cons r0
 obtain ⟨v2,vs2,d2,ds2,p2,q2,rfl,rfl,rfl,h2,r2⟩ := trodAll_cons r1
 obtain ⟨v3,vs3,d3,ds3,p3,q3,rfl,rfl,rfl,h3,r3⟩ := trodAll_cons r2
 obtain ⟨rfl,rfl,rfl⟩ := trodAll_nil r3
 obtain rfl : args = #[v0,v1,v2,v3] := by cases args; simp_all
 obtain ⟨rfl,rfl⟩ := trodVars_none hV
 have k0 := h0
 have lt0 : ∀ x ∈ p0,x.block < W.heap.size := by obtain ⟨m,hm⟩ := k0; exact DataW.trod_lt m _ _ _ hm
 obtain ⟨a0x0,a0x1,a0x2,a0x3,rfl,w0x0,w0x1,w0x2,w0x3⟩ := A.arr4_open (hval 0 22 v0 rfl rfl) h0
 obtain ⟨a1,rfl,rfl,rfl,w1⟩ := open_int Tryz.underlying5 (hval 1 5 v1 rfl rfl) h1
 obtain ⟨a2,rfl,rfl,rfl,w2⟩ := open_int Tryz.underlying5 (hval 2 5 v2 rfl rfl) h2
 obtain ⟨a3,rfl,rfl,rfl,w3⟩ := open_int Tryz.underlying5 (hval 3 5 v3 rfl rfl) h3
 clear hA0 hval0
 simp only [List.append_nil] at hW'
 refine (walk a0x0 a0x1 a0x2 a0x3 a1 a2 a3  W w0x0 w0x1 w0x2 w0x3 w1 w2 w3).mono fun e W' ⟨he,bel⟩ => ?_
 subst he
 exact ⟨_,rfl,_,_,_,[],_,[],hW',trodAll_mk1 (shut_bool Tryz.underlying4 _),(trodAll_cons_mk (Below.trod laidOut (by kernel_rfl) (of_decide_eq_true (by kernel_rfl)) k0 bel lt0) (trodAll_cons_mk (shut_int Tryz.underlying5 w1) (trodAll_cons_mk (shut_int Tryz.underlying5 w2) (trodAll_cons_mk (shut_int Tryz.underlying5 w3) trodAll_mk0)))),rfl,bel.frame _,fun h => by cases h⟩
theorem over : Rows.flowMergesRow.holds Tryz.pinned (OpenSpec.ofChange Rows.flowMergesSpec) :=
 OpenClaim.holds_of_wide 5 Tryz.f5 rfl rfl rfl rfl rfl rfl rfl ⟨rfl,rfl,rfl,rfl,rfl⟩ rfl rfl rfl rfl rfl (by kernel_rfl) Tryz.func5 (by kernel_rfl)
  (of_decide_eq_true (by kernel_rfl)) (by unfold Func.isWrapper; first | (rw [if_pos (by decide +kernel)]; kernel_rfl) | (rw [if_neg (by decide +kernel)]; exact ⟨rfl,rfl⟩))
  (fun os started H enc _ => lifted os started H enc)
theorem proved : Rows.FlowMergesSaid := over
#print axioms proved
end Go.Proofs.YtfpeakkbbfnhcaaGreat.flowMerges
