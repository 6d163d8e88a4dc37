/- FrameJoins holds: for every four small numbers, all bytes, every two truth values, every text and method the statement of that name answers true, and leaves what was there as it was. No condition. -/
import Derived.Test.YtpkjlgdbaajpoaaGreatC12FJoins
import Derived.Test.YtpkjlgdbaajpoaaGreatC1222
import Derived.ProofKit
import Derived.HandedShaped
import Derived.OpenShut
import Derived.ShutString
import Derived.ChangeOld
import Derived.Below
set_option linter.unusedVariables false
set_option linter.unusedSimpArgs false
set_option maxRecDepth 100000
set_option maxHeartbeats 16000000
namespace Go.Proofs.YtpkjlgdbaajpoaaGreat.frameJoins
open Go.Proofs.YtpkjlgdbaajpoaaGreat.D Go.ChangeShapes Go.WideShapes Go.ChangeAt Go.RowKit
open Go.ChangeMaps (open_string shut_string)
theorem own : ownKnob Tryz.prog.godebug = none := by kernel_rfl
theorem laidOut : laidOutB Tryz.prog = true := by kernel_rfl
theorem walk (a0x0 a0x1 a0x2 a0x3 : Int) (a1 : Option Addr) (cap1 : Nat) (l1 : List UInt8) (a2 : Option Addr) (cap2 : Nat) (l2 : List UInt8) (a3 : Option Addr) (cap3 : Nat) (l3 : List UInt8) (a4 : Option Addr) (cap4 : Nat) (l4 : List UInt8) (a5 : Bool) (a6 : Bool) (a7 : ByteArray) (a8 : Value) (m8 : A.Mth)  (w : World) (w0x0 : (Lit.int .u8 a0x0).wf = true) (w0x1 : (Lit.int .u8 a0x1).wf = true) (w0x2 : (Lit.int .u8 a0x2).wf = true) (w0x3 : (Lit.int .u8 a0x3).wf = true) (w1 : Rd w (.slice a1 l1.length cap1) l1) (b1 : l1 = [] ∨ ∀ g,(Value.slice a1 l1.length cap1).ownBlock = some g -> g < w.heap.size) (m1 : l1.length <= 9223372036854775807) (w2 : Rd w (.slice a2 l2.length cap2) l2) (b2 : l2 = [] ∨ ∀ g,(Value.slice a2 l2.length cap2).ownBlock = some g -> g < w.heap.size) (m2 : l2.length <= 9223372036854775807) (w3 : Rd w (.slice a3 l3.length cap3) l3) (b3 : l3 = [] ∨ ∀ g,(Value.slice a3 l3.length cap3).ownBlock = some g -> g < w.heap.size) (m3 : l3.length <= 9223372036854775807) (w4 : Rd w (.slice a4 l4.length cap4) l4) (b4 : l4 = [] ∨ ∀ g,(Value.slice a4 l4.length cap4).ownBlock = some g -> g < w.heap.size) (m4 : l4.length <= 9223372036854775807) (w7 : a7.size <= maxLen) (w8 : R.RdM w a8 m8) :
  Calls Tryz.prog 3 #[.agg #[.int .u8 a0x0,.int .u8 a0x1,.int .u8 a0x2,.int .u8 a0x3],.slice a1 l1.length cap1,.slice a2 l2.length cap2,.slice a3 l3.length cap3,.slice a4 l4.length cap4,.bool a5,.bool a6,.string a7,a8] w fun e w' => e = .returned (.bool true) /\ Below w.heap.size w w' := by
 have c0x0 := bounds_u8 w0x0
 obtain ⟨k0,rfl⟩ : ∃ c : Nat,a0x0 = (c : Int) := ⟨a0x0.toNat,by omega⟩
 have c0x1 := bounds_u8 w0x1
 obtain ⟨k1,rfl⟩ : ∃ c : Nat,a0x1 = (c : Int) := ⟨a0x1.toNat,by omega⟩
 have c0x2 := bounds_u8 w0x2
 obtain ⟨k2,rfl⟩ : ∃ c : Nat,a0x2 = (c : Int) := ⟨a0x2.toNat,by omega⟩
 have c0x3 := bounds_u8 w0x3
 obtain ⟨k3,rfl⟩ : ∃ c : Nat,a0x3 = (c : Int) := ⟨a0x3.toNat,by omega⟩
 exact R.joins_l k0 k1 k2 k3 l1 l2 l3 l4 a1 a2 a3 a4 cap1 cap2 cap3 cap4 a5 a6 a7 a8 m8 w (by omega) (by omega) (by omega) (by omega) w7 w1 b1 w2 b2 w3 b3 w4 b4 w8
theorem lifted (os : Os) (started : os.Started) (H : Type) (enc : TypeId × Value -> H) :
  ReturnsInHanded {} Tryz.checked os 3 .any (Rows.frameJoinsSpec.pre6 enc Tryz.prog Tryz.f3 Rows.frameJoinsRow.domain false) (Rows.frameJoinsSpec.post enc Tryz.prog Tryz.f3 false true false false) := by
 refine returnsInHanded_of_change (C := Tryz.checked) own started (by kernel_rfl) Tryz.func3
  (ChangeSpec.witness6 (enc := enc) (C := Tryz.checked) false ⟨#[],#[.agg #[.int .u8 0,.int .u8 0,.int .u8 0,.int .u8 0],.slice none 0 0,.slice none 0 0,.slice none 0 0,.slice none 0 0,.bool false,.bool false,.string ByteArray.empty,.agg #[.string ByteArray.empty,.slice none 0 0,.int .i64 0,.string ByteArray.empty,.bool false,.bool false,.int .i64 0,.slice none 0 0,.slice none 0 0]],[]⟩ 8 (by kernel_rfl) (by kernel_rfl) (by kernel_rfl) (by kernel_rfl)) ?_
 intro W base args ds gs before hval0 hW hcnd _
 have hval : ∀ (j : Nat) t v,Tryz.f3.params[j]? = some t -> args[j]? = some v -> Value.okWide Tryz.prog W .any base t v := hval0
 have hW' := hW
 obtain ⟨p,q,hA0,hV,rfl,hfz,hnd⟩ := hW
 have hA : DataW.TrodAll enc Tryz.prog W 0 (fun _ => true) true Tryz.f3.params.toList args.toList ds p := hA0
 rw [Tryz.params3] at hA hval
 obtain ⟨v0,vs0,d0,ds0,p0,q0,hargs,rfl,rfl,h0,r0⟩ := trodAll_cons hA
 obtain ⟨v1,vs1,d1,ds1,p1,q1,rfl,rfl,rfl,h1,r1⟩ := trodAll_cons r0
 obtain ⟨v2,vs2,d2,ds2,p2,q2,rfl,rfl,rfl,h2,r2⟩ := trodAll_cons r1
 obtain ⟨v3,vs3,d3,ds3,p3,q3,rfl,rfl,rfl,h3,r3⟩ := trodAll_cons r2
 obtain ⟨v4,vs4,d4,ds4,p4,q4,rfl,rfl,rfl,h4,r4⟩ := trodAll_cons r3
 obtain ⟨v5,vs5,d5,ds5,p5,q5,rfl,rfl,rfl,h5,r5⟩ := trodAll_cons r4
 obtain ⟨v6,vs6,d6,ds6,p6,q6,rfl,rfl,rfl,h6,r6⟩ := trodAll_cons r5
 obtain ⟨v7,vs7,d7,ds7,p7,q7,rfl,rfl,rfl,h7,r7⟩ := trodAll_cons r6
 obtain ⟨v8,vs8,d8,ds8,p8,q8,rfl,rfl,rfl,h8,r8⟩ := trodAll_cons r7
 obtain ⟨rfl,rfl,rfl⟩ := trodAll_nil r8
 obtain rfl : args = #[v0,v1,v2,v3,v4,v5,v6,v7,v8] := by cases args; simp_all
 obtain ⟨rfl,rfl⟩ := trodVars_none hV
 have k0 := h0
 have lt0 : ∀ x ∈ p0,x.block < W.heap.size := by obtain ⟨m,hm⟩ := k0; exact DataW.trod_lt m _ _ _ hm
 obtain ⟨a0x0,a0x1,a0x2,a0x3,rfl,w0x0,w0x1,w0x2,w0x3⟩ := A.arr4_open (hval 0 22 v0 rfl rfl) h0
 obtain ⟨a1,len1,cap1,rfl⟩ := okWide_slice Tryz.underlying23 (hval 1 23 v1 rfl rfl)
 have k1 := h1
 have lt1 : ∀ x ∈ p1,x.block < W.heap.size := by obtain ⟨m,hm⟩ := k1; exact DataW.trod_lt m _ _ _ hm
 obtain ⟨l1,rfl,w1,b1,m1⟩ := A.bytes_open h1 (fun _ => rfl)
 obtain ⟨a2,len2,cap2,rfl⟩ := okWide_slice Tryz.underlying23 (hval 2 23 v2 rfl rfl)
 have k2 := h2
 have lt2 : ∀ x ∈ p2,x.block < W.heap.size := by obtain ⟨m,hm⟩ := k2; exact DataW.trod_lt m _ _ _ hm
 obtain ⟨l2,rfl,w2,b2,m2⟩ := A.bytes_open h2 (fun _ => rfl)
 obtain ⟨a3,len3,cap3,rfl⟩ := okWide_slice Tryz.underlying23 (hval 3 23 v3 rfl rfl)
 have k3 := h3
 have lt3 : ∀ x ∈ p3,x.block < W.heap.size := by obtain ⟨m,hm⟩ := k3; exact DataW.trod_lt m _ _ _ hm
 obtain ⟨l3,rfl,w3,b3,m3⟩ := A.bytes_open h3 (fun _ => rfl)
 obtain ⟨a4,len4,cap4,rfl⟩ := okWide_slice Tryz.underlying23 (hval 4 23 v4 rfl rfl)
 have k4 := h4
 have lt4 : ∀ x ∈ p4,x.block < W.heap.size := by obtain ⟨m,hm⟩ := k4; exact DataW.trod_lt m _ _ _ hm
 obtain ⟨l4,rfl,w4,b4,m4⟩ := A.bytes_open h4 (fun _ => rfl)
 obtain ⟨a5,rfl,rfl,rfl⟩ := open_bool Tryz.underlying4 (hval 5 4 v5 rfl rfl) h5
 obtain ⟨a6,rfl,rfl,rfl⟩ := open_bool Tryz.underlying4 (hval 6 4 v6 rfl rfl) h6
 obtain ⟨a7,rfl,rfl,rfl,w7⟩ := open_string Tryz.underlying9 (hval 7 9 v7 rfl rfl) h7
 have k8 := h8
 have lt8 : ∀ x ∈ p8,x.block < W.heap.size := by obtain ⟨m,hm⟩ := k8; exact DataW.trod_lt m _ _ _ hm
 obtain ⟨m8,w8,_⟩ := R.mth_open (hval 8 30 v8 rfl rfl) h8
 clear hA0 hval0
 simp only [List.append_nil] at hW'
 refine (walk a0x0 a0x1 a0x2 a0x3 a1 cap1 l1 a2 cap2 l2 a3 cap3 l3 a4 cap4 l4 a5 a6 a7 v8 m8  W w0x0 w0x1 w0x2 w0x3 w1 b1 m1 w2 b2 m2 w3 b3 m3 w4 b4 m4 w7 w8).mono fun e W' ⟨he,bel⟩ => ?_
 subst he
 exact ⟨_,rfl,_,_,_,[],_,[],hW',trodAll_mk1 (shut_bool Tryz.underlying4 _),(trodAll_cons_mk (Below.trod laidOut (by kernel_rfl) (of_decide_eq_true (by kernel_rfl)) k0 bel lt0) (trodAll_cons_mk (Below.trod laidOut (by kernel_rfl) (of_decide_eq_true (by kernel_rfl)) k1 bel lt1) (trodAll_cons_mk (Below.trod laidOut (by kernel_rfl) (of_decide_eq_true (by kernel_rfl)) k2 bel lt2) (trodAll_cons_mk (Below.trod laidOut (by kernel_rfl) (of_decide_eq_true (by kernel_rfl)) k3 bel lt3) (trodAll_cons_mk (Below.trod laidOut (by kernel_rfl) (of_decide_eq_true (by kernel_rfl)) k4 bel lt4) (trodAll_cons_mk (shut_bool Tryz.underlying4 a5) (trodAll_cons_mk (shut_bool Tryz.underlying4 a6) (trodAll_cons_mk (shut_string Tryz.underlying9 w7) (trodAll_cons_mk (Below.trod laidOut (by kernel_rfl) (of_decide_eq_true (by kernel_rfl)) k8 bel lt8) trodAll_mk0))))))))),rfl,bel.frame _,fun h => by cases h⟩
theorem over : Rows.frameJoinsRow.holds Tryz.pinned (OpenSpec.ofChange Rows.frameJoinsSpec) :=
 OpenClaim.holds_of_wide 3 Tryz.f3 rfl rfl rfl rfl rfl rfl rfl ⟨rfl,rfl,rfl,rfl,rfl⟩ rfl rfl rfl rfl rfl (by kernel_rfl) Tryz.func3 (by kernel_rfl)
  (of_decide_eq_true (by kernel_rfl)) (by unfold Func.isWrapper; first | (rw [if_pos (by decide +kernel)]; kernel_rfl) | (rw [if_neg (by decide +kernel)]; exact ⟨rfl,rfl⟩))
  (fun os started H enc _ => lifted os started H enc)
theorem proved : Rows.FrameJoinsSaid := over
#print axioms proved
end Go.Proofs.YtpkjlgdbaajpoaaGreat.frameJoins
