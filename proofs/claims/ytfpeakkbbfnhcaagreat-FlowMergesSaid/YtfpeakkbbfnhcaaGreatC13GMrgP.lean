/- Texts that the proof is made of, joined. No condition. -/
import Derived.Test.YtfpeakkbbfnhcaaGreatC1317
import Derived.Test.YtfpeakkbbfnhcaaGreatC131
set_option linter.unusedVariables false
set_option linter.unusedSimpArgs false
set_option maxRecDepth 100000
set_option maxHeartbeats 16000000
namespace Go.Proofs.YtfpeakkbbfnhcaaGreat.R
open Go.RowKit Go.Proofs.YtfpeakkbbfnhcaaGreat.D Go.Proofs.YtfpeakkbbfnhcaaGreat.O Go.Proofs.YtfpeakkbbfnhcaaGreat.A
def nmM : List ByteArray := [⟨#[65]⟩,⟨#[66]⟩,⟨#[66,97,115,101]⟩,⟨#[73]⟩,⟨#[79,98,106,101,99,116]⟩,⟨#[77,105,100]⟩]
def nmC : List ByteArray := [⟨#[65]⟩,⟨#[66]⟩,⟨#[67]⟩,⟨#[68]⟩,⟨#[]⟩]
def madeP (x : Nat) : Ins := if x = 4 then insO 3 else (25,0,0,es,nmC.getD x es,es,es)
def codeM (x y : Nat) : List Ins := [insO 42,insK 20 4,madeP x,insK 19 5,madeP y,insO 39]
def mMerge (u x y : Nat) : Mth := ⟨⟨#[]⟩,[],(4,nmM.getD u es),true,false,0,codeM x y,[]⟩
def bothM (T : List Sk) (x y : Nat) : ByteArray := if nmC.getD x es = es then nmC.getD y es else if ¬ nmC.getD y es = es then commonT T (nmC.getD x es) (nmC.getD y es) else nmC.getD x es
def fitsM (T : List Sk) (u x y : Nat) : Bool := decide (bothM T x y = es) || subT T (bothM T x y) (nmM.getD u es)
def mergeB (T : List Sk) (u x y : Nat) : Bool :=
 match inferW T ⟨#[65]⟩ (mMerge u x y) with
 | none => false
 | some (l,at_,e) =>
  if fitsM T u x y = false then e == 29 && at_ == 5
  else e == 0 && (l.length == 6 && ((l.getD 5 noFr).2.2.length == 1 && (if bothM T x y = es then (((l.getD 5 noFr).2.2.getD 0 topT).1 == 6) else decide (((l.getD 5 noFr).2.2.getD 0 topT).2 = bothM T x y))))
theorem merge_t0 : ∀ b3 b6 b2 : Bool,∀ x y : Fin 5,mergeB (tabT b3 b6 b2) 0 x.val y.val = true := by decide +kernel
theorem merge_t1 : ∀ b3 b6 b2 : Bool,∀ x y : Fin 5,mergeB (tabT b3 b6 b2) 1 x.val y.val = true := by decide +kernel
theorem merge_t2 : ∀ b3 b6 b2 : Bool,∀ x y : Fin 5,mergeB (tabT b3 b6 b2) 2 x.val y.val = true := by decide +kernel
theorem merge_t3 : ∀ b3 b6 b2 : Bool,∀ x y : Fin 5,mergeB (tabT b3 b6 b2) 3 x.val y.val = true := by decide +kernel
theorem merge_t4 : ∀ b3 b6 b2 : Bool,∀ x y : Fin 5,mergeB (tabT b3 b6 b2) 4 x.val y.val = true := by decide +kernel
theorem merge_t5 : ∀ b3 b6 b2 : Bool,∀ x y : Fin 5,mergeB (tabT b3 b6 b2) 5 x.val y.val = true := by decide +kernel
theorem merge_ok : ∀ x y : Fin 5,okCode (codeM x.val y.val) = true := by decide +kernel
theorem merge_tab (b3 b6 b2 : Bool) (u x y : Nat) (hu : u < 6) (hx : x < 5) (hy : y < 5) : mergeB (tabT b3 b6 b2) u x y = true := by
 rcases (by omega : u = 0 ∨ u = 1 ∨ u = 2 ∨ u = 3 ∨ u = 4 ∨ u = 5) with rfl | rfl | rfl | rfl | rfl | rfl
 ·exact merge_t0 b3 b6 b2 ⟨x,hx⟩ ⟨y,hy⟩
 ·exact merge_t1 b3 b6 b2 ⟨x,hx⟩ ⟨y,hy⟩
 ·exact merge_t2 b3 b6 b2 ⟨x,hx⟩ ⟨y,hy⟩
 ·exact merge_t3 b3 b6 b2 ⟨x,hx⟩ ⟨y,hy⟩
 ·exact merge_t4 b3 b6 b2 ⟨x,hx⟩ ⟨y,hy⟩
 ·exact merge_t5 b3 b6 b2 ⟨x,hx⟩ ⟨y,hy⟩
end Go.Proofs.YtfpeakkbbfnhcaaGreat.R
