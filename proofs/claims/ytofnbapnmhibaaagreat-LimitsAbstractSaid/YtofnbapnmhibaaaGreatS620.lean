/- Texts that the proof is made of, joined. No condition. -/
import Derived.Test.YtofnbapnmhibaaaGreatS613
import Derived.Test.YtofnbapnmhibaaaGreatS619
import Derived.Deep.DeepCutAuto
import Derived.Laws.BitsLemmas
import Derived.Test.YtofnbapnmhibaaaGreatS6H
set_option linter.unusedVariables false
set_option linter.unusedSimpArgs false
set_option maxRecDepth 100000
set_option maxHeartbeats 16000000
namespace Go.Proofs.YtofnbapnmhibaaaGreat.A
open Go.RowKit Go.Proofs.YtofnbapnmhibaaaGreat.D Go.Proofs.YtofnbapnmhibaaaGreat.O
theorem rd_box7 {α : Type} {sz : Nat} {P : Pv α} {ok : Nat -> Prop} {w : World} {b : Nat} {l : List Value} {T : TypeId} {x : α} (h : w.heap[b]? = some (.cells l.toArray T (0,0))) (hp : P ok w l x) (hok : ok b) : RdX sz P ok w (.slice (some ⟨b,0,none⟩) 1 1) [x] := by
 obtain ⟨hlt,hc,-⟩ := boxN h
 refine ⟨_,1,rfl,Nat.le_refl _,(fun e => by cases e),.inr ⟨b,0,rfl,hok,hlt,fun i y hy => ?_⟩⟩
 cases i with
 | zero =>
  simp only [List.getElem?_cons_zero,Option.some.injEq] at hy
  subst hy
  refine ⟨l,hp,fun j u hu => ?_⟩
  have := hc j u hu
  rwa [Nat.zero_mul,Nat.add_zero]
 | succ i => simp at hy
theorem seat0_sz : szA seat0 := by unfold szA szC szM szI; decide +kernel
theorem seat0_wf : wfA seat0 := by unfold wfA wfC wfM okI; decide +kernel
theorem seat0_small : small seat0 := by unfold small; decide +kernel
theorem bare0_sz : szA [bare0] := by unfold szA szC szM szI; decide +kernel
theorem bare0_wf : wfA [bare0] := by unfold wfA wfC wfM okI; decide +kernel
theorem bare0_small : small [bare0] := by unfold small; decide +kernel
theorem seat0_ne : ¬ seat0 = [] := by decide +kernel
def knownM : Mth := ⟨⟨#[]⟩,[],(0,⟨#[]⟩),true,false,0,[(19,0,2,es,es,es,es),(40,0,0,es,es,es,es)],[]⟩
theorem knownM_ans : mthA knownM = (0,28) := by decide +kernel
def KB (M : Nat) (cs : List Value) (T : TypeId) (w0 W : World) : Prop := W.heap[M]? = some (.cells cs.toArray T (0,0)) /\ Below w0.heap.size w0 W /\ w0.heap.size <= W.heap.size
theorem KB.next {M : Nat} {cs : List Value} {T : TypeId} {w0 W W' : World} (h : KB M cs T w0 W) (hb : Below W.heap.size W W') : KB M cs T w0 W' :=
 ⟨(hb.block _ (Array.getElem?_eq_some_iff.1 h.1).1).trans h.1,h.2.1.trans (hb.mono h.2.2),Nat.le_trans h.2.2 hb.size⟩
theorem known_l (w : World) (hg : Glob w) : Calls Tryz.prog 7 #[] w fun e w' => e = .returned (.bool true) /\ Below w.heap.size w w' := by
 have HG := hid hg
 clear hg
 go_enter Tryz.func7,Tryz.ntmps7
 go_upto_region 2 with fail
 obtain ⟨w1,hw1⟩ : ∃ x,x = (w.alloc (.cells #[.int .i64 19,.int .i32 0,.int .i64 2,.string ⟨#[]⟩,.string ⟨#[]⟩,.string ⟨#[]⟩,.string ⟨#[]⟩,.int .i64 40,.int .i32 0,.int .i64 0,.string ⟨#[]⟩,.string ⟨#[]⟩,.string ⟨#[]⟩,.string ⟨#[]⟩] 31)).alloc (.cells #[.string ⟨#[]⟩,.slice none 0 0,.int .i64 0,.string ⟨#[]⟩,.bool true,.bool false,.int .i64 0,.slice (some ⟨w.heap.size,0,none⟩) 2 2,.slice none 0 0] 29) := ⟨_,rfl⟩
 rw [<- hw1]
 have hbA := below_alM w (.cells #[.int .i64 19,.int .i32 0,.int .i64 2,.string ⟨#[]⟩,.string ⟨#[]⟩,.string ⟨#[]⟩,.string ⟨#[]⟩,.int .i64 40,.int .i32 0,.int .i64 0,.string ⟨#[]⟩,.string ⟨#[]⟩,.string ⟨#[]⟩,.string ⟨#[]⟩] 31)
 have hbB := below_alM (w.alloc (.cells #[.int .i64 19,.int .i32 0,.int .i64 2,.string ⟨#[]⟩,.string ⟨#[]⟩,.string ⟨#[]⟩,.string ⟨#[]⟩,.int .i64 40,.int .i32 0,.int .i64 0,.string ⟨#[]⟩,.string ⟨#[]⟩,.string ⟨#[]⟩,.string ⟨#[]⟩] 31)) (.cells #[.string ⟨#[]⟩,.slice none 0 0,.int .i64 0,.string ⟨#[]⟩,.bool true,.bool false,.int .i64 0,.slice (some ⟨w.heap.size,0,none⟩) 2 2,.slice none 0 0] 29)
 have hrI := rdX_lits insC_len w [(19,0,2,es,es,es,es),(40,0,0,es,es,es,es)] #[.int .i64 19,.int .i32 0,.int .i64 2,.string ⟨#[]⟩,.string ⟨#[]⟩,.string ⟨#[]⟩,.string ⟨#[]⟩,.int .i64 40,.int .i32 0,.int .i64 0,.string ⟨#[]⟩,.string ⟨#[]⟩,.string ⟨#[]⟩,.string ⟨#[]⟩] 31 rfl
 have HK : Hid (KB (w.heap.size + 1) [.string ⟨#[]⟩,.slice none 0 0,.int .i64 0,.string ⟨#[]⟩,.bool true,.bool false,.int .i64 0,.slice (some ⟨w.heap.size,0,none⟩) 2 2,.slice none 0 0] 29 w w1) := hid ⟨by rw [hw1]; have := heap_alloc_new (w.alloc (.cells #[.int .i64 19,.int .i32 0,.int .i64 2,.string ⟨#[]⟩,.string ⟨#[]⟩,.string ⟨#[]⟩,.string ⟨#[]⟩,.int .i64 40,.int .i32 0,.int .i64 0,.string ⟨#[]⟩,.string ⟨#[]⟩,.string ⟨#[]⟩,.string ⟨#[]⟩] 31)) (.cells #[.string ⟨#[]⟩,.slice none 0 0,.int .i64 0,.string ⟨#[]⟩,.bool true,.bool false,.int .i64 0,.slice (some ⟨w.heap.size,0,none⟩) 2 2,.slice none 0 0] 29); rwa [World.size_alloc] at this,by rw [hw1]; exact hbA.trans (hbB.mono hbA.size),by rw [hw1]; simp; omega⟩
 have HRI : Hid (RdX 7 (sP insC) _ w1 (.slice (some ⟨w.heap.size,0,none⟩) 2 2) [(19,0,2,es,es,es,es),(40,0,0,es,es,es,es)]) := hid (by rw [hw1]; exact hrI.any (sP.grow _) hbB)
 clear hw1 hbA hbB hrI
 obtain ⟨M,hM⟩ : ∃ x,w.heap.size + 1 = x := ⟨_,rfl⟩
 rw [hM] at HK
 rw [hM]
 obtain ⟨q0,q1,q2,q3,q4,q5,q6,q7,q8⟩ := z9 (boxN HK.out.1).2.1
 have ql := (boxN HK.out.1).1
 go_wp2_with fail
 refine (method_a _ _ _ _ _ _ _ _ _ _ _ _ _ _ _ [] [(19,0,2,es,es,es,es),(40,0,0,es,es,es,es)] [] _ w1 rfl (by decide) HRI.out (RdX.nil _ _ _ _) (by decide) (by decide)).mono ?_
 rw [show mthA (⟨⟨#[]⟩,[],(0,⟨#[]⟩),true,false,0,[(19,0,2,es,es,es,es),(40,0,0,es,es,es,es)],[]⟩ : Mth) = (0,28) from knownM_ans]
 rintro e w2 ⟨rfl,hb2⟩
 replace HK := hid (HK.out.next hb2)
 clear q0 q1 q2 q3 q4 q5 q6 q7 q8 ql hb2 HRI
 go_wp2_with fail
 refine (archive_0 0 0 0 0 w2 (by decide) (by decide) (by decide) (by decide)).mono ?_
 rintro e w3 ⟨p3,n3,c3,rfl,hr3,hb3⟩
 replace HK := hid (HK.out.next hb3)
 have HR3 : Hid (RdX 6 cP _ w3 (.slice p3 n3 c3) seat0) := hid hr3
 clear hr3 hb3
 go_wp2_with fail
 refine (check_ok seat0 _ p3 n3 c3 w3 seat0_sz seat0_wf (fun _ => seat0_small) (HG.out.below HK.out.2.1 (Nat.le_refl _)) HR3.out seat0_ne seat0_right seat0_ok).mono ?_
 rintro e w4 ⟨rfl,hb4⟩
 replace HK := hid (HK.out.next hb4)
 clear hb4 HR3
 go_upto_region 4 with fail
 obtain ⟨w5,hw5⟩ : ∃ x,x = w4.alloc (.cells #[.int .i64 0,.int .i64 0,.int .i64 0] 45) := ⟨_,rfl⟩
 rw [<- hw5]
 have HP : Hid (w5.heap[w4.heap.size]? = some (.cells #[.int .i64 0,.int .i64 0,.int .i64 0] 45 (0,0))) := hid (by rw [hw5]; exact heap_alloc_new _ _)
 replace HK : Hid (KB M _ _ w w5) := hid (by rw [hw5]; exact HK.out.next (below_alM _ _))
 clear hw5
 obtain ⟨P,hP⟩ : ∃ x,w4.heap.size = x := ⟨_,rfl⟩
 rw [hP] at HP
 rw [hP]
 clear hP
 go_wp2_with fail
 have HR6 : Hid (RdX 6 cP anyB (w5.alloc (.cells #[.string ⟨#[]⟩,.string ⟨#[]⟩,.slice none 0 0,.int .i64 0,.slice none 0 0,.slice none 0 0] 57)) (.slice (some ⟨w5.heap.size,0,none⟩) 1 1) [bare0]) := hid (rd_box7 (l := [.string ⟨#[]⟩,.string ⟨#[]⟩,.slice none 0 0,.int .i64 0,.slice none 0 0,.slice none 0 0]) (heap_alloc_new w5 (.cells #[.string ⟨#[]⟩,.string ⟨#[]⟩,.slice none 0 0,.int .i64 0,.slice none 0 0,.slice none 0 0] 57)) ⟨_,_,_,rfl,RdX.nil _ _ _ _,RdX.nil _ _ _ _,RdX.nil _ _ _ _⟩ trivial)
 have HP6 := hid (((below_alM w5 (.cells #[.string ⟨#[]⟩,.string ⟨#[]⟩,.slice none 0 0,.int .i64 0,.slice none 0 0,.slice none 0 0] 57)).block _ (Array.getElem?_eq_some_iff.1 HP.out).1).trans HP.out)
 have HK6 := hid (HK.out.next (below_alM w5 (.cells #[.string ⟨#[]⟩,.string ⟨#[]⟩,.slice none 0 0,.int .i64 0,.slice none 0 0,.slice none 0 0] 57)))
 clear HP HK
 refine (check_bad [bare0] _ _ _ _ _ bare0_sz bare0_wf (fun _ => bare0_small) (HG.out.below HK6.out.2.1 (Nat.le_refl _)) HR6.out bare0_right).mono ?_
 rintro e w7 ⟨rfl,hb7⟩
 replace HK6 := hid (HK6.out.next hb7)
 replace HP6 := hid ((hb7.block _ (Array.getElem?_eq_some_iff.1 HP6.out).1).trans HP6.out)
 clear hb7 HR6
 go_upto_region 5 with fail
 obtain ⟨w8,hw8⟩ : ∃ x,x = w7.alloc (.cells #[.int .i64 (-1),.int .i64 (-1),.int .i64 (-1)] 45) := ⟨_,rfl⟩
 rw [<- hw8]
 replace HP6 := hid (((below_alM w7 (.cells #[.int .i64 (-1),.int .i64 (-1),.int .i64 (-1)] 45)).block _ (Array.getElem?_eq_some_iff.1 HP6.out).1).trans HP6.out)
 replace HK6 := hid (HK6.out.next (below_alM w7 (.cells #[.int .i64 (-1),.int .i64 (-1),.int .i64 (-1)] 45)))
 rw [<- hw8] at HP6 HK6
 clear hw8
 obtain ⟨q0,q1,q2,q3,q4,q5,q6,q7,q8⟩ := z9 (boxN HK6.out.1).2.1
 have ql := (boxN HK6.out.1).1
 obtain ⟨yl,yc,yf⟩ := boxN HP6.out
 have y0 := yc 0 _ rfl
 have y1 := yc 1 _ rfl
 have y2 := yc 2 _ rfl
 simp only [Nat.zero_add] at y0 y1 y2
 clear yc yf hM
 try simp only [List.append_eq,List.cons_append,List.nil_append]
 go_wp2_with fail
 refine (args_any _ _ _ _ _ _ _ _ _ _ _ _ _ _ _ w8 (by decide)).mono ?_
 rintro e w9 ⟨rfl,hb9⟩
 have HB9 := hid (HK6.out.2.1.trans (hb9.mono HK6.out.2.2))
 clear hb9 q0 q1 q2 q3 q4 q5 q6 q7 q8 ql yl y0 y1 y2 HK6 HP6
 go_wp2_with fail
 refine (args_any _ _ _ _ _ _ _ _ _ _ _ _ _ _ _ w9 (by decide)).mono ?_
 rintro e w10 ⟨rfl,hb10⟩
 have HB10 := hid (HB9.out.trans (hb10.mono HB9.out.size))
 clear hb10 HB9
 go_wp2_with fail
 go_ret
 exact ⟨rfl,HB10.out⟩
end Go.Proofs.YtofnbapnmhibaaaGreat.A
namespace Go.Proofs.YtofnbapnmhibaaaGreat.A
open Go.RowKit Go.Proofs.YtofnbapnmhibaaaGreat.D Go.Proofs.YtofnbapnmhibaaaGreat.O
theorem rd_box6 {α : Type} {sz : Nat} {P : Pv α} {ok : Nat -> Prop} {w : World} {b : Nat} {l : List Value} {T : TypeId} {x : α} (h : w.heap[b]? = some (.cells l.toArray T (0,0))) (hp : P ok w l x) (hok : ok b) : RdX sz P ok w (.slice (some ⟨b,0,none⟩) 1 1) [x] := by
 obtain ⟨hlt,hc,-⟩ := boxN h
 refine ⟨_,1,rfl,Nat.le_refl _,(fun e => by cases e),.inr ⟨b,0,rfl,hok,hlt,fun i y hy => ?_⟩⟩
 cases i with
 | zero =>
  simp only [List.getElem?_cons_zero,Option.some.injEq] at hy
  subst hy
  refine ⟨l,hp,fun j u hu => ?_⟩
  have := hc j u hu
  rwa [Nat.zero_mul,Nat.add_zero]
 | succ i => simp at hy
def iR : Ins := (40,0,0,es,es,es,es)
def hR1 : Hnd := (0,1,0,⟨#[70,97,117,108,116]⟩)
theorem box_put {W W' : World} {M i : Nat} {cs cs' : Array Value} {T : TypeId} {o : Obj} {v : Value} (h : W.heap[M]? = some (.cells cs T (0,0))) (hW : W' = (W.setCell ⟨M,i,none⟩ v).alloc o) (hc : cs.setIfInBounds i v = cs') :
  W'.heap[M]? = some (.cells cs' T (0,0)) /\ W'.heap[W.heap.size]? = some o /\ Kpt [M] W W' /\ W'.heap.size = W.heap.size + 1 := by
 have hlt := (Array.getElem?_eq_some_iff.1 h).1
 subst hW
 refine ⟨?_,?_,Kpt.trans (Kpt.set _ _ _ _ _ (by simp)) (Kpt.alloc [] _ _) (fun x hx => by cases hx),by simp⟩
 ·rw [(below_alM _ _).block _ (by simp; omega),heap_setCell_same _ _ i _ _ _ h,hc]
 ·have := heap_alloc_new (W.setCell ⟨M,i,none⟩ v) o
  simpa using this
theorem box_set {W W' : World} {M i : Nat} {cs cs' : Array Value} {T : TypeId} {v : Value} (h : W.heap[M]? = some (.cells cs T (0,0))) (hW : W' = W.setCell ⟨M,i,none⟩ v) (hc : cs.setIfInBounds i v = cs') :
  W'.heap[M]? = some (.cells cs' T (0,0)) /\ Kpt [M] W W' /\ W'.heap.size = W.heap.size := by
 subst hW
 exact ⟨by rw [heap_setCell_same _ _ i _ _ _ h,hc],Kpt.set _ _ _ _ _ (by simp),by simp⟩
theorem RdX.kpt6 {α : Type} {sz M : Nat} {c : α -> List Value} {W W' : World} {v : Value} {xs : List α} (h : RdX sz (sP c) (fun b => b ≠ M) W v xs) (hk : Kpt [M] W W') : RdX sz (sP c) (fun b => b ≠ M) W' v xs :=
 h.step (sP.grow _) (fun _ h _ => h) (.of_kpt hk (fun b hb => by simp; exact hb)) hk.size
theorem rep_next6 {α : Type} (i : Nat) (x : α) : List.replicate i x ++ [x] = List.replicate (i + 1) x := (List.replicate_succ' ..).symm
theorem inf_typ : Inf 25 23 2 24 (.agg #[.int .i64 0,.string ⟨#[]⟩]) := ⟨by kernel_rfl,Tryz.underlying23,rfl,by decide,by decide⟩
theorem shape_typ : Shape (sP tyC) 2 := fun _ _ vs x h => by
 have : vs = tyC x := h
 subst this
 exact ⟨rfl,by simp [tyC,Value.oneCell']⟩
theorem and15 (n : Int) : bits .and .i64 n 15 = n % 16 := by
 have hm : (BitVec.ofInt 64 15).toNat = 2 ^ 4 - 1 := by decide
 have e : (BitVec.ofInt 64 n &&& BitVec.ofInt 64 15).toNat = (n % ((2 ^ 64 : Nat) : Int)).toNat % 2 ^ 4 := by
  rw [BitVec.toNat_and,BitVec.toNat_ofInt,hm,Nat.and_two_pow_sub_one_eq_mod]
 show IntKind.i64.wrap ((BitVec.ofInt 64 n &&& BitVec.ofInt 64 15).toNat : Nat) = n % 16
 rw [e,IntKind.wrap_i64]
 omega
end Go.Proofs.YtofnbapnmhibaaaGreat.A
