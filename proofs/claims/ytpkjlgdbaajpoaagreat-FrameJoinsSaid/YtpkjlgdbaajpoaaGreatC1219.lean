/- Texts that the proof is made of, joined. No condition. -/
import Derived.Test.YtpkjlgdbaajpoaaGreatC1210
import Derived.Test.YtpkjlgdbaajpoaaGreatC122
import Derived.Test.YtpkjlgdbaajpoaaGreatC129
import Derived.Test.YtpkjlgdbaajpoaaGreatC123
import Derived.Test.YtpkjlgdbaajpoaaGreatC1215
import Derived.Test.YtpkjlgdbaajpoaaGreatC1218
import Derived.Deep.DeepCutAuto
import Derived.Deep.CutBlock
import Derived.Deep.LoopGhost
import Derived.Test.YtpkjlgdbaajpoaaGreatC12H
set_option linter.unusedVariables false
set_option linter.unusedSimpArgs false
set_option maxRecDepth 100000
set_option maxHeartbeats 16000000
namespace Go.Proofs.YtpkjlgdbaajpoaaGreat.R
open Go.RowKit Go.Proofs.YtpkjlgdbaajpoaaGreat.D Go.Proofs.YtpkjlgdbaajpoaaGreat.O Go.Proofs.YtpkjlgdbaajpoaaGreat.A
def TyB (W : World) (p : Nat × Ty) : Prop := W.heap[p.1]? = some (.cells #[.int .i64 p.2.1,.string p.2.2] 26 (0,0))
def StJ (w W : World) (ok : Nat -> Prop) (tb mt : Nat) (vs : Value) (K : List Cls) (L : List (Nat × Ty)) : Prop := TrW W ok tb mt vs K /\ (∀ p ∈ L,TyB W p) /\ Below w.heap.size w W
theorem StJ.below {w W W' : World} {ok : Nat -> Prop} {tb mt : Nat} {vs : Value} {K : List Cls} {L : List (Nat × Ty)} (h : StJ w W ok tb mt vs K L) (hb : Below W.heap.size W W') : StJ w W' ok tb mt vs K L :=
 ⟨h.1.below hb,fun p hp => (hb.block _ (Array.getElem?_eq_some_iff.1 (h.2.1 p hp)).1).trans (h.2.1 p hp),h.2.2.trans (hb.mono h.2.2.size)⟩
theorem StJ.cell {w W : World} {ok : Nat -> Prop} {tb mt : Nat} {vs : Value} {K : List Cls} {L : List (Nat × Ty)} (h : StJ w W ok tb mt vs K L) {g : Nat} {a : Ty} (hp : (g,a) ∈ L) : g < W.heap.size /\ W.cell? ⟨g,0,none⟩ = some (.int .i64 a.1) /\ W.cell? ⟨g,1,none⟩ = some (.string a.2) := by
 have hx : W.heap[g]? = _ := h.2.1 _ hp
 exact ⟨(Array.getElem?_eq_some_iff.1 hx).1,by simp [World.cell?,hx],by simp [World.cell?,hx]⟩
theorem seat_tree (k0 k1 k2 k3 : Nat) (w : World) (p : Option Addr) (c : Nat) (ok : Nat -> Prop) (hr : RdX 6 cP ok w (.slice p (archS k0 k1 k2 k3 [] []).length c) (archS k0 k1 k2 k3 [] [])) :
  Calls Tryz.prog 10 #[.agg #[.slice p (archS k0 k1 k2 k3 [] []).length c]] w fun e w' => ∃ tb mb vs ok' K,e = .returned (.pointer (some ⟨tb,0,none⟩)) /\ K.map skOf = tabT (bitS k0 3) (bitS k0 6) (bitS k2 2) /\ StJ w w' ok' tb mb vs K [] :=
 (New_t _ _ _ _ w hr (seat_sz8 k0 k1 k2 k3) (seat_few k0 k1 k2 k3)).mono (fun e w' ⟨tb,mb,vs,he,ht,hb⟩ => ⟨tb,mb,vs,_,_,he,seat_kept k0 k1 k2 k3,ht,(fun _ hp => by cases hp),hb⟩)
end Go.Proofs.YtpkjlgdbaajpoaaGreat.R
namespace Go.Proofs.YtpkjlgdbaajpoaaGreat.S
open Go.RowKit Go.Maps
theorem hasB_none {α : Type} [DecidableEq α] {l : List α} {x : α} (h : ∀ i,i < l.length -> l[i]? ≠ some x) : hasB l x = false := hasB_out (fun hx => by
 obtain ⟨i,hi,e⟩ := List.mem_iff_getElem.1 hx
 exact h i hi (by rw [List.getElem?_eq_getElem hi,e]))
theorem in_S (v : Value) (xs : List ByteArray) (x : ByteArray) (ok : Nat -> Prop) (w : World) (hr : RdC cS ok w v xs) (hl : xs.length <= 100000) :
  Calls Tryz.prog 79 #[v,.string x] w fun e w' => e = .returned (.bool (hasB xs x)) /\ w = w' := by
 obtain ⟨p,cap,rfl,h1,h2⟩ := hr.form
 have HR := hid hr
 clear hr
 go_enter Tryz.func79,Tryz.ntmps79
 go_wp2_with fail
 go_loopw [5] (fun v wr => ∃ i : Nat,v = .int .i64 (i : Int) /\ i <= xs.length /\ Hid (∀ k,k < i -> xs[k]? ≠ some x) /\ w = wr) (fun v _ => xs.length - (intOf v).toNat)
 case atStart => exact ⟨0,rfl,by omega,hid (fun k hk => absurd hk (by omega)),rfl⟩
 case round =>
  obtain ⟨i,rfl,hi,HA,rfl⟩ := hrel
  by_cases hlt : i < xs.length
  ·have hlt' : (i : Int) < (xs.length : Int) := by omega
   have hne : xs ≠ [] := by rintro rfl; simp at hlt
   obtain ⟨b,off,rfl,hb,hbl,hc⟩ := HR.out.at hne
   have hg := List.getElem?_eq_getElem hlt
   have ci : w.cell? ⟨b,off + i,none⟩ = some (.string xs[i]) := hc i _ hg
   obtain ⟨y,hy⟩ : ∃ y,xs[i] = y := ⟨_,rfl⟩
   rw [hy] at ci hg
   have HG := hid hg
   clear hc hy hg
   by_cases e : y = x
   ·subst e
    go_wp2
    go_ret
    exact ⟨ret_bool (hasB_in (List.mem_of_getElem? HG.out)).symm,rfl⟩
   ·have hne2 : (y.toList == x.toList) = false := txt_ne e
    go_wp2_with fail
    go_roundw
    case rel => exact ⟨i + 1,by go_num,by omega,hid (fun k hk => by
     by_cases e2 : k = i
     ·subst e2
      rw [HG.out]
      exact fun h => e (by cases h; rfl)
     ·exact HA.out k (by omega)),trivial⟩
    case measure => simp [intOf]; omega
  ·obtain rfl : i = xs.length := by omega
   clear hlt hi
   go_wp2
   go_ret
   exact ⟨ret_bool (hasB_none HA.out).symm,rfl⟩
end Go.Proofs.YtpkjlgdbaajpoaaGreat.S
namespace Go.Proofs.YtpkjlgdbaajpoaaGreat.R
open Go.RowKit Go.Proofs.YtpkjlgdbaajpoaaGreat.D Go.Proofs.YtpkjlgdbaajpoaaGreat.O Go.Proofs.YtpkjlgdbaajpoaaGreat.A
theorem rdX_rdc {ok : Nat -> Prop} {w : World} {p : Option Addr} {n c : Nat} {ys : List ByteArray} (h : RdX 1 (sP strC) ok w (.slice p n c) ys) (hc : c <= maxLen) : S.RdC S.cS ok w (.slice p n c) ys := by
 have h0 := h
 obtain ⟨p',c',e,h1,h2,h3⟩ := h
 simp only [Value.slice.injEq] at e
 obtain ⟨rfl,rfl,rfl⟩ := e
 refine ⟨_,_,rfl,h1,h2,hc,?_⟩
 rcases h3 with h3 | ⟨b,off,rfl,hb,hl,_⟩
 ·exact .inl h3
 ·refine .inr ⟨b,off,rfl,hb,hl,fun i y hy => ?_⟩
  obtain ⟨b',off',e',_,_,_,_,hc'⟩ := rdX_at h0 hy
  cases e'
  exact hc'
end Go.Proofs.YtpkjlgdbaajpoaaGreat.R
namespace Go.Proofs.YtpkjlgdbaajpoaaGreat.R
open Go.RowKit Go.Proofs.YtpkjlgdbaajpoaaGreat.D Go.Proofs.YtpkjlgdbaajpoaaGreat.O Go.Proofs.YtpkjlgdbaajpoaaGreat.A
def sevT : List ByteArray := objT :: fltT :: fivT
theorem sev_blt (n : ByteArray) : S.hasB sevT n = (bltS n).isSome := by
 unfold bltS
 by_cases h1 : n = objT
 ·rw [if_pos h1]; exact S.hasB_in (by rw [h1]; exact List.mem_cons_self)
 ·rw [if_neg h1]
  by_cases h2 : n = fltT
  ·rw [if_pos h2]; exact S.hasB_in (by rw [h2]; exact List.mem_cons_of_mem _ List.mem_cons_self)
  ·rw [if_neg h2]
   by_cases h3 : S.hasB fivT n = true
   ·rw [if_pos h3]; exact S.hasB_in (List.mem_cons_of_mem _ (List.mem_cons_of_mem _ (by by_cases hm : n ∈ fivT; exact hm; rw [S.hasB_out hm] at h3; cases h3)))
   ·rw [if_neg h3]
    refine S.hasB_out (fun hm => ?_)
    rcases List.mem_cons.1 hm with e | hm
    ·exact h1 e
    ·rcases List.mem_cons.1 hm with e | hm
     ·exact h2 e
     ·exact h3 (S.hasB_in hm)
theorem Builtin_r (n : ByteArray) (w : World) : Calls Tryz.prog 124 #[.string n] w fun e w' => e = .returned (.bool (bltS n).isSome) /\ Below w.heap.size w w' := by
 have HR : Hid (RdX 1 (sP strC) anyB (w.alloc (.cells #[.string ⟨#[79,98,106,101,99,116]⟩,.string ⟨#[70,97,117,108,116]⟩,.string ⟨#[78,117,108,108,70,97,117,108,116]⟩,.string ⟨#[66,111,117,110,100,115,70,97,117,108,116]⟩,.string ⟨#[67,97,115,116,70,97,117,108,116]⟩,.string ⟨#[90,101,114,111,70,97,117,108,116]⟩,.string ⟨#[83,105,122,101,70,97,117,108,116]⟩] 9)) (.slice (some ⟨w.heap.size,0,none⟩) 7 7) sevT) := hid (rdX_lits (sz := 1) (c := strC) (fun _ => rfl) w sevT _ _ rfl)
 go_enter Tryz.func124,Tryz.ntmps124
 go_wp2_with fail
 refine (S.in_S _ sevT n _ _ (rdX_rdc HR.out (by unfold maxLen; omega)) (by decide)).mono ?_
 rintro e w1 ⟨rfl,rfl⟩
 rw [sev_blt]
 go_wp2_with fail
 go_ret
 exact ⟨rfl,below_alR _ _⟩
theorem superB_r (v : Value) (n s : ByteArray) (w : World) (h : bltS n = some s) : Calls Tryz.prog 104 #[v,.string n] w fun e w' => e = .returned (.string s) /\ Below w.heap.size w w' := by
 by_cases h1 : n = objT
 ·have e1 : (n.toList == [79,98,106,101,99,116]) = true := by rw [h1]; decide +kernel
  have e2 : s = ⟨#[]⟩ := by
   unfold bltS at h
   rw [if_pos h1] at h
   exact (Option.some.inj h).symm
  subst e2
  go_enter Tryz.func104,Tryz.ntmps104
  clear h1 h
  go_wp2_with fail
  go_ret
  exact ⟨rfl,Below.refl _ _⟩
 ·have e1 : (n.toList == [79,98,106,101,99,116]) = false := by
   rw [show ([79,98,106,101,99,116] : List UInt8) = objT.toList from by decide +kernel]
   exact Go.Proofs.YtpkjlgdbaajpoaaGreat.txt_ne h1
  by_cases h2 : n = fltT
  ·have e2 : (n.toList == [70,97,117,108,116]) = true := by rw [h2]; decide +kernel
   have e3 : s = ⟨#[79,98,106,101,99,116]⟩ := by
    unfold bltS at h
    rw [if_neg h1,if_pos h2] at h
    exact (Option.some.inj h).symm
   subst e3
   go_enter Tryz.func104,Tryz.ntmps104
   clear h1 h2 h
   go_wp2_with fail
   go_ret
   exact ⟨rfl,Below.refl _ _⟩
  ·have e2 : (n.toList == [70,97,117,108,116]) = false := by
    rw [show ([70,97,117,108,116] : List UInt8) = fltT.toList from by decide +kernel]
    exact Go.Proofs.YtpkjlgdbaajpoaaGreat.txt_ne h2
   have e3 : s = ⟨#[70,97,117,108,116]⟩ := by
    unfold bltS at h
    rw [if_neg h1,if_neg h2] at h
    split at h
    ·exact (Option.some.inj h).symm
    ·cases h
   have hs : (bltS n).isSome = true := by rw [h]; rfl
   subst e3
   go_enter Tryz.func104,Tryz.ntmps104
   clear h1 h2 h
   go_wp2_with fail
   refine (Builtin_r n w).mono ?_
   rw [hs]
   rintro e w1 ⟨rfl,hb⟩
   go_wp2_with fail
   go_ret
   exact ⟨rfl,hb⟩
end Go.Proofs.YtpkjlgdbaajpoaaGreat.R
namespace Go.Proofs.YtpkjlgdbaajpoaaGreat.R
open Go.RowKit Go.Proofs.YtpkjlgdbaajpoaaGreat.D Go.Proofs.YtpkjlgdbaajpoaaGreat.O Go.Proofs.YtpkjlgdbaajpoaaGreat.A
def RfW (ok : Nat -> Prop) (w : World) (rb : Nat) (p : Option Addr) (cap : Nat) (A : List Cls) : Prop :=
 w.heap[rb]? = some (.cells #[.slice p A.length cap] 41 (0,0)) /\ RdX 6 cP ok w (.slice p A.length cap) A /\ A.length <= 1000
theorem RfW.below {ok : Nat -> Prop} {w w' : World} {rb : Nat} {p : Option Addr} {cap : Nat} {A : List Cls} (h : RfW ok w rb p cap A) (hb : Below w.heap.size w w') : RfW ok w' rb p cap A :=
 ⟨(hb.block _ (Array.getElem?_eq_some_iff.1 h.1).1).trans h.1,h.2.1.any cP.grow hb,h.2.2⟩
theorem find_first {A : List Cls} {n : ByteArray} {i : Nat} {c : Cls} (hb : bltS n = none) (hi : A[i]? = some c) (hc : c.name = n) (hlt : ∀ k d,k < i -> A[k]? = some d -> d.name ≠ n) : findC A n = some c := by
 unfold findC bltC
 rw [hb]
 show A.find? (fun c => decide (c.name = n)) = some c
 induction A generalizing i with
 | nil => cases hi
 | cons d A ih =>
  cases i with
  | zero =>
   cases hi
   rw [List.find?_cons,decide_eq_true hc]
  | succ i =>
   rw [List.find?_cons,decide_eq_false (hlt 0 d (by omega) rfl)]
   exact ih hi (fun k e hk he => hlt (k + 1) e (by omega) he)
theorem find_none {A : List Cls} {n : ByteArray} (hb : bltS n = none) (hlt : ∀ k d,k < A.length -> A[k]? = some d -> d.name ≠ n) : findC A n = none := by
 unfold findC bltC
 rw [hb]
 show A.find? (fun c => decide (c.name = n)) = none
 rw [List.find?_eq_none]
 intro d hd
 obtain ⟨k,hk,e⟩ := List.mem_iff_getElem.1 hd
 simpa using hlt k d hk (by rw [List.getElem?_eq_getElem hk,e])
theorem Class_r {ok : Nat -> Prop} (rb : Nat) (p : Option Addr) (cap : Nat) (A : List Cls) (n : ByteArray) (w : World) (h : RfW ok w rb p cap A) :
  Calls Tryz.prog 103 #[.pointer (some ⟨rb,0,none⟩),.string n] w (FAns ok A n w) := by
 have HT := hid h
 clear h
 obtain ⟨w0,hw0⟩ : ∃ x,x = w.alloc (.cells #[.string ⟨#[]⟩,.string ⟨#[]⟩,.slice none 0 0,.int .i64 0,.slice none 0 0,.slice none 0 0] 74) := ⟨_,rfl⟩
 have HB0 : Hid (Below w.heap.size w w0) := hid (by rw [hw0]; exact below_alR _ _)
 have hs0 : w0.heap.size = w.heap.size + 1 := by rw [hw0]; simp
 have HX0 : Hid (w0.heap[w.heap.size]? = some (.cells #[.string ⟨#[]⟩,.string ⟨#[]⟩,.slice none 0 0,.int .i64 0,.slice none 0 0,.slice none 0 0] 74 (0,0))) := hid (by rw [hw0]; exact heap_alloc_new _ _)
 cases hbl : bltS n with
 | some s =>
  have HBL := hid hbl
  have HF := hid (find_blt (K := A) hbl)
  have hs : (bltS n).isSome = true := by rw [hbl]; rfl
  clear hbl
  go_enter Tryz.func103,Tryz.ntmps103
  go_wp2_with fail
  rw [<- hw0]
  clear hw0
  refine (Builtin_r n w0).mono ?_
  rw [hs]
  rintro e w1 ⟨rfl,hb1⟩
  have hX1 := (hb1.block _ (by omega)).trans HX0.out
  have hs1 := hb1.size
  have HB1 := hid (HB0.out.trans (hb1.mono (by omega)))
  clear hb1 HX0 hs
  go_wp2_with fail
  refine (superB_r _ n s w1 HBL.out).mono ?_
  rintro e w2 ⟨rfl,hb2⟩
  have hX2 := (hb2.block _ (by omega)).trans hX1
  have hs2 := hb2.size
  have HB2 := hid (HB1.out.trans (hb2.mono (by omega)))
  clear hb2 hX1 HB1
  obtain ⟨xl,xc,xf⟩ := boxN hX2
  have x0 := xc 0 _ rfl
  have z0 := xf 0
  have x1 := xc 1 _ rfl
  have z1 := xf 1
  have x2 := xc 2 _ rfl
  have z2 := xf 2
  have x3 := xc 3 _ rfl
  have z3 := xf 3
  have x4 := xc 4 _ rfl
  have z4 := xf 4
  have x5 := xc 5 _ rfl
  have z5 := xf 5
  simp only [Nat.zero_add] at x0 x1 x2 x3 x4 x5
  clear xc xf
  go_wp2_with fail
  have hk := (set6 (v0 := .string n) (v1 := .string s) (v2 := .slice none 0 0) (v3 := .int .i64 1) (v4 := .slice none 0 0) (v5 := .slice none 0 0) hX2).2
  refine bodyPost_ret (v := .tuple #[.agg #[.string n,.string s,.slice none 0 0,.int .i64 1,.slice none 0 0,.slice none 0 0],.bool true]) (by simp [*,results,Tryz.results103,go_sem]) rfl ?_
  unfold FAns
  rw [HF.out]
  exact ⟨_,_,_,_,_,_,_,_,_,rfl,RdX.nil _ _ _ _,RdX.nil _ _ _ _,RdX.nil _ _ _ _,HB2.out.trans (hk.below (fun x hx => by simp at hx; omega) (by omega))⟩
 | none =>
  have HBL := hid hbl
  have hs : (bltS n).isSome = false := by rw [hbl]; rfl
  clear hbl
  go_enter Tryz.func103,Tryz.ntmps103
  go_wp2_with fail
  rw [<- hw0]
  clear hw0
  refine (Builtin_r n w0).mono ?_
  rw [hs]
  rintro e w1 ⟨rfl,hb1⟩
  have hX1 := (hb1.block _ (by omega)).trans HX0.out
  have hs1 := hb1.size
  have hb01 := HB0.out.trans (hb1.mono (by omega))
  have HB1 := hid hb01
  have HT1 := hid (HT.out.below hb01)
  have HX1 := hid hX1
  clear hb1 hb01 HX0 hs hX1
  have hrl := (Array.getElem?_eq_some_iff.1 HT.out.1).1
  have rne : rb ≠ w.heap.size := by omega
  obtain ⟨rl,rc,-⟩ := boxN HT1.out.1
  have r0 := rc 0 _ rfl
  simp only [Nat.zero_add] at r0
  clear rc
  have hl := HT.out.2.2
  go_wp2_with fail
  go_loopw [6] (fun v wr => ∃ i : Nat,v = .int .i64 (i : Int) /\ i <= A.length /\ Hid (∀ k d,k < i -> A[k]? = some d -> d.name ≠ n) /\ wr = w1) (fun v _ => A.length - (intOf v).toNat)
  case atStart => exact ⟨0,rfl,by omega,hid (fun k d hk => absurd hk (by omega)),rfl⟩
  case round =>
   obtain ⟨i,rfl,hi,HA,hwr⟩ := hrel
   subst hwr
   by_cases hlt : i < A.length
   ·have hlt' : (i : Int) < (A.length : Int) := by omega
    have i0 : (0 : Int) <= (i : Int) := by omega
    have hne : A ≠ [] := by rintro rfl; simp at hlt
    obtain ⟨b,off,hp,-,-,-,hbl,hcells⟩ := HT.out.2.1.place hne
    subst hp
    obtain ⟨c,hc⟩ : ∃ c,A[i]? = some c := ⟨_,List.getElem?_eq_getElem hlt⟩
    obtain ⟨l,⟨vi,vf,vm,rfl,k1,k2,k3⟩,hcell⟩ := hcells i c hc
    obtain ⟨pi,ci,rfl,-⟩ := k1.len
    obtain ⟨pf,cf,rfl,-⟩ := k2.len
    obtain ⟨pm,cm,rfl,-⟩ := k3.len
    have hcell1 := hcell.below HB1.out hbl
    obtain ⟨y0,y1,y2,y3,y4,y5⟩ := hcell1.six
    have bne : b ≠ w.heap.size := by omega
    have hbl1 : b < wr.heap.size := by omega
    clear hcell1
    have HC := hid hc
    have HK1 := hid k1
    have HK2 := hid k2
    have HK3 := hid k3
    clear hcells hcell hc k1 k2 k3 hne
    by_cases e : c.name = n
    ·have et : (c.name.toList == n.toList) = true := Go.Proofs.YtpkjlgdbaajpoaaGreat.txt_eq e
     have HF := hid (find_first HBL.out HC.out e HA.out)
     clear e
     obtain ⟨xl,xc,xf⟩ := boxN HX1.out
     have x0 := xc 0 _ rfl
     have z0 := xf 0
     have x1 := xc 1 _ rfl
     have z1 := xf 1
     have x2 := xc 2 _ rfl
     have z2 := xf 2
     have x3 := xc 3 _ rfl
     have z3 := xf 3
     have x4 := xc 4 _ rfl
     have z4 := xf 4
     have x5 := xc 5 _ rfl
     have z5 := xf 5
     simp only [Nat.zero_add] at x0 x1 x2 x3 x4 x5
     clear xc xf
     have hk := (set6 (v0 := .string c.name) (v1 := .string c.super) (v2 := .slice pi c.ifaces.length ci) (v3 := .int .i64 c.kind) (v4 := .slice pf c.fields.length cf) (v5 := .slice pm c.methods.length cm) HX1.out).2
     have HKK := hid hk
     clear hk
     go_wp2_with fail
     refine bodyPost_ret (v := .tuple #[.agg #[.string c.name,.string c.super,.slice pi c.ifaces.length ci,.int .i64 c.kind,.slice pf c.fields.length cf,.slice pm c.methods.length cm],.bool true]) (by simp [*,results,Tryz.results103,go_sem]) rfl ?_
     unfold FAns
     rw [HF.out]
     exact ⟨_,_,_,_,_,_,_,_,_,rfl,HK1.out,HK2.out,HK3.out,HB1.out.trans (HKK.out.below (fun x hx => by simp at hx; omega) (by omega))⟩
    ·have et : (c.name.toList == n.toList) = false := Go.Proofs.YtpkjlgdbaajpoaaGreat.txt_ne e
     have HA2 : Hid (∀ k d,k < i + 1 -> A[k]? = some d -> d.name ≠ n) := hid (fun k d hk hd => by
      by_cases hki : k = i
      ·subst hki
       rw [HC.out] at hd
       cases hd
       exact e
      ·exact HA.out k d (by omega) hd)
     clear e
     go_wp2_with fail
     go_roundw
     case rel => exact ⟨i + 1,by go_num,by omega,HA2,trivial⟩
     case measure => simp [intOf]; omega
   ·obtain rfl : i = A.length := by omega
    have HF := hid (find_none HBL.out HA.out)
    clear hlt hi
    obtain ⟨xl,xc,xf⟩ := boxN HX1.out
    have x0 := xc 0 _ rfl
    have z0 := xf 0
    have x1 := xc 1 _ rfl
    have z1 := xf 1
    have x2 := xc 2 _ rfl
    have z2 := xf 2
    have x3 := xc 3 _ rfl
    have z3 := xf 3
    have x4 := xc 4 _ rfl
    have z4 := xf 4
    have x5 := xc 5 _ rfl
    have z5 := xf 5
    simp only [Nat.zero_add] at x0 x1 x2 x3 x4 x5
    clear xc xf
    have HKK := hid (set6 (v0 := .string ⟨#[]⟩) (v1 := .string ⟨#[]⟩) (v2 := .slice none 0 0) (v3 := .int .i64 0) (v4 := .slice none 0 0) (v5 := .slice none 0 0) HX1.out).2
    go_wp2_with fail
    refine bodyPost_ret (v := .tuple #[.agg #[.string ⟨#[]⟩,.string ⟨#[]⟩,.slice none 0 0,.int .i64 0,.slice none 0 0,.slice none 0 0],.bool false]) (by simp [*,results,Tryz.results103,go_sem]) rfl ?_
    unfold FAns
    rw [HF.out]
    exact ⟨_,_,_,_,_,_,_,_,_,rfl,RdX.nil _ _ _ _,RdX.nil _ _ _ _,RdX.nil _ _ _ _,HB1.out.trans (HKK.out.below (fun x hx => by simp at hx; omega) (by omega))⟩
theorem Known_r {ok : Nat -> Prop} (rb : Nat) (p : Option Addr) (cap : Nat) (A : List Cls) (n : ByteArray) (w : World) (h : RfW ok w rb p cap A) :
  Calls Tryz.prog 78 #[.pointer (some ⟨rb,0,none⟩),.string n] w fun e w' => e = .returned (.bool (knownT (A.map skOf) n)) /\ Below w.heap.size w w' := by
 go_enter Tryz.func78,Tryz.ntmps78
 go_wp2_with fail
 refine (Class_r rb p cap A n w h).mono ?_
 rintro e w1 ⟨pi,ni,ci,pf,nf,cf,pm,nm,cm,rfl,k1,k2,k3,hb⟩
 have HB := hid hb
 clear hb k1 k2 k3 h
 go_wp2_with fail
 go_ret
 exact ⟨by rw [known_sk]; rfl,HB.out.alloc HB.out.size _⟩
theorem Super_r {ok : Nat -> Prop} (rb : Nat) (p : Option Addr) (cap : Nat) (A : List Cls) (n : ByteArray) (w : World) (h : RfW ok w rb p cap A) :
  Calls Tryz.prog 104 #[.pointer (some ⟨rb,0,none⟩),.string n] w fun e w' => e = .returned (.string (superT (A.map skOf) n)) /\ Below w.heap.size w w' := by
 cases hbl : bltS n with
 | some s =>
  refine (superB_r _ n s w hbl).mono ?_
  rintro e w1 ⟨rfl,hb⟩
  exact ⟨by rw [super_sk,find_blt hbl]; rfl,hb⟩
 | none =>
  have h1 : ¬ n = objT := fun e => by unfold bltS at hbl; rw [if_pos e] at hbl; cases hbl
  have h2 : ¬ n = fltT := fun e => by unfold bltS at hbl; rw [if_neg h1,if_pos e] at hbl; cases hbl
  have e1 : (n.toList == [79,98,106,101,99,116]) = false := by
   rw [show ([79,98,106,101,99,116] : List UInt8) = objT.toList from by decide +kernel]
   exact Go.Proofs.YtpkjlgdbaajpoaaGreat.txt_ne h1
  have e2 : (n.toList == [70,97,117,108,116]) = false := by
   rw [show ([70,97,117,108,116] : List UInt8) = fltT.toList from by decide +kernel]
   exact Go.Proofs.YtpkjlgdbaajpoaaGreat.txt_ne h2
  have hs : (bltS n).isSome = false := by rw [hbl]; rfl
  have HT := hid h
  clear h h1 h2 hbl
  go_enter Tryz.func104,Tryz.ntmps104
  go_wp2_with fail
  refine (Builtin_r n w).mono ?_
  rw [hs]
  rintro e w1 ⟨rfl,hb1⟩
  have HB1 := hid hb1
  clear hb1
  go_wp2_with fail
  refine (Class_r rb p cap A n w1 (HT.out.below HB1.out)).mono ?_
  rintro e w2 ⟨pi,ni,ci,pf,nf,cf,pm,nm,cm,rfl,k1,k2,k3,hb2⟩
  have HB2 := hid (HB1.out.trans (hb2.mono HB1.out.size))
  clear hb2 k1 k2 k3
  go_wp2_with fail
  go_ret
  exact ⟨by rw [super_sk]; rfl,HB2.out.alloc HB2.out.size _⟩
end Go.Proofs.YtpkjlgdbaajpoaaGreat.R
namespace Go.Proofs.YtpkjlgdbaajpoaaGreat.R
open Go.RowKit Go.Proofs.YtpkjlgdbaajpoaaGreat.D Go.Proofs.YtpkjlgdbaajpoaaGreat.O Go.Proofs.YtpkjlgdbaajpoaaGreat.A
theorem Chain_r {ok : Nat -> Prop} (rb : Nat) (p : Option Addr) (cap : Nat) (A : List Cls) (n : ByteArray) (w : World) (h : RfW ok w rb p cap A) :
  Calls Tryz.prog 80 #[.pointer (some ⟨rb,0,none⟩),.string n] w fun e w' => ∃ q c,e = .returned (.slice q (chainT (A.map skOf) n).1.length c) /\ S.OwnC S.cS 9 w' w.heap.size (.slice q (chainT (A.map skOf) n).1.length c) (chainT (A.map skOf) n).1 /\ Below w.heap.size w w' := by
 obtain ⟨R,hR⟩ : ∃ x,chainT (A.map skOf) n = x := ⟨_,rfl⟩
 obtain ⟨T,hT⟩ : ∃ x,A.map skOf = x := ⟨_,rfl⟩
 have HTT := hid hT
 have htl : T.length <= 1000 := by rw [<- hT,List.length_map]; exact h.2.2
 rw [hR]
 rw [hT] at hR
 have HR : Hid (chainF T (T.length + 8) [] n = R) := hid hR
 have HT := hid h
 clear h hT hR
 go_enter Tryz.func80,Tryz.ntmps80
 go_wp2_with fail
 go_loopg [1,5] (T.length + 8) (fun g x v wr => ∃ (m : ByteArray) (l : List ByteArray),x = .string m /\ l.length + g = T.length + 8 /\ Hid (Kn T l) /\ Hid (chainF T g l m = R) /\ Hid (S.OwnC S.cS 9 wr w.heap.size v l /\ Below w.heap.size w wr))
 case atStart => exact ⟨n,[],rfl,by simp,hid (Kn.nil T),HR,hid ⟨S.OwnC.nil _ _,Below.refl _ _⟩⟩
 case round =>
  clear HR
  obtain ⟨m,l,rfl,hlg,HKn,HF,HI⟩ := hrel
  obtain ⟨pv,kv,hv,-⟩ := HI.out.1.rd.form
  subst hv
  have hlen := HKn.out.len
  cases hk : knownT T m with
  | false =>
   have HE : Hid (R = (l,S.hasB l m)) := hid (by rw [<- HF.out]; exact chain_stop (.inl hk))
   go_wp2_with fail
   refine (Known_r rb p cap A m wr (HT.out.below HI.out.2)).mono ?_
   rintro e w2 ⟨rfl,hb2⟩
   rw [HTT.out,hk]
   have HI2 := hid (And.intro (HI.out.1.kpt (S.Kpt.of_below (S := []) hb2) (by simp)) (HI.out.2.trans (hb2.mono HI.out.2.size)))
   clear hb2 HI hk
   go_wp2_with fail
   go_ret
   rw [HE.out]
   exact ⟨_,_,rfl,HI2.out.1,HI2.out.2⟩
  | true =>
   cases hn : S.hasB l m with
   | true =>
    have HE : Hid (R = (l,true)) := hid (by rw [<- HF.out,<- hn]; exact chain_stop (.inr hn))
    go_wp2_with fail
    refine (Known_r rb p cap A m wr (HT.out.below HI.out.2)).mono ?_
    rintro e w2 ⟨rfl,hb2⟩
    rw [HTT.out,hk]
    have HI2 := hid (And.intro (HI.out.1.kpt (S.Kpt.of_below (S := []) hb2) (by simp)) (HI.out.2.trans (hb2.mono HI.out.2.size)))
    clear hb2 HI hk
    go_wp2_with fail
    refine (S.in_S _ l m _ w2 HI2.out.1.rd (by omega)).mono ?_
    rintro e w3 ⟨rfl,rfl⟩
    rw [hn]
    go_wp2_with fail
    go_ret
    rw [HE.out]
    exact ⟨_,_,rfl,HI2.out.1,HI2.out.2⟩
   | false =>
    have hml : m ∉ l := fun hh => by rw [S.hasB_in hh] at hn; cases hn
    have hkn := HKn.out.snoc hk hml
    obtain ⟨g',rfl⟩ : ∃ g',gk = g' + 1 := ⟨gk - 1,by have := hkn.len; rw [List.length_append] at this; simp only [List.length_cons,List.length_nil,Nat.zero_add] at this; omega⟩
    have HF2 : Hid (chainF T g' (l ++ [m]) (superT T m) = R) := hid (by rw [<- HF.out]; exact (chain_next hk hn).symm)
    have HKn2 := hid hkn
    clear hkn HF HKn
    go_wp2_with fail
    refine (Known_r rb p cap A m wr (HT.out.below HI.out.2)).mono ?_
    rintro e w2 ⟨rfl,hb2⟩
    rw [HTT.out,hk]
    have HI2 := hid (And.intro (HI.out.1.kpt (S.Kpt.of_below (S := []) hb2) (by simp)) (HI.out.2.trans (hb2.mono HI.out.2.size)))
    clear hb2 HI hk
    go_wp2_with fail
    refine (S.in_S _ l m _ w2 HI2.out.1.rd (by omega)).mono ?_
    rintro e w3 ⟨rfl,rfl⟩
    rw [hn]
    have hb4 := below_alR w2 (.cells #[.string m] 9)
    have HI4 := hid (And.intro (HI2.out.1.kpt (S.Kpt.of_below (S := []) hb4) (by simp)) (HI2.out.2.trans (hb4.mono HI2.out.2.size)))
    have HX := hid (S.rd_one (c := S.cS) (x := m) (heap_alloc_new w2 (.cells #[.string m] 9)) rfl)
    have HO := hid HI4.out.1
    have hb5 := HI4.out.2.size
    clear HI2 hn hml hb4
    dsimp only [S.cS] at *
    go_wp2_with (at_builtin; refine S.wp_appC S.infS (fun _ => rfl) rfl _ _ rfl w.heap.size _ l rfl HO.out (fun _ => True) _ [m] rfl HX.out (by simp; omega) hb5 ?_)
    intro v6 w6 ho6 hg6 hl6
    have hlt6 := HI4.out.1.lt
    have HI6 : Hid (S.OwnC S.cS 9 w6 w.heap.size v6 (l ++ [m]) /\ Below w.heap.size w w6) := hid ⟨ho6,HI4.out.2.trans ⟨hg6.os,hg6.tape,hg6.output,hg6.size,fun k hk => hg6.block k (Nat.lt_of_lt_of_le hk hb5) (fun e => by have := (hlt6 k e.symm).1; omega)⟩⟩
    clear ho6 hg6 hl6 HI4 HX HO hb5 hlt6
    go_wp2_with fail
    refine (Super_r rb p cap A m w6 (HT.out.below HI6.out.2)).mono ?_
    rintro e w7 ⟨rfl,hb7⟩
    rw [HTT.out]
    have HI7 := hid (And.intro (HI6.out.1.kpt (S.Kpt.of_below (S := []) hb7) (by simp)) (HI6.out.2.trans (hb7.mono HI6.out.2.size)))
    clear hb7 HI6
    go_wp2_with fail
    go_roundg g'
    case measure => omega
    case rel => exact ⟨superT T m,l ++ [m],rfl,by simp; omega,HKn2,HF2,HI7⟩
end Go.Proofs.YtpkjlgdbaajpoaaGreat.R
namespace Go.Proofs.YtpkjlgdbaajpoaaGreat.R
open Go.RowKit Go.Proofs.YtpkjlgdbaajpoaaGreat.D Go.Proofs.YtpkjlgdbaajpoaaGreat.O Go.Proofs.YtpkjlgdbaajpoaaGreat.A
theorem iface_r {ok : Nat -> Prop} (rb : Nat) (p : Option Addr) (cap : Nat) (A : List Cls) (n : ByteArray) (w : World) (h : RfW ok w rb p cap A) :
  Calls Tryz.prog 110 #[.pointer (some ⟨rb,0,none⟩),.string n] w fun e w' => e = .returned (.bool (kindT (A.map skOf) n == 4)) /\ Below w.heap.size w w' := by
 rw [kind_sk]
 go_enter Tryz.func110,Tryz.ntmps110
 go_wp2_with fail
 refine (Class_r rb p cap A n w h).mono ?_
 rintro e w1 ⟨pi,ni,ci,pf,nf,cf,pm,nm,cm,rfl,k1,k2,k3,hb⟩
 have HB := hid hb
 have h0 : (findC A n).isSome = false -> ((findC A n).getD noC).kind = 0 := fun e => by
  cases hf : findC A n with
  | none => rfl
  | some c => rw [hf] at e; cases e
 obtain ⟨kk,hkk⟩ : ∃ x,((findC A n).getD noC).kind = x := ⟨_,rfl⟩
 obtain ⟨bo,hbo⟩ : ∃ x,(findC A n).isSome = x := ⟨_,rfl⟩
 obtain ⟨n1,hn1⟩ : ∃ x,((findC A n).getD noC).name = x := ⟨_,rfl⟩
 obtain ⟨n2,hn2⟩ : ∃ x,((findC A n).getD noC).super = x := ⟨_,rfl⟩
 rw [hkk,hbo] at h0
 have HKK := hid hkk
 rw [hkk,hbo,hn1,hn2]
 clear hb k1 k2 k3 h hkk hbo hn1 hn2
 cases bo with
 | false =>
  have hk0 := h0 rfl
  subst hk0
  clear h0
  go_wp2_with fail
  go_ret
  exact ⟨by rw [HKK.out]; rfl,HB.out.alloc HB.out.size _⟩
 | true =>
  clear h0
  go_wp2_with fail
  go_ret
  exact ⟨by rw [HKK.out]; rfl,HB.out.alloc HB.out.size _⟩
theorem Common_r {ok : Nat -> Prop} (rb : Nat) (p : Option Addr) (cap : Nat) (A : List Cls) (a b : ByteArray) (w : World) (h : RfW ok w rb p cap A) :
  Calls Tryz.prog 93 #[.pointer (some ⟨rb,0,none⟩),.string a,.string b] w fun e w' => e = .returned (.string (commonT (A.map skOf) a b)) /\ Below w.heap.size w w' := by
 obtain ⟨R,hR⟩ : ∃ x,commonT (A.map skOf) a b = x := ⟨_,rfl⟩
 rw [hR]
 unfold commonT at hR
 obtain ⟨T,hT⟩ : ∃ x,A.map skOf = x := ⟨_,rfl⟩
 rw [hT] at hR
 have HTT := hid hT
 have htl : T.length <= 1000 := by rw [<- hT,List.length_map]; exact h.2.2
 have HT := hid h
 have la := (chain_kn T a).len
 have lb := (chain_kn T b).len
 clear h hT
 go_enter Tryz.func93,Tryz.ntmps93
 obtain ⟨bd,hbd⟩ : ∃ x,(!decide (a = b) && ((kindT T a == 4) || (kindT T b == 4))) = x := ⟨_,rfl⟩
 have HBD := hid hbd
 have hRR : R = if bd = true then objT else firstIn (chainT T b).1 (chainT T a).1 := by
  rw [<- hbd,<- hR]
  by_cases hab : a = b
  ·rw [if_pos hab,decide_eq_true hab]; rfl
  ·rw [if_neg hab,decide_eq_false hab]
   by_cases h1 : kindT T a = 4
   ·rw [if_pos h1,beq_iff_eq.2 h1]; rfl
   ·rw [if_neg h1,beq_eq_false_iff_ne.2 h1]
    by_cases h2 : kindT T b = 4
    ·rw [if_pos h2,beq_iff_eq.2 h2]; rfl
    ·rw [if_neg h2,beq_eq_false_iff_ne.2 h2]; rfl
 have HRR := hid hRR
 clear hR hbd hRR
 go_upto_region 1 with fail
 go_cut [22] (fun s wx => s = .bool bd /\ Hid (Below w.heap.size w wx))
 case first =>
  by_cases hab : a = b
  ·have he := Go.Proofs.YtpkjlgdbaajpoaaGreat.txt_eq hab
   have hbf : bd = false := by rw [<- HBD.out,decide_eq_true hab]; rfl
   subst hbf
   clear hab
   go_wp2_with fail
   go_meet
   case rel => exact ⟨rfl,hid (Below.refl _ _)⟩
  ·have he := Go.Proofs.YtpkjlgdbaajpoaaGreat.txt_ne hab
   have hbf : bd = ((kindT T a == 4) || (kindT T b == 4)) := by rw [<- HBD.out,decide_eq_false hab]; rfl
   have HBF := hid hbf
   clear hab hbf
   go_wp2_with fail
   refine (iface_r rb p cap A a w HT.out).mono ?_
   rintro e w1 ⟨rfl,hb1⟩
   rw [HTT.out]
   have HB1 := hid hb1
   clear hb1
   cases ka : (kindT T a == 4) with
   | true =>
    go_wp2_with fail
    go_meet
    case rel => exact ⟨congrArg Value.bool (by rw [HBF.out,ka]; rfl),HB1⟩
   | false =>
    go_wp2_with fail
    refine (iface_r rb p cap A b w1 (HT.out.below HB1.out)).mono ?_
    rintro e w2 ⟨rfl,hb2⟩
    rw [HTT.out]
    have HB2 := hid (HB1.out.trans (hb2.mono HB1.out.size))
    clear hb2
    obtain ⟨kb,hkb⟩ : ∃ x,(kindT T b == 4) = x := ⟨_,rfl⟩
    rw [hkb]
    go_wp2_with fail
    go_meet
    case rel => exact ⟨congrArg Value.bool (by rw [HBF.out,ka,hkb]; rfl),HB2⟩
 case rest =>
  obtain ⟨rfl,HB⟩ := hcut
  clear HBD
  cases bd with
  | true =>
   have hr := HRR.out
   rw [if_pos rfl] at hr
   go_wp2_with fail
   go_ret
   exact ⟨by first | rfl | (rw [hr]; rfl),HB.out⟩
  | false =>
   have hr := HRR.out
   rw [if_neg (by decide)] at hr
   have HR0 : Hid (firstIn (chainT T b).1 ((chainT T a).1.drop 0) = R) := hid (by rw [List.drop_zero,hr])
   clear hr HRR
   go_wp2_with fail
   refine (Chain_r rb p cap A a wc (HT.out.below HB.out)).mono ?_
   rw [HTT.out]
   rintro e w1 ⟨q1,c1,rfl,ho1,hb1⟩
   have HB1 := hid (HB.out.trans (hb1.mono HB.out.size))
   have HO1 := hid ho1
   clear ho1 hb1
   go_wp2_with fail
   refine (Chain_r rb p cap A b w1 (HT.out.below HB1.out)).mono ?_
   rw [HTT.out]
   rintro e w2 ⟨q2,c2,rfl,ho2,hb2⟩
   have HB2 := hid (HB1.out.trans (hb2.mono HB1.out.size))
   have HO2 := hid ho2
   have HX := hid ((HO1.out.kpt (S.Kpt.of_below (S := []) hb2) (by simp)).rd)
   clear ho2 hb2 HO1 HB1 HB
   obtain ⟨lx,hlx⟩ : ∃ l,(chainT T a).1 = l := ⟨_,rfl⟩
   obtain ⟨ly,hly⟩ : ∃ l,(chainT T b).1 = l := ⟨_,rfl⟩
   rw [hlx] at HX HR0 la ⊢
   rw [hly] at HO2 HR0 lb ⊢
   clear hlx hly
   go_wp2_with fail
   go_loopw [9] (fun v wr => ∃ i : Nat,v = .int .i64 (i : Int) /\ i <= lx.length /\ Hid (firstIn ly (lx.drop i) = R) /\ wr = w2) (fun v _ => lx.length - (intOf v).toNat)
   case atStart => exact ⟨0,rfl,by omega,HR0,rfl⟩
   case round =>
    clear HR0
    obtain ⟨i,rfl,hi,HA,hwr⟩ := hrel
    subst hwr
    by_cases hlt : i < lx.length
    ·have hlt' : (i : Int) < (lx.length : Int) := by omega
     have hne : lx ≠ [] := by rintro rfl; simp at hlt
     obtain ⟨bb,off,rfl,hbb,hbl,hc⟩ := HX.out.at hne
     obtain ⟨y,hg⟩ : ∃ y,lx[i]? = some y := ⟨_,List.getElem?_eq_getElem hlt⟩
     have ci := hc i _ hg
     dsimp only [S.cS] at ci
     have hst := first_at (l := ly) hg
     have HST := hid hst
     clear hc hg hne hst
     go_wp2_with fail
     refine (S.in_S _ ly y _ wr HO2.out.rd (by omega)).mono ?_
     rintro e w3 ⟨rfl,rfl⟩
     cases hin : S.hasB ly y with
     | true =>
      have hR := HST.out
      rw [hin,if_pos rfl,HA.out] at hR
      go_wp2_with fail
      go_ret
      exact ⟨by first | rfl | (rw [hR]; rfl),HB2.out⟩
     | false =>
      have hR : Hid (firstIn ly (lx.drop (i + 1)) = R) := hid (by
       have := HST.out
       rw [hin,if_neg (by decide),HA.out] at this
       exact this.symm)
      go_wp2_with fail
      go_roundw
      case rel => exact ⟨i + 1,by go_num,by omega,hR,trivial⟩
      case measure => simp [intOf]; omega
    ·obtain rfl : i = lx.length := by omega
     have hR := HA.out
     rw [List.drop_length] at hR
     go_wp2_with fail
     go_ret
     exact ⟨by first | rfl | (rw [<- hR]; rfl),HB2.out⟩
end Go.Proofs.YtpkjlgdbaajpoaaGreat.R
namespace Go.Proofs.YtpkjlgdbaajpoaaGreat.R
open Go.RowKit Go.Proofs.YtpkjlgdbaajpoaaGreat.D Go.Proofs.YtpkjlgdbaajpoaaGreat.O Go.Proofs.YtpkjlgdbaajpoaaGreat.A
def dfsT (T : List Sk) (out l : List ByteArray) : List ByteArray := closedF T (l.length + costT out T) out l
theorem dfs_nil (T : List Sk) (out : List ByteArray) : dfsT T out [] = out := closed_nil
theorem dfs_skip {T : List Sk} {out l : List ByteArray} {n : ByteArray} (h : knownT T n = false ∨ S.hasB out n = true) : dfsT T out (n :: l) = dfsT T out l := by
 unfold dfsT
 rw [List.length_cons,show l.length + 1 + costT out T = (l.length + costT out T) + 1 by omega,closed_skip h]
theorem dfs_fuel {T : List Sk} : ∀ (F f : Nat) {out l : List ByteArray},f <= F -> l.length + costT out T <= f -> closedF T f out l = dfsT T out l
 | F,0,out,l,_,h => by
  obtain rfl : l = [] := List.length_eq_zero_iff.1 (by omega)
  rw [closed_nil,dfs_nil]
 | 0,f + 1,_,_,hF,_ => by omega
 | F + 1,f + 1,out,[],_,_ => by rw [closed_nil,dfs_nil]
 | F + 1,f + 1,out,n :: l,hF,h => by
  rw [List.length_cons] at h
  by_cases hs : knownT T n = false ∨ S.hasB out n = true
  ·rw [closed_skip hs,dfs_skip hs]
   exact dfs_fuel F f (by omega) (by omega)
  ·have hk : knownT T n = true := by cases e : knownT T n; exact absurd (.inl e) hs; rfl
   have hn : S.hasB out n = false := by cases e : S.hasB out n; rfl; exact absurd (.inr e) hs
   have hc := cost_ifs (T := T) hn
   rw [closed_next hk hn,dfs_fuel F f (by omega) (by rw [List.length_append]; omega)]
   unfold dfsT
   rw [List.length_cons,show l.length + 1 + costT out T = (l.length + costT out T) + 1 by omega,closed_next hk hn]
   exact (dfs_fuel F (l.length + costT out T) (by omega) (by rw [List.length_append]; omega)).symm
theorem dfs_next {T : List Sk} {out l : List ByteArray} {n : ByteArray} (hk : knownT T n = true) (hn : S.hasB out n = false) : dfsT T out (n :: l) = dfsT T (out ++ [n]) (ifsT T n ++ l) := by
 have hc := cost_ifs (T := T) hn
 rw [<- dfs_fuel (T := T) (l.length + costT out T) (l.length + costT out T) (out := out ++ [n]) (l := ifsT T n ++ l) (Nat.le_refl _) (by rw [List.length_append]; omega)]
 unfold dfsT
 rw [List.length_cons,show l.length + 1 + costT out T = (l.length + costT out T) + 1 by omega,closed_next hk hn]
theorem dfs_app {T : List Sk} : ∀ (F : Nat) {out l m : List ByteArray},l.length + costT out T <= F -> dfsT T out (l ++ m) = dfsT T (dfsT T out l) m
 | F,out,[],m,_ => by rw [dfs_nil]; rfl
 | 0,out,n :: l,m,h => by rw [List.length_cons] at h; omega
 | F + 1,out,n :: l,m,h => by
  rw [List.length_cons] at h
  by_cases hs : knownT T n = false ∨ S.hasB out n = true
  ·rw [List.cons_append,dfs_skip hs,dfs_skip hs]
   exact dfs_app F (by omega)
  ·have hk : knownT T n = true := by cases e : knownT T n; exact absurd (.inl e) hs; rfl
   have hn : S.hasB out n = false := by cases e : S.hasB out n; rfl; exact absurd (.inr e) hs
   have hc := cost_ifs (T := T) hn
   rw [List.cons_append,dfs_next hk hn,dfs_next hk hn,<- List.append_assoc]
   exact dfs_app F (by rw [List.length_append]; omega)
theorem dfs_kn {T : List Sk} {out l : List ByteArray} (h : Kn T out) : Kn T (dfsT T out l) := closedF_kn _ h
theorem dfs_drop {T : List Sk} {out l : List ByteArray} {i : Nat} {x : ByteArray} (h : l[i]? = some x) : dfsT T out (l.drop i) = dfsT T (if (knownT T x && !S.hasB out x) = true then dfsT T (out ++ [x]) (ifsT T x) else out) (l.drop (i + 1)) := by
 obtain ⟨hi,rfl⟩ := List.getElem?_eq_some_iff.1 h
 rw [List.drop_eq_getElem_cons hi]
 by_cases hs : knownT T l[i] = false ∨ S.hasB out l[i] = true
 ·rw [dfs_skip hs,if_neg]
  rcases hs with hs | hs <;> rw [hs] <;> simp
 ·have hk : knownT T l[i] = true := by cases e : knownT T l[i]; exact absurd (.inl e) hs; rfl
  have hn : S.hasB out l[i] = false := by cases e : S.hasB out l[i]; rfl; exact absurd (.inr e) hs
  rw [dfs_next hk hn,if_pos (by rw [hk,hn]; rfl)]
  exact dfs_app _ (Nat.le_refl _)
theorem closed_dfs (T : List Sk) (l : List ByteArray) : closedT T l = dfsT T [] l := rfl
end Go.Proofs.YtpkjlgdbaajpoaaGreat.R
namespace Go.Proofs.YtpkjlgdbaajpoaaGreat.R
open Go.RowKit Go.Proofs.YtpkjlgdbaajpoaaGreat.D Go.Proofs.YtpkjlgdbaajpoaaGreat.O Go.Proofs.YtpkjlgdbaajpoaaGreat.A
theorem closedF_len {T : List Sk} : ∀ (f : Nat) {out l : List ByteArray},out.length <= (closedF T f out l).length
 | 0,_,_ => Nat.le_refl _
 | f + 1,out,[] => Nat.le_refl _
 | f + 1,out,n :: l => by
  unfold closedF
  split
  ·exact Nat.le_trans (by rw [List.length_append]; omega) (closedF_len f (out := out ++ [n]))
  ·exact closedF_len f
theorem dfs_len {T : List Sk} {out l : List ByteArray} : out.length <= (dfsT T out l).length := closedF_len _
theorem RfW.belB {B : Nat} {w w' : World} {rb : Nat} {p : Option Addr} {cap : Nat} {A : List Cls} (h : RfW (fun b => b < B) w rb p cap A) (hrb : rb < B) (hb : Below B w w') : RfW (fun b => b < B) w' rb p cap A :=
 ⟨(hb.block rb hrb).trans h.1,h.2.1.step cP.grow (fun _ h _ => h) (fun b hb' _ => hb.block b hb') hb.size,h.2.2⟩
def GrV (w w' : World) (v v' : Value) : Prop := S.Kpt v.ownBlock.toList w w' /\ (v'.ownBlock = v.ownBlock ∨ ∃ g,v'.ownBlock = some g /\ w.heap.size <= g)
theorem GrV.trans {a b c : World} {u v x : Value} (h : GrV a b u v) (k : GrV b c v x) : GrV a c u x := by
 have hz : a.heap.size <= b.heap.size := h.1.size
 refine ⟨h.1.trans k.1 (fun y hy => ?_),?_⟩
 ·have hy' : v.ownBlock = some y := by simpa using hy
  rcases h.2 with e | ⟨g,e,hg⟩
  ·exact .inl (by rw [<- e,hy']; simp)
  ·rw [e] at hy'; cases hy'; exact .inr hg
 ·rcases k.2 with e | ⟨g,e,hg⟩
  ·rw [e]; exact h.2
  ·exact .inr ⟨g,e,by omega⟩
theorem GrV.below {w w' : World} {B : Nat} {v v' : Value} {o : List ByteArray} (h : GrV w w' v v') (hv : S.OwnC S.cS 9 w B v o) (hB : B <= w.heap.size) : Below B w w' := h.1.below (fun x hx => (hv.lt x (by simpa using hx)).1) hB
theorem GrV.of_bel {w w' : World} (v : Value) (hb : Below w.heap.size w w') : GrV w w' v v := ⟨.of_below hb,.inl rfl⟩
theorem behind_r (rb : Nat) (p : Option Addr) (cap : Nat) (A : List Cls) (B : Nat) (hrb : rb < B) (hifs : ∀ s,(ifsT (A.map skOf) s).length <= 1000) : ∀ (D : Nat) (out : List ByteArray) (v : Value) (s : ByteArray) (w : World),B <= w.heap.size -> RfW (fun b => b < B) w rb p cap A -> Kn (A.map skOf) out -> A.length + 8 <= out.length + D -> S.OwnC S.cS 9 w B v out ->
  Calls Tryz.prog 105 #[.pointer (some ⟨rb,0,none⟩),v,.string s] w fun e w' => ∃ v',e = .returned v' /\ S.OwnC S.cS 9 w' B v' (dfsT (A.map skOf) out (ifsT (A.map skOf) s)) /\ GrV w w' v v' := by
 intro D
 induction D with
 | zero =>
  intro out v s w hB hT hK hD ho
  have := hK.len
  rw [List.length_map] at this
  omega
 | succ D ih =>
  intro out v s w hB hT hK hD ho
  have IH := hid ih
  have HT := hid hT
  have HK := hid hK
  have HO := hid ho
  have hA := hT.2.2
  clear ih hT hK
  obtain ⟨pv,kv,hv,-⟩ := ho.rd.form
  subst hv
  clear ho
  have hli := hifs s
  obtain ⟨L,hL⟩ : ∃ x,ifsT (A.map skOf) s = x := ⟨_,rfl⟩
  rw [hL] at hli ⊢
  obtain ⟨R,hR⟩ : ∃ x,dfsT (A.map skOf) out L = x := ⟨_,rfl⟩
  rw [hR]
  have HLE := hid hL
  have HR : Hid (dfsT (A.map skOf) out (L.drop 0) = R) := hid (by rw [List.drop_zero]; exact hR)
  clear hL hR
  go_enter Tryz.func105,Tryz.ntmps105
  go_wp2_with fail
  refine (Class_r rb p cap A s w HT.out).mono ?_
  rintro e w1 ⟨pi,ni,ci,pf,nf,cf,pm,nm,cm,rfl,k1,-,-,hb1⟩
  rw [<- ifs_sk,HLE.out] at k1
  obtain ⟨_,_,e1,-⟩ := k1.len
  simp only [Value.slice.injEq] at e1
  obtain ⟨rfl,rfl,rfl⟩ := e1
  have HK1 := hid k1
  obtain ⟨n1,hn1⟩ : ∃ x,((findC A s).getD noC).name = x := ⟨_,rfl⟩
  obtain ⟨n2,hn2⟩ : ∃ x,((findC A s).getD noC).super = x := ⟨_,rfl⟩
  obtain ⟨kk,hkk⟩ : ∃ x,((findC A s).getD noC).kind = x := ⟨_,rfl⟩
  obtain ⟨bo,hbo⟩ : ∃ x,(findC A s).isSome = x := ⟨_,rfl⟩
  rw [hn1,hn2,hkk,hbo]
  clear hn1 hn2 hkk hbo k1
  obtain ⟨w2,hw2⟩ : ∃ x,x = w1.alloc (.cells #[.string n1,.string n2,.slice pi L.length ci,.int .i64 kk,.slice pf nf cf,.slice pm nm cm] 74) := ⟨_,rfl⟩
  have HX2 : Hid (w2.heap[w1.heap.size]? = some (.cells #[.string n1,.string n2,.slice pi L.length ci,.int .i64 kk,.slice pf nf cf,.slice pm nm cm] 74 (0,0))) := hid (by rw [hw2]; exact heap_alloc_new _ _)
  have hb2 : Below w.heap.size w w2 := by rw [hw2]; exact hb1.trans ((below_alR _ _).mono hb1.size)
  have HG2 := hid (GrV.of_bel (.slice pv out.length kv) hb2)
  have HO2 := hid (HO.out.kpt (S.Kpt.of_below (S := []) hb2) (by simp))
  have HN2 : Hid ((Value.slice pv out.length kv).ownBlock ≠ some w1.heap.size) := hid (fun e => by have := (HO.out.lt _ e).2; have := hb1.size; omega)
  have hgw := hb1.size
  go_upto_region 2 with fail
  rw [<- hw2]
  clear hw2 hb1 hb2
  obtain ⟨gb,hgb⟩ : ∃ x,w1.heap.size = x := ⟨_,rfl⟩
  rw [hgb] at HX2 HN2 hgw ⊢
  clear hgb
  go_wp2_with fail
  go_loopw [1,9] (fun vo vi wr => ∃ (i : Nat) (o : List ByteArray),vi = .int .i64 (i : Int) /\ i <= L.length /\ Hid (Kn (A.map skOf) o /\ out.length <= o.length) /\ Hid (dfsT (A.map skOf) o (L.drop i) = R) /\ Hid (S.OwnC S.cS 9 wr B vo o) /\ Hid (GrV w wr (.slice pv out.length kv) vo) /\ Hid (wr.heap[gb]? = some (.cells #[.string n1,.string n2,.slice pi L.length ci,.int .i64 kk,.slice pf nf cf,.slice pm nm cm] 74 (0,0))) /\ Hid (vo.ownBlock ≠ some gb)) (fun _ vi _ => L.length - (intOf vi).toNat)
  case atStart => exact ⟨0,out,rfl,by omega,hid ⟨HK.out,Nat.le_refl _⟩,HR,HO2,HG2,HX2,HN2⟩
  case round =>
   clear HR HO2 HG2 HX2 HN2
   obtain ⟨i,o,rfl,hi,HKn,HA,HOr,HG,HX,HN⟩ := hrel
   obtain ⟨po,ko,hvo,-⟩ := HOr.out.rd.form
   subst hvo
   have hlo := HKn.out.1.len
   rw [List.length_map] at hlo
   have hBw := HG.out.below HO.out hB
   have hzw := hBw.size
   have HBw := hid hBw
   obtain ⟨xl,xc,-⟩ := boxN HX.out
   have x2 := xc 2 _ rfl
   simp only [Nat.zero_add] at x2
   clear xc hBw
   by_cases hlt : i < L.length
   ·have hlt' : (i : Int) < (L.length : Int) := by omega
    have hne : L ≠ [] := by rintro rfl; simp at hlt
    obtain ⟨bb,off,hp,-,-,hbB,hbl,hc⟩ := HK1.out.at hne
    subst hp
    obtain ⟨y,hg⟩ : ∃ y,L[i]? = some y := ⟨_,List.getElem?_eq_getElem hlt⟩
    obtain ⟨us,hus,hcs⟩ := hc i _ hg
    have hus' : us = strC y := hus
    subst hus'
    have ci0 := hcs 0 _ rfl
    have ci : wr.cell? ⟨bb,off + i,none⟩ = some (.string y) := by
     simp only [Nat.mul_one,Nat.add_zero] at ci0
     rw [<- ci0]
     simp only [World.cell?,HBw.out.block bb hbB]
    have hbl2 : bb < wr.heap.size := by omega
    have HST := hid (dfs_drop (T := A.map skOf) (out := o) hg)
    have HTr := hid (HT.out.belB hrb HBw.out)
    clear hc hg hne hus hcs ci0
    cases hk : knownT (A.map skOf) y with
    | false =>
     have hR : Hid (dfsT (A.map skOf) o (L.drop (i + 1)) = R) := hid (by
      have := HST.out
      rw [hk,HA.out] at this
      exact this.symm)
     go_wp2_with fail
     refine (Known_r rb p cap A y wr HTr.out).mono ?_
     rintro e w3 ⟨rfl,hb3⟩
     rw [hk]
     have HO3 := hid (HOr.out.kpt (S.Kpt.of_below (S := []) hb3) (by simp))
     have HG3 := hid (HG.out.trans (GrV.of_bel _ hb3))
     have HX3 := hid ((hb3.block _ xl).trans HX.out)
     clear hb3 HOr HG HX HA HTr HBw
     go_wp2_with fail
     go_roundw
     case rel => exact ⟨i + 1,o,by go_num,by omega,HKn,hR,HO3,HG3,HX3,HN⟩
     case measure => simp [intOf]; omega
    | true =>
     cases hin : S.hasB o y with
     | true =>
      have hR : Hid (dfsT (A.map skOf) o (L.drop (i + 1)) = R) := hid (by
       have := HST.out
       rw [hk,hin,HA.out] at this
       exact this.symm)
      go_wp2_with fail
      refine (Known_r rb p cap A y wr HTr.out).mono ?_
      rintro e w3 ⟨rfl,hb3⟩
      rw [hk]
      have HO3 := hid (HOr.out.kpt (S.Kpt.of_below (S := []) hb3) (by simp))
      have HG3 := hid (HG.out.trans (GrV.of_bel _ hb3))
      have HX3 := hid ((hb3.block _ xl).trans HX.out)
      clear hb3 HOr HG HX HA HTr HBw
      go_wp2_with fail
      refine (S.in_S _ o y _ w3 HO3.out.rd (by omega)).mono ?_
      rintro e w4 ⟨rfl,rfl⟩
      rw [hin]
      go_wp2_with fail
      go_roundw
      case rel => exact ⟨i + 1,o,by go_num,by omega,HKn,hR,HO3,HG3,HX3,HN⟩
      case measure => simp [intOf]; omega
     | false =>
      have hyo : y ∉ o := fun hh => by rw [S.hasB_in hh] at hin; cases hin
      have hkn := HKn.out.1.snoc hk hyo
      have hR : Hid (dfsT (A.map skOf) (dfsT (A.map skOf) (o ++ [y]) (ifsT (A.map skOf) y)) (L.drop (i + 1)) = R) := hid (by
       have := HST.out
       rw [hk,hin,HA.out] at this
       exact this.symm)
      have HKY := hid hkn
      have HKn2 : Hid (Kn (A.map skOf) (dfsT (A.map skOf) (o ++ [y]) (ifsT (A.map skOf) y)) /\ out.length <= (dfsT (A.map skOf) (o ++ [y]) (ifsT (A.map skOf) y)).length) := hid ⟨dfs_kn hkn,Nat.le_trans HKn.out.2 (Nat.le_trans (by rw [List.length_append]; omega) dfs_len)⟩
      have HD2 : Hid (A.length + 8 <= (o ++ [y]).length + D) := hid (by have := HKn.out.2; simp only [List.length_append,List.length_cons,List.length_nil]; omega)
      clear hyo hkn
      go_wp2_with fail
      refine (Known_r rb p cap A y wr HTr.out).mono ?_
      rintro e w3 ⟨rfl,hb3⟩
      rw [hk]
      have hO3 := HOr.out.kpt (S.Kpt.of_below (S := []) hb3) (by simp)
      have HO3 := hid hO3
      have HG3 := hid (HG.out.trans (GrV.of_bel _ hb3))
      have hX3 := (hb3.block _ xl).trans HX.out
      have hl3 := (Array.getElem?_eq_some_iff.1 hX3).1
      have hb4 := below_alR w3 (.cells #[.string y] 9)
      have HO4 := hid (hO3.kpt (S.Kpt.of_below (S := []) hb4) (by simp))
      have HG4 := hid (HG3.out.trans (GrV.of_bel _ hb4))
      have HX4 := hid ((hb4.block _ hl3).trans hX3)
      have HXx := hid (S.rd_one (c := S.cS) (x := y) (heap_alloc_new w3 (.cells #[.string y] 9)) rfl)
      have hz3 := hb3.size
      have hb5 : B <= (w3.alloc (.cells #[.string y] 9)).heap.size := by simp; omega
      have hl4 : gb < (w3.alloc (.cells #[.string y] 9)).heap.size := by simp; omega
      have HL4 := hid hl4
      clear hb3 hb4 hO3 hX3 hl3 hl4 HOr HG HX HA HTr HBw
      go_wp2_with fail
      refine (S.in_S _ o y _ w3 HO3.out.rd (by omega)).mono ?_
      rintro e w4 ⟨rfl,rfl⟩
      rw [hin]
      clear HO3 HG3
      dsimp only [S.cS] at *
      go_wp2_with (at_builtin; refine S.wp_appC S.infS (fun _ => rfl) rfl _ _ rfl B _ o rfl HO4.out (fun _ => True) _ [y] rfl HXx.out (by simp; omega) hb5 ?_)
      intro v6 w6 ho6 hg6 hl6
      have hl6' : v6.ownBlock = (Value.slice po o.length ko).ownBlock ∨ v6.ownBlock = some (w3.alloc (.cells #[.string y] 9)).heap.size := by simpa using hl6
      have hG6 : GrV (w3.alloc (.cells #[.string y] 9)) w6 (.slice po o.length ko) v6 := ⟨.of_grown hg6 (fun g e => .inl (by rw [e]; simp)),hl6'.imp id (fun e => ⟨_,e,Nat.le_refl _⟩)⟩
      have HG6 := hid (HG4.out.trans hG6)
      have hX6 := (hg6.block gb HL4.out (fun e => HN.out e.symm)).trans HX4.out
      have HX6 := hid hX6
      have HN6 : Hid (v6.ownBlock ≠ some gb) := hid (fun e => by
       rcases hl6' with e' | e'
       ·exact HN.out (by rw [<- e']; exact e)
       ·rw [e'] at e
        cases e
        have := HL4.out
        omega)
      have HO6 := hid ho6
      have hB6 : B <= w6.heap.size := Nat.le_trans hb5 hg6.size
      have HT6 := hid (HT.out.belB hrb (HG6.out.below HO.out hB))
      obtain ⟨p6,n6,c6,hv6⟩ := ho6.slice
      subst hv6
      clear ho6 hg6 hl6 hl6' hG6 hX6 HG4 HO4 HX4 HXx hb5
      go_wp2_with fail
      refine (IH.out (o ++ [y]) _ y w6 hB6 HT6.out HKY.out HD2.out HO6.out).mono ?_
      rintro e w7 ⟨v7,rfl,ho7,hg7⟩
      have HO7 := hid ho7
      have HG7 := hid (HG6.out.trans hg7)
      have hl6 := (Array.getElem?_eq_some_iff.1 HX6.out).1
      have HX7 := hid ((hg7.1.2 gb hl6 (fun hm => HN6.out (by simpa using hm))).trans HX6.out)
      have HN7 : Hid (v7.ownBlock ≠ some gb) := hid (fun e => by
       rcases hg7.2 with e' | ⟨g,e',hge⟩
       ·exact HN6.out (by rw [<- e']; exact e)
       ·rw [e'] at e
        cases e
        omega)
      clear ho7 hg7 hl6 HG6 HO6 HX6 HN6
      go_wp2_with fail
      go_roundw
      case rel => exact ⟨i + 1,_,by go_num,by omega,HKn2,hR,HO7,HG7,HX7,HN7⟩
      case measure => simp [intOf]; omega
   ·obtain rfl : i = L.length := by omega
    have hR := HA.out
    rw [List.drop_length,dfs_nil] at hR
    subst hR
    go_wp2_with fail
    go_ret
    exact ⟨_,rfl,HOr.out,HG.out⟩
end Go.Proofs.YtpkjlgdbaajpoaaGreat.R
namespace Go.Proofs.YtpkjlgdbaajpoaaGreat.R
open Go.RowKit Go.Proofs.YtpkjlgdbaajpoaaGreat.D Go.Proofs.YtpkjlgdbaajpoaaGreat.O Go.Proofs.YtpkjlgdbaajpoaaGreat.A
theorem RfW.own {ok : Nat -> Prop} {w : World} {rb : Nat} {p : Option Addr} {cap : Nat} {A : List Cls} (h : RfW ok w rb p cap A) : RfW (fun b => b < w.heap.size) w rb p cap A :=
 ⟨h.1,h.2.1.step cP.grow (fun _ _ hl => hl) (fun _ _ _ => rfl) (Nat.le_refl _),h.2.2⟩
theorem flat_drop {T : List Sk} {l : List ByteArray} {i : Nat} {x : ByteArray} (h : l[i]? = some x) : (l.drop i).flatMap (ifsT T) = ifsT T x ++ (l.drop (i + 1)).flatMap (ifsT T) := by
 obtain ⟨hi,rfl⟩ := List.getElem?_eq_some_iff.1 h
 rw [List.drop_eq_getElem_cons hi]
 rfl
theorem Ifaces_r {ok : Nat -> Prop} (rb : Nat) (p : Option Addr) (cap : Nat) (A : List Cls) (n : ByteArray) (w : World) (h : RfW ok w rb p cap A) (hifs : ∀ s,(ifsT (A.map skOf) s).length <= 1000) :
  Calls Tryz.prog 81 #[.pointer (some ⟨rb,0,none⟩),.string n] w fun e w' => ∃ v,e = .returned v /\ S.OwnC S.cS 9 w' w.heap.size v (ifacesT (A.map skOf) n) /\ Below w.heap.size w w' := by
 obtain ⟨R,hR⟩ : ∃ x,ifacesT (A.map skOf) n = x := ⟨_,rfl⟩
 rw [hR]
 unfold ifacesT wideT at hR
 rw [closed_dfs] at hR
 have HT := hid h
 have hA := h.2.2
 have hrb := (Array.getElem?_eq_some_iff.1 h.1).1
 have la := (chain_kn (A.map skOf) n).len
 rw [List.length_map] at la
 clear h
 go_enter Tryz.func81,Tryz.ntmps81
 go_wp2_with fail
 refine (Chain_r rb p cap A n w HT.out).mono ?_
 rintro e w1 ⟨q1,c1,rfl,ho1,hb1⟩
 have HB1 := hid hb1
 have HX := hid ho1.rd
 have hz1 := hb1.size
 have HT1 := hid ((HT.out.below hb1).own)
 have hlx0 := ho1.lt
 have HLT := hid hlx0
 clear ho1 hb1 hlx0
 obtain ⟨lx,hlx⟩ : ∃ l,(chainT (A.map skOf) n).1 = l := ⟨_,rfl⟩
 rw [hlx] at hR HX la HLT ⊢
 have HR : Hid (dfsT (A.map skOf) [] ((lx.drop 0).flatMap (ifsT (A.map skOf))) = R) := hid (by rw [List.drop_zero]; exact hR)
 clear hlx hR
 go_wp2_with fail
 go_loopw [5,7] (fun vo vi wr => ∃ (i : Nat) (o : List ByteArray),vi = .int .i64 (i : Int) /\ i <= lx.length /\ Hid (Kn (A.map skOf) o) /\ Hid (dfsT (A.map skOf) o ((lx.drop i).flatMap (ifsT (A.map skOf))) = R) /\ Hid (S.OwnC S.cS 9 wr w1.heap.size vo o) /\ Hid (Below w1.heap.size w1 wr)) (fun _ vi _ => lx.length - (intOf vi).toNat)
 case atStart => exact ⟨0,[],rfl,by omega,hid (Kn.nil _),HR,hid (S.OwnC.nil _ _),hid (Below.refl _ _)⟩
 case round =>
  clear HR
  obtain ⟨i,o,rfl,hi,HKn,HA,HOr,HB⟩ := hrel
  obtain ⟨po,ko,hvo,-⟩ := HOr.out.rd.form
  subst hvo
  have hzw := HB.out.size
  by_cases hlt : i < lx.length
  ·have hlt' : (i : Int) < (lx.length : Int) := by omega
   have hne : lx ≠ [] := by rintro rfl; simp at hlt
   obtain ⟨bb,off,hp,hbb,hbl,hc⟩ := HX.out.at hne
   subst hp
   obtain ⟨y,hg⟩ : ∃ y,lx[i]? = some y := ⟨_,List.getElem?_eq_getElem hlt⟩
   have ci0 := hc i _ hg
   dsimp only [S.cS] at ci0
   have ci : wr.cell? ⟨bb,off + i,none⟩ = some (.string y) := by
    rw [<- ci0]
    simp only [World.cell?,HB.out.block bb hbl]
   have hbl2 : bb < wr.heap.size := by omega
   have hR : Hid (dfsT (A.map skOf) (dfsT (A.map skOf) o (ifsT (A.map skOf) y)) ((lx.drop (i + 1)).flatMap (ifsT (A.map skOf))) = R) := hid (by
    have := HA.out
    rw [flat_drop hg,dfs_app _ (Nat.le_refl _)] at this
    exact this)
   have hrb1 : rb < w1.heap.size := by omega
   have HTr := hid (HT1.out.belB hrb1 HB.out)
   have HKn2 : Hid (Kn (A.map skOf) (dfsT (A.map skOf) o (ifsT (A.map skOf) y))) := hid (dfs_kn HKn.out)
   clear hc hg hne ci0
   go_wp2_with fail
   refine (behind_r rb p cap A w1.heap.size hrb1 hifs (A.length + 8) o _ y wr hzw HTr.out HKn.out (by omega) HOr.out).mono ?_
   rintro e w3 ⟨v3,rfl,ho3,hg3⟩
   have HO3 := hid ho3
   have HB3 := hid (HB.out.trans (hg3.below HOr.out hzw))
   clear ho3 hg3 HOr HB HA HTr
   go_wp2_with fail
   go_roundw
   case rel => exact ⟨i + 1,_,by go_num,by omega,HKn2,hR,HO3,HB3⟩
   case measure => simp [intOf]; omega
  ·obtain rfl : i = lx.length := by omega
   have hR := HA.out
   rw [List.drop_length] at hR
   have hR2 : o = R := by rw [<- hR]; exact (dfs_nil _ _).symm
   subst hR2
   clear hR
   go_wp2_with fail
   go_ret
   exact ⟨_,rfl,HOr.out.mono hz1,HB1.out.trans (HB.out.mono hz1)⟩
theorem Sub_r {ok : Nat -> Prop} (rb : Nat) (p : Option Addr) (cap : Nat) (A : List Cls) (a b : ByteArray) (w : World) (h : RfW ok w rb p cap A) (hifs : ∀ s,(ifsT (A.map skOf) s).length <= 1000) :
  Calls Tryz.prog 49 #[.pointer (some ⟨rb,0,none⟩),.string a,.string b] w fun e w' => e = .returned (.bool (subT (A.map skOf) a b)) /\ Below w.heap.size w w' := by
 obtain ⟨R,hR⟩ : ∃ x,subT (A.map skOf) a b = x := ⟨_,rfl⟩
 rw [hR]
 unfold subT at hR
 have HT := hid h
 have hA := h.2.2
 have la := (chain_kn (A.map skOf) a).len
 have li : (ifacesT (A.map skOf) a).length <= (A.map skOf).length + 7 := (closed_kn _ _).len
 rw [List.length_map] at la li
 clear h
 go_enter Tryz.func49,Tryz.ntmps49
 go_wp2_with fail
 refine (Known_r rb p cap A a w HT.out).mono ?_
 rintro e w1 ⟨rfl,hb1⟩
 have HB1 := hid hb1
 clear hb1
 cases ka : knownT (A.map skOf) a with
 | false =>
  rw [ka,if_neg (by decide)] at hR
  subst hR
  go_wp2_with fail
  go_ret
  exact ⟨rfl,HB1.out⟩
 | true =>
  rw [ka,if_pos rfl] at hR
  have HRR := hid hR
  clear hR
  go_wp2_with fail
  refine (Known_r rb p cap A b w1 (HT.out.below HB1.out)).mono ?_
  rintro e w2 ⟨rfl,hb2⟩
  have HB2 := hid (HB1.out.trans (hb2.mono HB1.out.size))
  clear hb2
  have hR := HRR.out
  cases kb : knownT (A.map skOf) b with
  | false =>
   rw [kb,if_neg (by decide)] at hR
   subst hR
   clear HRR
   go_wp2_with fail
   go_ret
   exact ⟨rfl,HB2.out⟩
  | true =>
   rw [kb,if_pos rfl] at hR
   clear HRR
   by_cases hab : a = b
   ·rw [if_pos hab] at hR
    subst hR
    have et : (a.toList == b.toList) = true := Go.Proofs.YtpkjlgdbaajpoaaGreat.txt_eq hab
    clear hab
    go_wp2_with fail
    go_ret
    exact ⟨rfl,HB2.out⟩
   ·rw [if_neg hab] at hR
    have et : (a.toList == b.toList) = false := Go.Proofs.YtpkjlgdbaajpoaaGreat.txt_ne hab
    clear hab
    by_cases hob : b = objT
    ·rw [if_pos hob] at hR
     subst hR
     have eo : (b.toList == [79,98,106,101,99,116]) = true := by rw [hob]; decide +kernel
     clear hob
     go_wp2_with fail
     go_ret
     exact ⟨rfl,HB2.out⟩
    ·rw [if_neg hob] at hR
     have eo : (b.toList == [79,98,106,101,99,116]) = false := by
      rw [show ([79,98,106,101,99,116] : List UInt8) = objT.toList from by decide +kernel]
      exact Go.Proofs.YtpkjlgdbaajpoaaGreat.txt_ne hob
     have HRR := hid hR
     clear hob hR
     go_wp2_with fail
     refine (Chain_r rb p cap A a w2 (HT.out.below HB2.out)).mono ?_
     rintro e w3 ⟨q,c,rfl,ho3,hb3⟩
     have HO3 := hid ho3.rd
     have HB3 := hid (HB2.out.trans (hb3.mono HB2.out.size))
     clear ho3 hb3
     go_wp2_with fail
     refine (S.in_S _ _ b _ w3 HO3.out (by omega)).mono ?_
     rintro e w4 ⟨rfl,rfl⟩
     have hR := HRR.out
     cases hin : S.hasB (chainT (A.map skOf) a).1 b with
     | true =>
      rw [hin,Bool.true_or] at hR
      subst hR
      clear HRR
      go_wp2_with fail
      go_ret
      exact ⟨rfl,HB3.out⟩
     | false =>
      rw [hin,Bool.false_or] at hR
      clear HRR
      have HRR := hid hR
      clear hR
      go_wp2_with fail
      refine (Ifaces_r rb p cap A a w3 (HT.out.below HB3.out) hifs).mono ?_
      rintro e w5 ⟨v5,rfl,ho5,hb5⟩
      have HO5 := hid ho5.rd
      have HB5 := hid (HB3.out.trans (hb5.mono HB3.out.size))
      obtain ⟨p5,n5,c5,hv5⟩ := ho5.slice
      subst hv5
      clear ho5 hb5
      go_wp2_with fail
      refine (S.in_S _ _ b _ w5 HO5.out (by omega)).mono ?_
      rintro e w6 ⟨rfl,rfl⟩
      rw [HRR.out]
      go_wp2_with fail
      go_ret
      exact ⟨rfl,HB5.out⟩
end Go.Proofs.YtpkjlgdbaajpoaaGreat.R
