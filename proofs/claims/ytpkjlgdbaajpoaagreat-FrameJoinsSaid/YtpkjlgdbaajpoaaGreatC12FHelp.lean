/- Texts that the proof is made of, joined. No condition. -/
import Derived.Test.YtpkjlgdbaajpoaaGreatC12FOpen
import Derived.Test.YtpkjlgdbaajpoaaGreatC121
import Derived.Test.YtpkjlgdbaajpoaaGreatC122
import Derived.Test.YtpkjlgdbaajpoaaGreatC123
import Derived.Deep.DeepCutAuto
import Derived.Deep.CutBlock
import Derived.Test.YtpkjlgdbaajpoaaGreatC12H
set_option linter.unusedVariables false
set_option linter.unusedSimpArgs false
set_option maxRecDepth 100000
set_option maxHeartbeats 16000000
namespace Go.Proofs.YtpkjlgdbaajpoaaGreat.R
open Go.RowKit Go.Proofs.YtpkjlgdbaajpoaaGreat.D Go.Proofs.YtpkjlgdbaajpoaaGreat.O Go.Proofs.YtpkjlgdbaajpoaaGreat.A
theorem blk_h {W W' : World} {g : Nat} {o : Obj} (h : W.heap[g]? = some o) (hb : Below W.heap.size W W') : W'.heap[g]? = some o := (hb.block _ (Array.getElem?_eq_some_iff.1 h).1).trans h
def HelpOk (P : List Ty) (loc : Int) (b : Bool) : Prop := b = true -> P.length <= 10 /\ loc <= 1000 /\ ∀ t ∈ P,t.2.size <= 100
def HelpPost (P : List Ty) (loc : Int) (w : World) (e : Ending) (w' : World) : Prop := ∃ b,e = .returned (.bool b) /\ HelpOk P loc b /\ Below w.heap.size w w'
theorem help_mk {P : List Ty} {loc : Int} {w : World} {e : Ending} {w' : World} (b : Bool) (h : e = .returned (.bool b)) (k : HelpOk P loc b) (hb : Below w.heap.size w w') : HelpPost P loc w e w' := ⟨b,h,k,hb⟩
theorem help_no (P : List Ty) (loc : Int) : HelpOk P loc false := fun h => by cases h
def InsPost (w : World) (e : Ending) (w' : World) : Prop := ∃ b,e = .returned (.bool b) /\ Below w.heap.size w w'
theorem ins_mk {w : World} {e : Ending} {w' : World} {b : Bool} (h : e = .returned (.bool b)) (hb : Below w.heap.size w w') : InsPost w e w' := ⟨b,h,hb⟩
theorem inst_12 (x : Ins) (w : World) : Calls Tryz.prog 23 #[.agg #[.int .i64 x.1,.int .i32 x.2.1,.int .i64 x.2.2.1,.string x.2.2.2.1,.string x.2.2.2.2.1,.string x.2.2.2.2.2.1,.string x.2.2.2.2.2.2]] w (InsPost w) := by
 obtain ⟨x1,x2,x3,x4,x5,x6,x7⟩ := x
 go_enter Tryz.func23,Tryz.ntmps23
 go_wp2_with fail
 go_ret
 exact ins_mk rfl ((Below.refl _ _).alloc (Nat.le_refl _) _)
theorem help_12 (v : Value) (m : Mth) (w : World) (h : RdM w v m) : Calls Tryz.prog 8 #[v] w (HelpPost m.params m.locals w) := by
 obtain ⟨vp,vc,vh,rfl,hp,hc,hh⟩ := h
 obtain ⟨pp,cp,rfl,-⟩ := hp.len
 obtain ⟨pc,cc,rfl,-⟩ := hc.len
 obtain ⟨ph,ch,rfl,-⟩ := hh.len
 obtain ⟨nm,P,⟨rk,rs⟩,st,ab,loc,C,H⟩ := m
 dsimp only at hp hc hh ⊢
 obtain ⟨wn,hwn⟩ : ∃ x,x = w.alloc (.cells #[.string nm,.slice pp P.length cp,.int .i64 rk,.string rs,.bool st,.bool ab,.int .i64 loc,.slice pc C.length cc,.slice ph H.length ch] 30) := ⟨_,rfl⟩
 have HB : Hid (Below w.heap.size w wn) := hid (by rw [hwn]; exact (Below.refl _ _).alloc (Nat.le_refl _) _)
 have HM : Hid (wn.heap[w.heap.size]? = some (.cells #[.string nm,.slice pp P.length cp,.int .i64 rk,.string rs,.bool st,.bool ab,.int .i64 loc,.slice pc C.length cc,.slice ph H.length ch] 30 (0,0))) := hid (by rw [hwn]; exact heap_alloc_new _ _)
 have HP := hid (hp.any (sP.grow _) HB.out)
 have HC := hid (hc.any (sP.grow _) HB.out)
 have HH := hid (hh.any (sP.grow _) HB.out)
 clear hp hc hh
 go_enter Tryz.func8,Tryz.ntmps8
 go_upto_region 1 with fail
 rw [<- hwn]
 clear hwn
 obtain ⟨g,hg⟩ : ∃ z,w.heap.size = z := ⟨_,rfl⟩
 rw [hg] at HM ⊢
 clear hg
 obtain ⟨ml,mc,-⟩ := boxN HM.out
 have m0 := mc 0 _ rfl
 have m1 := mc 1 _ rfl
 have m2 := mc 2 _ rfl
 have m3 := mc 3 _ rfl
 have m4 := mc 4 _ rfl
 have m5 := mc 5 _ rfl
 have m6 := mc 6 _ rfl
 have m7 := mc 7 _ rfl
 have m8 := mc 8 _ rfl
 simp only [Nat.zero_add] at m0 m1 m2 m3 m4 m5 m6 m7 m8
 clear mc
 by_cases z0 : (200 : Int) < wrap64 ((nm.size : Int) + (rs.size : Int))
 ·go_wp2_with fail
  go_ret
  exact help_mk false rfl (help_no _ _) HB.out
 by_cases z1 : (10 : Int) < (P.length : Int)
 ·go_wp2_with fail
  go_ret
  exact help_mk false rfl (help_no _ _) HB.out
 by_cases z2 : (30 : Int) < (C.length : Int)
 ·go_wp2_with fail
  go_ret
  exact help_mk false rfl (help_no _ _) HB.out
 by_cases z3 : (6 : Int) < (H.length : Int)
 ·go_wp2_with fail
  go_ret
  exact help_mk false rfl (help_no _ _) HB.out
 by_cases z4 : (1000 : Int) < loc
 ·go_wp2_with fail
  go_ret
  exact help_mk false rfl (help_no _ _) HB.out
 have HZ : Hid (P.length <= 10 /\ C.length <= 30 /\ H.length <= 6 /\ loc <= 1000) := hid (by omega)
 go_wp2_with fail
 clear m0 m1 m2 m3 m4 m5 m6 m7 m8 ml
 have HW : Hid (Below wn.heap.size wn wn) := hid (Below.refl _ _)
 have HQ : Hid (∀ t ∈ P.take 0,t.2.size <= 100) := hid (fun t ht => by simp at ht)
 go_loopw [3] (fun v wr => ∃ i : Nat,v = .int .i64 (i : Int) /\ i <= P.length /\ Hid (∀ t ∈ P.take i,t.2.size <= 100) /\ wr = wn) (fun x _ => P.length - (intOf x).toNat)
 case atStart => exact ⟨0,rfl,by omega,HQ,rfl⟩
 case round =>
  clear HQ
  obtain ⟨i,rfl,hin,HQ,hwr⟩ := hrel
  subst hwr
  obtain ⟨ml,mc,-⟩ := boxN HM.out
  have m1 := mc 1 _ rfl
  have m8 := mc 8 _ rfl
  have m7 := mc 7 _ rfl
  simp only [Nat.zero_add] at m1 m8 m7
  clear mc
  by_cases hlt : i < P.length
  ·have hlt' : (i : Int) < (P.length : Int) := by omega
   have hl10 := HZ.out.1
   obtain ⟨⟨xk,xs⟩,hx⟩ : ∃ x,P[i]? = some x := ⟨_,List.getElem?_eq_getElem hlt⟩
   obtain ⟨ba,oa,rfl,-,-,-,hga,hcca⟩ := HP.out.place (fun e => by rw [e] at hlt; simp at hlt)
   obtain ⟨x0,x1⟩ := (sP_at (hcca i _ hx)).two
   by_cases hb : (100 : Int) < (xs.size : Int)
   ·clear hx hcca
    go_wp2_with fail
    go_ret
    exact help_mk false rfl (help_no _ _) HB.out
   ·have HN : Hid (∀ t ∈ P.take (i + 1),t.2.size <= 100) := hid (by
     rw [List.take_add_one,hx]
     intro t ht
     rcases List.mem_append.1 ht with ht | ht
     ·exact HQ.out t ht
     ·simp at ht
      subst ht
      show xs.size <= 100
      omega)
    clear hx hcca
    go_wp2_with fail
    go_roundw
    case rel => exact ⟨i + 1,by go_num,by omega,HN,by first | rfl | trivial⟩
    case measure => simp [intOf]; omega
  ·obtain rfl : i = P.length := by omega
   have hlt' : ¬ (P.length : Int) < (P.length : Int) := by omega
   have HPS : Hid (∀ t ∈ P,t.2.size <= 100) := hid (by have := HQ.out; rwa [List.take_length] at this)
   clear HQ
   go_wp2_with fail
   clear m1 m8 m7 ml
   go_loopw [4] (fun v wx => ∃ i : Nat,v = .int .i64 (i : Int) /\ i <= C.length /\ Hid (Below wr.heap.size wr wx)) (fun x _ => C.length - (intOf x).toNat)
   case atStart => exact ⟨0,rfl,by omega,HW⟩
   case round =>
    clear HW
    obtain ⟨i,rfl,hin,HW⟩ := hrel
    obtain ⟨ml,mc,-⟩ := boxN (blk_h HM.out HW.out)
    have m1 := mc 1 _ rfl
    have m8 := mc 8 _ rfl
    have m7 := mc 7 _ rfl
    simp only [Nat.zero_add] at m1 m8 m7
    clear mc
    by_cases hlt : i < C.length
    ·have hlt' : (i : Int) < (C.length : Int) := by omega
     have hl10 := HZ.out.2.1
     obtain ⟨x,hx⟩ : ∃ x,C[i]? = some x := ⟨_,List.getElem?_eq_getElem hlt⟩
     obtain ⟨ba,oa,rfl,-,-,-,hga,hcca⟩ := (HC.out.any (sP.grow _) HW.out).place (fun e => by rw [e] at hlt; simp at hlt)
     obtain ⟨x0,x1,x2,x3,x4,x5,x6⟩ := (sP_at (hcca i _ hx)).seven
     clear hx hcca
     go_wp2_with fail
     clear x0 x1 x2 x3 x4 x5 x6 m1 m8 m7 ml
     refine (inst_12 x _).mono ?_
     rintro e wy ⟨b,rfl,hbn⟩
     replace HW := hid (HW.out.trans (hbn.mono HW.out.size))
     clear hbn
     cases b with
     | false =>
      go_wp2_with fail
      go_ret
      exact help_mk false rfl (help_no _ _) (HB.out.trans (HW.out.mono HB.out.size))
     | true =>
      go_wp2_with fail
      go_roundw
      case rel => exact ⟨i + 1,by go_num,by omega,HW⟩
      case measure => simp [intOf]; omega
    ·obtain rfl : i = C.length := by omega
     have hlt' : ¬ (C.length : Int) < (C.length : Int) := by omega
     go_wp2_with fail
     clear m1 m8 m7 ml
     obtain ⟨wo,hwo⟩ : ∃ z,z = wr := ⟨_,rfl⟩
     rw [<- hwo] at HW ⊢
     clear hwo
     go_loopw [5] (fun v wx => ∃ i : Nat,v = .int .i64 (i : Int) /\ i <= H.length /\ wx = wo) (fun x _ => H.length - (intOf x).toNat)
     case atStart => exact ⟨0,rfl,by omega,rfl⟩
     case round =>
      obtain ⟨i,rfl,hin,hwr⟩ := hrel
      subst hwr
      obtain ⟨ml,mc,-⟩ := boxN (blk_h HM.out HW.out)
      have m1 := mc 1 _ rfl
      have m8 := mc 8 _ rfl
      have m7 := mc 7 _ rfl
      simp only [Nat.zero_add] at m1 m8 m7
      clear mc
      by_cases hlt : i < H.length
      ·have hlt' : (i : Int) < (H.length : Int) := by omega
       have hl10 := HZ.out.2.2.1
       obtain ⟨⟨xa,xb,xc,xs⟩,hx⟩ : ∃ x,H[i]? = some x := ⟨_,List.getElem?_eq_getElem hlt⟩
       obtain ⟨ba,oa,rfl,-,-,-,hga,hcca⟩ := (HH.out.any (sP.grow _) HW.out).place (fun e => by rw [e] at hlt; simp at hlt)
       obtain ⟨x0,x1,x2,x3⟩ := (sP_at (hcca i _ hx)).four
       clear hx hcca
       by_cases hb : (100 : Int) < (xs.size : Int)
       ·go_wp2_with fail
        go_ret
        exact help_mk false rfl (help_no _ _) (HB.out.trans (HW.out.mono HB.out.size))
       ·go_wp2_with fail
        go_roundw
        case rel => exact ⟨i + 1,by go_num,by omega,by first | rfl | trivial⟩
        case measure => simp [intOf]; omega
      ·obtain rfl : i = H.length := by omega
       have hlt' : ¬ (H.length : Int) < (H.length : Int) := by omega
       go_wp2_with fail
       go_ret
       exact help_mk true rfl (fun _ => ⟨HZ.out.1,HZ.out.2.2.2,HPS.out⟩) (HB.out.trans (HW.out.mono HB.out.size))
end Go.Proofs.YtpkjlgdbaajpoaaGreat.R
