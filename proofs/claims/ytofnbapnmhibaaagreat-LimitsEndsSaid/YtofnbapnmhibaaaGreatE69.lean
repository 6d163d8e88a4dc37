/- Texts that the proof is made of, joined. No condition. -/
import Derived.Test.YtofnbapnmhibaaaGreatE68
import Derived.Test.YtofnbapnmhibaaaGreatE6H
set_option linter.unusedVariables false
set_option linter.unusedSimpArgs false
set_option maxRecDepth 100000
set_option maxHeartbeats 16000000
namespace Go.Proofs.YtofnbapnmhibaaaGreat.A
open Go.RowKit Go.Proofs.YtofnbapnmhibaaaGreat.D Go.Proofs.YtofnbapnmhibaaaGreat.O
abbrev okX (ok : Nat -> Prop) (X : Nat) : Nat -> Prop := fun b => ok b ∨ b = X
def Sit (w : World) (ok : Nat -> Prop) (X : Nat) (vs : List Value) (wb pb mb : Nat) (st : WS) (w0 : World) : Prop :=
 Wt w (okX ok X) wb pb mb st /\ (∀ x,okX ok X x -> x < w.heap.size) /\ CellsAt w X 0 vs /\ Fr ok w0 w
theorem cells_new (w : World) (vs : List Value) (T : TypeId) : CellsAt (w.alloc (.cells vs.toArray T)) w.heap.size 0 vs := by
 intro j u hu
 simp [hu]
theorem Sit.start {w : World} {ok : Nat -> Prop} {wb pb mb : Nat} {st : WS} (vs : List Value) (T : TypeId) (h : Wt w ok wb pb mb st) (hok : ∀ x,ok x -> x < w.heap.size) : Sit (w.alloc (.cells vs.toArray T)) ok w.heap.size vs wb pb mb st w := by
 have hb : Below w.heap.size w (w.alloc (.cells vs.toArray T)) := (Below.refl _ _).alloc (Nat.le_refl _) _
 refine ⟨h.below hb (fun _ hx => hx.imp id (fun e => by omega)),fun x hx => ?_,cells_new _ _ _,.of_below hb⟩
 rcases hx with hx | hx
 ·have := hok x hx; simp; omega
 ·simp; omega
theorem Sit.below {w w' w0 : World} {ok : Nat -> Prop} {X : Nat} {vs : List Value} {wb pb mb : Nat} {st : WS} (h : Sit w ok X vs wb pb mb st w0) (hb : Below w.heap.size w w') : Sit w' ok X vs wb pb mb st w0 :=
 ⟨h.1.below hb (fun _ hx => .inl hx),fun x hx => Nat.lt_of_lt_of_le (h.2.1 x hx) hb.size,h.2.2.1.below hb (h.2.1 X (.inr rfl)),h.2.2.2.trans (.of_below hb)⟩
theorem Sit.alloc {w w0 : World} {ok : Nat -> Prop} {X : Nat} {vs : List Value} {wb pb mb : Nat} {st : WS} (h : Sit w ok X vs wb pb mb st w0) (o : Obj) : Sit (w.alloc o) ok X vs wb pb mb st w0 := h.below ((Below.refl _ _).alloc (Nat.le_refl _) _)
theorem Sit.drew {w w0 : World} {ok : Nat -> Prop} {X : Nat} {vs : List Value} {wb pb mb : Nat} {st : WS} (h : Sit w ok X vs wb pb mb st w0) : Sit w.drew ok X vs wb pb mb st w0 := h.below (Below.refl _ _).drew
theorem Sit.wrote {w w' w0 : World} {ok : Nat -> Prop} {X : Nat} {vs : List Value} {wb pb mb : Nat} {st st' : WS} {e : Ending} (h : Sit w ok X vs wb pb mb st w0) (hq : Wrote (okX ok X) wb pb mb st' w e w') : e = .returned (.tuple #[]) /\ Sit w' ok X vs wb pb mb st' w0 :=
 ⟨hq.1,hq.2.1,fun x hx => Nat.lt_of_lt_of_le (h.2.1 x hx) hq.2.2.size,Fr.cells h.2.2.1 hq.2.2 (.inr rfl),h.2.2.2.trans (hq.2.2.mono (fun _ hx _ => .inl hx))⟩
theorem Sit.fin {w w0 : World} {ok : Nat -> Prop} {X : Nat} {vs : List Value} {wb pb mb : Nat} {st : WS} (h : Sit w ok X vs wb pb mb st w0) : Wrote ok wb pb mb st w0 (.returned (.tuple #[])) w := ⟨rfl,h.1.weak (fun _ hx => .inl hx),h.2.2.2⟩
theorem Sit.rd {α : Type} {sz : Nat} {P : Pv α} (hP : MonoG P) {w w0 : World} {ok : Nat -> Prop} {X : Nat} {vs : List Value} {wb pb mb : Nat} {st : WS} (h : Sit w ok X vs wb pb mb st w0) {v : Value} {xs : List α} (hr : RdX sz P ok w0 v xs) : RdX sz P (okX ok X) w v xs :=
 hr.step hP (fun _ h _ => .inl h) h.2.2.2.2 h.2.2.2.size
theorem num_w (ok : Nat -> Prop) (wb pb mb : Nat) (st : WS) (z : Int) (w : World) (T : TypeId) (h : Wt w ok wb pb mb st) (hok : ∀ x,ok x -> x < w.heap.size) (h0 : -9223372036854775808 <= z) (h1 : z <= 9223372036854775807) (hr : Room st 1) :
  Calls Tryz.prog 49 #[.pointer (some ⟨wb,0,none⟩),.slice (some ⟨w.heap.size,0,none⟩) 1 1] (w.alloc (.cells #[.int .i64 z] T)) (Wrote ok wb pb mb (wNums [z] st) (w.alloc (.cells #[.int .i64 z] T))) :=
 nums_w ok wb pb mb st _ 1 1 [z] 1 _ (h.below ((Below.refl _ _).alloc (Nat.le_refl _) _) (fun x hx => .inl hx)) (fun x hx => by have := hok x hx; simp; omega) (by simpa using h1) (by simp) (by decide) hr
  (rdI_lit (vs := [.int .i64 z]) (zs := [z]) T rfl (by simpa using ⟨h0,h1⟩)) (fun g hg => by cases hg; simp)
theorem putAll_str (f : ByteArray -> WS -> WS) (c : ByteArray -> Nat) (Good : ByteArray -> Prop) (wb pb mb : Nat) (hext : ∀ x,Good x -> Ext (f x) (c x)) (hput : ∀ x,Good x -> ∀ (ok : Nat -> Prop) (vs : List Value) (st : WS) (w : World),Wt w ok wb pb mb st -> (∀ b,ok b -> b < w.heap.size) -> (sP strC) ok w vs x -> Room st (c x) -> Calls Tryz.prog 51 #[.pointer (some ⟨wb,0,none⟩),.string x] w (Wrote ok wb pb mb (f x st) w)) :
  ∀ (xs : List ByteArray) (ok : Nat -> Prop) (p : Option Addr) (n cap : Nat) (st : WS) (w : World),Wt w ok wb pb mb st -> (∀ b,ok b -> b < w.heap.size) -> RdX 1 (sP strC) ok w (.slice p n cap) xs -> (∀ x ∈ xs,Good x) -> Room st ((xs.map c).sum) -> xs.length <= 1000000 ->
  Calls Tryz.prog 66 #[.pointer (some ⟨wb,0,none⟩),.slice p n cap,.func (.func 51) #[] #[]] w (Wrote ok wb pb mb (wAll f xs st) w) := by
 intro xs
 induction xs with
 | nil =>
  intro ok p n cap st w hw hok hr _ _ _
  obtain ⟨p',c',e,_⟩ := hr.len
  simp only [Value.slice.injEq,List.length_nil] at e
  obtain ⟨rfl,rfl,rfl⟩ := e
  clear hr
  go_enter Tryz.func66,Tryz.ntmps66
  go_wp2_with fail
  exact bodyPost_ret (results_none rfl _ _ _) rfl ⟨rfl,hw,Fr.refl _ _⟩
 | cons x l ih =>
  intro ok p n cap st w hw hok hr hg hroom hlen
  obtain ⟨b,off,rfl,hn,hcap,hob,hlt,hc⟩ := hr.place (by simp)
  have hx := hg x (by simp)
  have hext' := hext x hx
  have hroom1 : Room st (c x) := hroom.le (by rw [List.map_cons,List.sum_cons]; omega)
  have hroom2 : Room (f x st) ((l.map c).sum) := hroom.next hext' (by rw [List.map_cons,List.sum_cons]; omega)
  have hgl : ∀ y ∈ l,Good y := fun y hy => hg y (by simp [hy])
  have hc0 := CellsAt.one (sP_at (c := strC) (ok := ok) (hc 0 x rfl))
  have hvs : (sP strC) ok w (strC x) x := rfl
  rw [Nat.zero_mul,Nat.add_zero] at hc0
  have h0 : 0 < n := by rw [hn]; simp
  have hnz : ((n : Int) == 0) = false := beq_eq_false_iff_ne.2 (by omega)
  have hn1 : n <= 1000000 := by rw [hn]; exact hlen
  have hl1 : 1 <= n := h0
  have HN := hid hn
  have HR := hid hr
  have HV := hid hvs
  have HI := hid ih
  have HG := hid hgl
  clear hn hr hvs ih hgl hg hc hroom
  have htail : ∀ w',Fr ok w w' -> (cap = 1 -> RdX 1 (sP strC) ok w' (.slice (some ⟨b,off,none⟩) (n - 1) 0) l) /\ (¬ cap = 1 -> RdX 1 (sP strC) ok w' (.slice (some ⟨b,off + 1,none⟩) (n - 1) (cap - 1)) l) := by
   intro w' hf
   have hN := HN.out
   rw [List.length_cons] at hN
   have hN1 : n - 1 = l.length := by omega
   rw [hN1]
   refine ⟨fun hcp => ?_,fun hcp => ?_⟩
   ·have hl0 : l = [] := List.eq_nil_of_length_eq_zero (by omega)
    subst hl0
    exact RdX.empty
   ·by_cases hl0 : l = []
    ·subst hl0
     exact ⟨_,_,rfl,by simp,(fun h => by cases h),.inl rfl⟩
    ·have hR := HR.out
     rw [HN.out] at hR
     exact Fr.step (sP.grow _) hR.tail hf
  have HT := hid htail
  clear htail
  by_cases hcp : cap = 1
  all_goals
   go_enter Tryz.func66,Tryz.ntmps66
   go_wp2_with fail
   refine (hput x hx ok _ st _ hw hok HV.out hroom1).mono ?_
   rintro e w1 ⟨rfl,hw1,hf1⟩
   go_wp2_with fail
   refine (HI.out ok _ _ _ (f _ st) w1 hw1 (fun b hb => Nat.lt_of_lt_of_le (hok b hb) hf1.size) (by first | exact (HT.out w1 hf1).1 hcp | exact (HT.out w1 hf1).1 rfl | exact (HT.out w1 hf1).2 hcp) HG.out hroom2 (by have hN := HN.out; rw [List.length_cons] at hN; omega)).mono ?_
   intro e w2 hq
   obtain ⟨rfl,hw2,hf2⟩ := hq
   go_wp2_with fail
   exact bodyPost_end (results_none rfl _ _ _) rfl ⟨rfl,hw2,hf1.trans hf2⟩
theorem putAll_fld (f : Fld -> WS -> WS) (c : Fld -> Nat) (Good : Fld -> Prop) (wb pb mb : Nat) (hext : ∀ x,Good x -> Ext (f x) (c x)) (hput : ∀ x,Good x -> ∀ (ok : Nat -> Prop) (vs : List Value) (st : WS) (w : World),Wt w ok wb pb mb st -> (∀ b,ok b -> b < w.heap.size) -> (sP fldC) ok w vs x -> Room st (c x) -> Calls Tryz.prog 54 #[.pointer (some ⟨wb,0,none⟩),.agg vs.toArray] w (Wrote ok wb pb mb (f x st) w)) :
  ∀ (xs : List Fld) (ok : Nat -> Prop) (p : Option Addr) (n cap : Nat) (st : WS) (w : World),Wt w ok wb pb mb st -> (∀ b,ok b -> b < w.heap.size) -> RdX 4 (sP fldC) ok w (.slice p n cap) xs -> (∀ x ∈ xs,Good x) -> Room st ((xs.map c).sum) -> xs.length <= 1000000 ->
  Calls Tryz.prog 67 #[.pointer (some ⟨wb,0,none⟩),.slice p n cap,.func (.func 54) #[] #[]] w (Wrote ok wb pb mb (wAll f xs st) w) := by
 intro xs
 induction xs with
 | nil =>
  intro ok p n cap st w hw hok hr _ _ _
  obtain ⟨p',c',e,_⟩ := hr.len
  simp only [Value.slice.injEq,List.length_nil] at e
  obtain ⟨rfl,rfl,rfl⟩ := e
  clear hr
  go_enter Tryz.func67,Tryz.ntmps67
  go_wp2_with fail
  exact bodyPost_ret (results_none rfl _ _ _) rfl ⟨rfl,hw,Fr.refl _ _⟩
 | cons x l ih =>
  intro ok p n cap st w hw hok hr hg hroom hlen
  obtain ⟨b,off,rfl,hn,hcap,hob,hlt,hc⟩ := hr.place (by simp)
  have hx := hg x (by simp)
  have hext' := hext x hx
  have hroom1 : Room st (c x) := hroom.le (by rw [List.map_cons,List.sum_cons]; omega)
  have hroom2 : Room (f x st) ((l.map c).sum) := hroom.next hext' (by rw [List.map_cons,List.sum_cons]; omega)
  have hgl : ∀ y ∈ l,Good y := fun y hy => hg y (by simp [hy])
  have hcl := sP_at (ok := ok) (hc 0 x rfl)
  have hvs : (sP fldC) ok w _ x := rfl
  obtain ⟨s0,⟨s1,s2⟩,s3⟩ := x
  rw [Nat.zero_mul,Nat.add_zero] at hcl
  obtain ⟨hc0,hc1,hc2,hc3⟩ := CellsAt.four hcl
  have h0 : 0 < n := by rw [hn]; simp
  have hnz : ((n : Int) == 0) = false := beq_eq_false_iff_ne.2 (by omega)
  have hn1 : n <= 1000000 := by rw [hn]; exact hlen
  have hl1 : 1 <= n := h0
  have HN := hid hn
  have HR := hid hr
  have HV := hid hvs
  have HI := hid ih
  have HG := hid hgl
  clear hn hr hvs ih hgl hg hc hroom
  clear hcl
  have htail : ∀ w',Fr ok w w' -> (cap = 1 -> RdX 4 (sP fldC) ok w' (.slice (some ⟨b,off,none⟩) (n - 1) 0) l) /\ (¬ cap = 1 -> RdX 4 (sP fldC) ok w' (.slice (some ⟨b,off + 4,none⟩) (n - 1) (cap - 1)) l) := by
   intro w' hf
   have hN := HN.out
   rw [List.length_cons] at hN
   have hN1 : n - 1 = l.length := by omega
   rw [hN1]
   refine ⟨fun hcp => ?_,fun hcp => ?_⟩
   ·have hl0 : l = [] := List.eq_nil_of_length_eq_zero (by omega)
    subst hl0
    exact RdX.empty
   ·by_cases hl0 : l = []
    ·subst hl0
     exact ⟨_,_,rfl,by simp,(fun h => by cases h),.inl rfl⟩
    ·have hR := HR.out
     rw [HN.out] at hR
     exact Fr.step (sP.grow _) hR.tail hf
  have HT := hid htail
  clear htail
  by_cases hcp : cap = 1
  all_goals
   go_enter Tryz.func67,Tryz.ntmps67
   go_wp2_with fail
   refine (hput _ hx ok _ st _ hw hok HV.out hroom1).mono ?_
   rintro e w1 ⟨rfl,hw1,hf1⟩
   go_wp2_with fail
   refine (HI.out ok _ _ _ (f _ st) w1 hw1 (fun b hb => Nat.lt_of_lt_of_le (hok b hb) hf1.size) (by first | exact (HT.out w1 hf1).1 hcp | exact (HT.out w1 hf1).1 rfl | exact (HT.out w1 hf1).2 hcp) HG.out hroom2 (by have hN := HN.out; rw [List.length_cons] at hN; omega)).mono ?_
   intro e w2 hq
   obtain ⟨rfl,hw2,hf2⟩ := hq
   go_wp2_with fail
   exact bodyPost_end (results_none rfl _ _ _) rfl ⟨rfl,hw2,hf1.trans hf2⟩
theorem putAll_ins (f : Ins -> WS -> WS) (c : Ins -> Nat) (Good : Ins -> Prop) (wb pb mb : Nat) (hext : ∀ x,Good x -> Ext (f x) (c x)) (hput : ∀ x,Good x -> ∀ (ok : Nat -> Prop) (vs : List Value) (st : WS) (w : World),Wt w ok wb pb mb st -> (∀ b,ok b -> b < w.heap.size) -> (sP insC) ok w vs x -> Room st (c x) -> Calls Tryz.prog 73 #[.pointer (some ⟨wb,0,none⟩),.agg vs.toArray] w (Wrote ok wb pb mb (f x st) w)) :
  ∀ (xs : List Ins) (ok : Nat -> Prop) (p : Option Addr) (n cap : Nat) (st : WS) (w : World),Wt w ok wb pb mb st -> (∀ b,ok b -> b < w.heap.size) -> RdX 7 (sP insC) ok w (.slice p n cap) xs -> (∀ x ∈ xs,Good x) -> Room st ((xs.map c).sum) -> xs.length <= 1000000 ->
  Calls Tryz.prog 95 #[.pointer (some ⟨wb,0,none⟩),.slice p n cap,.func (.func 73) #[] #[]] w (Wrote ok wb pb mb (wAll f xs st) w) := by
 intro xs
 induction xs with
 | nil =>
  intro ok p n cap st w hw hok hr _ _ _
  obtain ⟨p',c',e,_⟩ := hr.len
  simp only [Value.slice.injEq,List.length_nil] at e
  obtain ⟨rfl,rfl,rfl⟩ := e
  clear hr
  go_enter Tryz.func95,Tryz.ntmps95
  go_wp2_with fail
  exact bodyPost_ret (results_none rfl _ _ _) rfl ⟨rfl,hw,Fr.refl _ _⟩
 | cons x l ih =>
  intro ok p n cap st w hw hok hr hg hroom hlen
  obtain ⟨b,off,rfl,hn,hcap,hob,hlt,hc⟩ := hr.place (by simp)
  have hx := hg x (by simp)
  have hext' := hext x hx
  have hroom1 : Room st (c x) := hroom.le (by rw [List.map_cons,List.sum_cons]; omega)
  have hroom2 : Room (f x st) ((l.map c).sum) := hroom.next hext' (by rw [List.map_cons,List.sum_cons]; omega)
  have hgl : ∀ y ∈ l,Good y := fun y hy => hg y (by simp [hy])
  have hcl := sP_at (ok := ok) (hc 0 x rfl)
  have hvs : (sP insC) ok w _ x := rfl
  obtain ⟨s0,s1,s2,s3,s4,s5,s6⟩ := x
  rw [Nat.zero_mul,Nat.add_zero] at hcl
  obtain ⟨hc0,hc1,hc2,hc3,hc4,hc5,hc6⟩ := CellsAt.seven hcl
  have h0 : 0 < n := by rw [hn]; simp
  have hnz : ((n : Int) == 0) = false := beq_eq_false_iff_ne.2 (by omega)
  have hn1 : n <= 1000000 := by rw [hn]; exact hlen
  have hl1 : 1 <= n := h0
  have HN := hid hn
  have HR := hid hr
  have HV := hid hvs
  have HI := hid ih
  have HG := hid hgl
  clear hn hr hvs ih hgl hg hc hroom
  clear hcl
  have htail : ∀ w',Fr ok w w' -> (cap = 1 -> RdX 7 (sP insC) ok w' (.slice (some ⟨b,off,none⟩) (n - 1) 0) l) /\ (¬ cap = 1 -> RdX 7 (sP insC) ok w' (.slice (some ⟨b,off + 7,none⟩) (n - 1) (cap - 1)) l) := by
   intro w' hf
   have hN := HN.out
   rw [List.length_cons] at hN
   have hN1 : n - 1 = l.length := by omega
   rw [hN1]
   refine ⟨fun hcp => ?_,fun hcp => ?_⟩
   ·have hl0 : l = [] := List.eq_nil_of_length_eq_zero (by omega)
    subst hl0
    exact RdX.empty
   ·by_cases hl0 : l = []
    ·subst hl0
     exact ⟨_,_,rfl,by simp,(fun h => by cases h),.inl rfl⟩
    ·have hR := HR.out
     rw [HN.out] at hR
     exact Fr.step (sP.grow _) hR.tail hf
  have HT := hid htail
  clear htail
  by_cases hcp : cap = 1
  all_goals
   go_enter Tryz.func95,Tryz.ntmps95
   go_wp2_with fail
   refine (hput _ hx ok _ st _ hw hok HV.out hroom1).mono ?_
   rintro e w1 ⟨rfl,hw1,hf1⟩
   go_wp2_with fail
   refine (HI.out ok _ _ _ (f _ st) w1 hw1 (fun b hb => Nat.lt_of_lt_of_le (hok b hb) hf1.size) (by first | exact (HT.out w1 hf1).1 hcp | exact (HT.out w1 hf1).1 rfl | exact (HT.out w1 hf1).2 hcp) HG.out hroom2 (by have hN := HN.out; rw [List.length_cons] at hN; omega)).mono ?_
   intro e w2 hq
   obtain ⟨rfl,hw2,hf2⟩ := hq
   go_wp2_with fail
   exact bodyPost_end (results_none rfl _ _ _) rfl ⟨rfl,hw2,hf1.trans hf2⟩
theorem putAll_hnd (f : Hnd -> WS -> WS) (c : Hnd -> Nat) (Good : Hnd -> Prop) (wb pb mb : Nat) (hext : ∀ x,Good x -> Ext (f x) (c x)) (hput : ∀ x,Good x -> ∀ (ok : Nat -> Prop) (vs : List Value) (st : WS) (w : World),Wt w ok wb pb mb st -> (∀ b,ok b -> b < w.heap.size) -> (sP hndC) ok w vs x -> Room st (c x) -> Calls Tryz.prog 75 #[.pointer (some ⟨wb,0,none⟩),.agg vs.toArray] w (Wrote ok wb pb mb (f x st) w)) :
  ∀ (xs : List Hnd) (ok : Nat -> Prop) (p : Option Addr) (n cap : Nat) (st : WS) (w : World),Wt w ok wb pb mb st -> (∀ b,ok b -> b < w.heap.size) -> RdX 4 (sP hndC) ok w (.slice p n cap) xs -> (∀ x ∈ xs,Good x) -> Room st ((xs.map c).sum) -> xs.length <= 1000000 ->
  Calls Tryz.prog 98 #[.pointer (some ⟨wb,0,none⟩),.slice p n cap,.func (.func 75) #[] #[]] w (Wrote ok wb pb mb (wAll f xs st) w) := by
 intro xs
 induction xs with
 | nil =>
  intro ok p n cap st w hw hok hr _ _ _
  obtain ⟨p',c',e,_⟩ := hr.len
  simp only [Value.slice.injEq,List.length_nil] at e
  obtain ⟨rfl,rfl,rfl⟩ := e
  clear hr
  go_enter Tryz.func98,Tryz.ntmps98
  go_wp2_with fail
  exact bodyPost_ret (results_none rfl _ _ _) rfl ⟨rfl,hw,Fr.refl _ _⟩
 | cons x l ih =>
  intro ok p n cap st w hw hok hr hg hroom hlen
  obtain ⟨b,off,rfl,hn,hcap,hob,hlt,hc⟩ := hr.place (by simp)
  have hx := hg x (by simp)
  have hext' := hext x hx
  have hroom1 : Room st (c x) := hroom.le (by rw [List.map_cons,List.sum_cons]; omega)
  have hroom2 : Room (f x st) ((l.map c).sum) := hroom.next hext' (by rw [List.map_cons,List.sum_cons]; omega)
  have hgl : ∀ y ∈ l,Good y := fun y hy => hg y (by simp [hy])
  have hcl := sP_at (ok := ok) (hc 0 x rfl)
  have hvs : (sP hndC) ok w _ x := rfl
  obtain ⟨s0,s1,s2,s3⟩ := x
  rw [Nat.zero_mul,Nat.add_zero] at hcl
  obtain ⟨hc0,hc1,hc2,hc3⟩ := CellsAt.four hcl
  have h0 : 0 < n := by rw [hn]; simp
  have hnz : ((n : Int) == 0) = false := beq_eq_false_iff_ne.2 (by omega)
  have hn1 : n <= 1000000 := by rw [hn]; exact hlen
  have hl1 : 1 <= n := h0
  have HN := hid hn
  have HR := hid hr
  have HV := hid hvs
  have HI := hid ih
  have HG := hid hgl
  clear hn hr hvs ih hgl hg hc hroom
  clear hcl
  have htail : ∀ w',Fr ok w w' -> (cap = 1 -> RdX 4 (sP hndC) ok w' (.slice (some ⟨b,off,none⟩) (n - 1) 0) l) /\ (¬ cap = 1 -> RdX 4 (sP hndC) ok w' (.slice (some ⟨b,off + 4,none⟩) (n - 1) (cap - 1)) l) := by
   intro w' hf
   have hN := HN.out
   rw [List.length_cons] at hN
   have hN1 : n - 1 = l.length := by omega
   rw [hN1]
   refine ⟨fun hcp => ?_,fun hcp => ?_⟩
   ·have hl0 : l = [] := List.eq_nil_of_length_eq_zero (by omega)
    subst hl0
    exact RdX.empty
   ·by_cases hl0 : l = []
    ·subst hl0
     exact ⟨_,_,rfl,by simp,(fun h => by cases h),.inl rfl⟩
    ·have hR := HR.out
     rw [HN.out] at hR
     exact Fr.step (sP.grow _) hR.tail hf
  have HT := hid htail
  clear htail
  by_cases hcp : cap = 1
  all_goals
   go_enter Tryz.func98,Tryz.ntmps98
   go_wp2_with fail
   refine (hput _ hx ok _ st _ hw hok HV.out hroom1).mono ?_
   rintro e w1 ⟨rfl,hw1,hf1⟩
   go_wp2_with fail
   refine (HI.out ok _ _ _ (f _ st) w1 hw1 (fun b hb => Nat.lt_of_lt_of_le (hok b hb) hf1.size) (by first | exact (HT.out w1 hf1).1 hcp | exact (HT.out w1 hf1).1 rfl | exact (HT.out w1 hf1).2 hcp) HG.out hroom2 (by have hN := HN.out; rw [List.length_cons] at hN; omega)).mono ?_
   intro e w2 hq
   obtain ⟨rfl,hw2,hf2⟩ := hq
   go_wp2_with fail
   exact bodyPost_end (results_none rfl _ _ _) rfl ⟨rfl,hw2,hf1.trans hf2⟩
theorem putAll_mth (f : Mth -> WS -> WS) (c : Mth -> Nat) (Good : Mth -> Prop) (wb pb mb : Nat) (hext : ∀ x,Good x -> Ext (f x) (c x)) (hput : ∀ x,Good x -> ∀ (ok : Nat -> Prop) (vs : List Value) (st : WS) (w : World),Wt w ok wb pb mb st -> (∀ b,ok b -> b < w.heap.size) -> mP ok w vs x -> Room st (c x) -> Calls Tryz.prog 56 #[.pointer (some ⟨wb,0,none⟩),.agg vs.toArray] w (Wrote ok wb pb mb (f x st) w)) :
  ∀ (xs : List Mth) (ok : Nat -> Prop) (p : Option Addr) (n cap : Nat) (st : WS) (w : World),Wt w ok wb pb mb st -> (∀ b,ok b -> b < w.heap.size) -> RdX 9 mP ok w (.slice p n cap) xs -> (∀ x ∈ xs,Good x) -> Room st ((xs.map c).sum) -> xs.length <= 1000000 ->
  Calls Tryz.prog 70 #[.pointer (some ⟨wb,0,none⟩),.slice p n cap,.func (.func 56) #[] #[]] w (Wrote ok wb pb mb (wAll f xs st) w) := by
 intro xs
 induction xs with
 | nil =>
  intro ok p n cap st w hw hok hr _ _ _
  obtain ⟨p',c',e,_⟩ := hr.len
  simp only [Value.slice.injEq,List.length_nil] at e
  obtain ⟨rfl,rfl,rfl⟩ := e
  clear hr
  go_enter Tryz.func70,Tryz.ntmps70
  go_wp2_with fail
  exact bodyPost_ret (results_none rfl _ _ _) rfl ⟨rfl,hw,Fr.refl _ _⟩
 | cons x l ih =>
  intro ok p n cap st w hw hok hr hg hroom hlen
  obtain ⟨b,off,rfl,hn,hcap,hob,hlt,hc⟩ := hr.place (by simp)
  have hx := hg x (by simp)
  have hext' := hext x hx
  have hroom1 : Room st (c x) := hroom.le (by rw [List.map_cons,List.sum_cons]; omega)
  have hroom2 : Room (f x st) ((l.map c).sum) := hroom.next hext' (by rw [List.map_cons,List.sum_cons]; omega)
  have hgl : ∀ y ∈ l,Good y := fun y hy => hg y (by simp [hy])
  obtain ⟨vs,hvs,hcl⟩ := hc 0 x rfl
  have hvs' := hvs
  obtain ⟨vp,vc,vh,rfl,hd0,hd1,hd2⟩ := hvs'
  rw [Nat.zero_mul,Nat.add_zero] at hcl
  obtain ⟨hc0,hc1,hc2,hc3,hc4,hc5,hc6,hc7,hc8⟩ := CellsAt.nine hcl
  obtain ⟨pvp,cvp,rfl,-⟩ := hd0.len
  obtain ⟨pvc,cvc,rfl,-⟩ := hd1.len
  obtain ⟨pvh,cvh,rfl,-⟩ := hd2.len
  clear hd0 hd1 hd2
  have h0 : 0 < n := by rw [hn]; simp
  have hnz : ((n : Int) == 0) = false := beq_eq_false_iff_ne.2 (by omega)
  have hn1 : n <= 1000000 := by rw [hn]; exact hlen
  have hl1 : 1 <= n := h0
  have HN := hid hn
  have HR := hid hr
  have HV := hid hvs
  have HI := hid ih
  have HG := hid hgl
  clear hn hr hvs ih hgl hg hc hroom
  clear hcl
  have htail : ∀ w',Fr ok w w' -> (cap = 1 -> RdX 9 mP ok w' (.slice (some ⟨b,off,none⟩) (n - 1) 0) l) /\ (¬ cap = 1 -> RdX 9 mP ok w' (.slice (some ⟨b,off + 9,none⟩) (n - 1) (cap - 1)) l) := by
   intro w' hf
   have hN := HN.out
   rw [List.length_cons] at hN
   have hN1 : n - 1 = l.length := by omega
   rw [hN1]
   refine ⟨fun hcp => ?_,fun hcp => ?_⟩
   ·have hl0 : l = [] := List.eq_nil_of_length_eq_zero (by omega)
    subst hl0
    exact RdX.empty
   ·by_cases hl0 : l = []
    ·subst hl0
     exact ⟨_,_,rfl,by simp,(fun h => by cases h),.inl rfl⟩
    ·have hR := HR.out
     rw [HN.out] at hR
     exact Fr.step mP.grow hR.tail hf
  have HT := hid htail
  clear htail
  by_cases hcp : cap = 1
  all_goals
   go_enter Tryz.func70,Tryz.ntmps70
   go_wp2_with fail
   refine (hput _ hx ok _ st _ hw hok HV.out hroom1).mono ?_
   rintro e w1 ⟨rfl,hw1,hf1⟩
   go_wp2_with fail
   refine (HI.out ok _ _ _ (f _ st) w1 hw1 (fun b hb => Nat.lt_of_lt_of_le (hok b hb) hf1.size) (by first | exact (HT.out w1 hf1).1 hcp | exact (HT.out w1 hf1).1 rfl | exact (HT.out w1 hf1).2 hcp) HG.out hroom2 (by have hN := HN.out; rw [List.length_cons] at hN; omega)).mono ?_
   intro e w2 hq
   obtain ⟨rfl,hw2,hf2⟩ := hq
   go_wp2_with fail
   exact bodyPost_end (results_none rfl _ _ _) rfl ⟨rfl,hw2,hf1.trans hf2⟩
theorem putAll_cls (f : Cls -> WS -> WS) (c : Cls -> Nat) (Good : Cls -> Prop) (wb pb mb : Nat) (hext : ∀ x,Good x -> Ext (f x) (c x)) (hput : ∀ x,Good x -> ∀ (ok : Nat -> Prop) (vs : List Value) (st : WS) (w : World),Wt w ok wb pb mb st -> (∀ b,ok b -> b < w.heap.size) -> cP ok w vs x -> Room st (c x) -> Calls Tryz.prog 42 #[.pointer (some ⟨wb,0,none⟩),.agg vs.toArray] w (Wrote ok wb pb mb (f x st) w)) :
  ∀ (xs : List Cls) (ok : Nat -> Prop) (p : Option Addr) (n cap : Nat) (st : WS) (w : World),Wt w ok wb pb mb st -> (∀ b,ok b -> b < w.heap.size) -> RdX 6 cP ok w (.slice p n cap) xs -> (∀ x ∈ xs,Good x) -> Room st ((xs.map c).sum) -> xs.length <= 1000000 ->
  Calls Tryz.prog 50 #[.pointer (some ⟨wb,0,none⟩),.slice p n cap,.func (.func 42) #[] #[]] w (Wrote ok wb pb mb (wAll f xs st) w) := by
 intro xs
 induction xs with
 | nil =>
  intro ok p n cap st w hw hok hr _ _ _
  obtain ⟨p',c',e,_⟩ := hr.len
  simp only [Value.slice.injEq,List.length_nil] at e
  obtain ⟨rfl,rfl,rfl⟩ := e
  clear hr
  go_enter Tryz.func50,Tryz.ntmps50
  go_wp2_with fail
  exact bodyPost_ret (results_none rfl _ _ _) rfl ⟨rfl,hw,Fr.refl _ _⟩
 | cons x l ih =>
  intro ok p n cap st w hw hok hr hg hroom hlen
  obtain ⟨b,off,rfl,hn,hcap,hob,hlt,hc⟩ := hr.place (by simp)
  have hx := hg x (by simp)
  have hext' := hext x hx
  have hroom1 : Room st (c x) := hroom.le (by rw [List.map_cons,List.sum_cons]; omega)
  have hroom2 : Room (f x st) ((l.map c).sum) := hroom.next hext' (by rw [List.map_cons,List.sum_cons]; omega)
  have hgl : ∀ y ∈ l,Good y := fun y hy => hg y (by simp [hy])
  obtain ⟨vs,hvs,hcl⟩ := hc 0 x rfl
  have hvs' := hvs
  obtain ⟨vi,vf,vm,rfl,hd0,hd1,hd2⟩ := hvs'
  rw [Nat.zero_mul,Nat.add_zero] at hcl
  obtain ⟨hc0,hc1,hc2,hc3,hc4,hc5⟩ := CellsAt.six hcl
  obtain ⟨pvi,cvi,rfl,-⟩ := hd0.len
  obtain ⟨pvf,cvf,rfl,-⟩ := hd1.len
  obtain ⟨pvm,cvm,rfl,-⟩ := hd2.len
  clear hd0 hd1 hd2
  have h0 : 0 < n := by rw [hn]; simp
  have hnz : ((n : Int) == 0) = false := beq_eq_false_iff_ne.2 (by omega)
  have hn1 : n <= 1000000 := by rw [hn]; exact hlen
  have hl1 : 1 <= n := h0
  have HN := hid hn
  have HR := hid hr
  have HV := hid hvs
  have HI := hid ih
  have HG := hid hgl
  clear hn hr hvs ih hgl hg hc hroom
  clear hcl
  have htail : ∀ w',Fr ok w w' -> (cap = 1 -> RdX 6 cP ok w' (.slice (some ⟨b,off,none⟩) (n - 1) 0) l) /\ (¬ cap = 1 -> RdX 6 cP ok w' (.slice (some ⟨b,off + 6,none⟩) (n - 1) (cap - 1)) l) := by
   intro w' hf
   have hN := HN.out
   rw [List.length_cons] at hN
   have hN1 : n - 1 = l.length := by omega
   rw [hN1]
   refine ⟨fun hcp => ?_,fun hcp => ?_⟩
   ·have hl0 : l = [] := List.eq_nil_of_length_eq_zero (by omega)
    subst hl0
    exact RdX.empty
   ·by_cases hl0 : l = []
    ·subst hl0
     exact ⟨_,_,rfl,by simp,(fun h => by cases h),.inl rfl⟩
    ·have hR := HR.out
     rw [HN.out] at hR
     exact Fr.step cP.grow hR.tail hf
  have HT := hid htail
  clear htail
  by_cases hcp : cap = 1
  all_goals
   go_enter Tryz.func50,Tryz.ntmps50
   go_wp2_with fail
   refine (hput _ hx ok _ st _ hw hok HV.out hroom1).mono ?_
   rintro e w1 ⟨rfl,hw1,hf1⟩
   go_wp2_with fail
   refine (HI.out ok _ _ _ (f _ st) w1 hw1 (fun b hb => Nat.lt_of_lt_of_le (hok b hb) hf1.size) (by first | exact (HT.out w1 hf1).1 hcp | exact (HT.out w1 hf1).1 rfl | exact (HT.out w1 hf1).2 hcp) HG.out hroom2 (by have hN := HN.out; rw [List.length_cons] at hN; omega)).mono ?_
   intro e w2 hq
   obtain ⟨rfl,hw2,hf2⟩ := hq
   go_wp2_with fail
   exact bodyPost_end (results_none rfl _ _ _) rfl ⟨rfl,hw2,hf1.trans hf2⟩
end Go.Proofs.YtofnbapnmhibaaaGreat.A
namespace Go.Proofs.YtofnbapnmhibaaaGreat.A
open Go.RowKit Go.Proofs.YtofnbapnmhibaaaGreat.D Go.Proofs.YtofnbapnmhibaaaGreat.O
theorem num3_w (g : Nat) (ok : Nat -> Prop) (wb pb mb : Nat) (st : WS) (x y z : Int) (w : World) (hg : g = w.heap.size) (T : TypeId) (h : Wt w ok wb pb mb st) (hok : ∀ x,ok x -> x < w.heap.size) (hx : 0 <= x /\ x <= 2000) (hy : 0 <= y /\ y <= 2000) (hz : 0 <= z /\ z <= 2000) (hr : Room st 1) :
  Calls Tryz.prog 49 #[.pointer (some ⟨wb,0,none⟩),.slice (some ⟨g,0,none⟩) 3 3] (w.alloc (.cells #[.int .i64 x,.int .i64 y,.int .i64 z] T)) (Wrote ok wb pb mb (wNums [x,y,z] st) (w.alloc (.cells #[.int .i64 x,.int .i64 y,.int .i64 z] T))) := by
 subst hg
 exact nums_w ok wb pb mb st _ 3 3 [x,y,z] 1 _ (h.below ((Below.refl _ _).alloc (Nat.le_refl _) _) (fun _ hx => .inl hx)) (fun x hx => by have := hok x hx; simp; omega) (by
   intro u hu
   simp only [List.mem_cons,List.not_mem_nil,or_false] at hu
   rcases hu with rfl | rfl | rfl <;> omega) (by simp) (by decide) hr
  (rdI_lit (vs := [.int .i64 x,.int .i64 y,.int .i64 z]) (zs := [x,y,z]) T rfl (by
   intro u hu
   simp only [List.mem_cons,List.not_mem_nil,or_false] at hu
   rcases hu with rfl | rfl | rfl <;> omega)) (fun g hg => by cases hg; simp)
theorem putList_str (f : ByteArray -> WS -> WS) (c : ByteArray -> Nat) (Good : ByteArray -> Prop) (wb pb mb : Nat) (hext : ∀ x,Good x -> Ext (f x) (c x)) (hput : ∀ x,Good x -> ∀ (ok : Nat -> Prop) (vs : List Value) (st : WS) (w : World),Wt w ok wb pb mb st -> (∀ b,ok b -> b < w.heap.size) -> (sP strC) ok w vs x -> Room st (c x) -> Calls Tryz.prog 51 #[.pointer (some ⟨wb,0,none⟩),.string x] w (Wrote ok wb pb mb (f x st) w))
  (xs : List ByteArray) (ok : Nat -> Prop) (p : Option Addr) (n cap : Nat) (st : WS) (w : World) (hw : Wt w ok wb pb mb st) (hok : ∀ b,ok b -> b < w.heap.size) (hr : RdX 1 (sP strC) ok w (.slice p n cap) xs) (hg : ∀ x ∈ xs,Good x) (hroom : Room st (1 + (xs.map c).sum)) (hlen : xs.length <= 1000000) :
  Calls Tryz.prog 52 #[.pointer (some ⟨wb,0,none⟩),.slice p n cap,.func (.func 51) #[] #[]] w (Wrote ok wb pb mb (wList f xs st) w) := by
 obtain ⟨p',c',e,_⟩ := hr.len
 simp only [Value.slice.injEq] at e
 obtain ⟨rfl,rfl,rfl⟩ := e
 have HR := hid hr
 have HP := hid hput
 have HE := hid hext
 have HG := hid hg
 clear hr hput hext hg
 go_enter Tryz.func52,Tryz.ntmps52
 go_wp2_with fail
 refine (num_w ok wb pb mb st (xs.length : Int) w _ hw hok (by omega) (by omega) (hroom.le (by omega))).mono ?_
 intro e w1 hq
 obtain ⟨rfl,hw1,hf1⟩ := hq
 have hf0 : Fr ok w w1 := (Fr.of_below ((Below.refl _ _).alloc (Nat.le_refl _) _)).trans hf1
 clear hf1
 go_wp2_with fail
 refine (putAll_str f c Good wb pb mb HE.out HP.out xs ok _ _ _ _ w1 hw1 (fun b hb => Nat.lt_of_lt_of_le (hok b hb) hf0.size) (Fr.step (sP.grow _) HR.out hf0) HG.out (hroom.next (ext_nums (n := 1) (zs := [(xs.length : Int)]) (by simp; omega) (by simp)) (Nat.le_refl _)) hlen).mono ?_
 intro e w2 hq
 obtain ⟨rfl,hw2,hf2⟩ := hq
 go_wp2_with fail
 exact bodyPost_end (results_none rfl _ _ _) rfl ⟨rfl,hw2,hf0.trans hf2⟩
theorem putList_fld (f : Fld -> WS -> WS) (c : Fld -> Nat) (Good : Fld -> Prop) (wb pb mb : Nat) (hext : ∀ x,Good x -> Ext (f x) (c x)) (hput : ∀ x,Good x -> ∀ (ok : Nat -> Prop) (vs : List Value) (st : WS) (w : World),Wt w ok wb pb mb st -> (∀ b,ok b -> b < w.heap.size) -> (sP fldC) ok w vs x -> Room st (c x) -> Calls Tryz.prog 54 #[.pointer (some ⟨wb,0,none⟩),.agg vs.toArray] w (Wrote ok wb pb mb (f x st) w))
  (xs : List Fld) (ok : Nat -> Prop) (p : Option Addr) (n cap : Nat) (st : WS) (w : World) (hw : Wt w ok wb pb mb st) (hok : ∀ b,ok b -> b < w.heap.size) (hr : RdX 4 (sP fldC) ok w (.slice p n cap) xs) (hg : ∀ x ∈ xs,Good x) (hroom : Room st (1 + (xs.map c).sum)) (hlen : xs.length <= 1000000) :
  Calls Tryz.prog 53 #[.pointer (some ⟨wb,0,none⟩),.slice p n cap,.func (.func 54) #[] #[]] w (Wrote ok wb pb mb (wList f xs st) w) := by
 obtain ⟨p',c',e,_⟩ := hr.len
 simp only [Value.slice.injEq] at e
 obtain ⟨rfl,rfl,rfl⟩ := e
 have HR := hid hr
 have HP := hid hput
 have HE := hid hext
 have HG := hid hg
 clear hr hput hext hg
 go_enter Tryz.func53,Tryz.ntmps53
 go_wp2_with fail
 refine (num_w ok wb pb mb st (xs.length : Int) w _ hw hok (by omega) (by omega) (hroom.le (by omega))).mono ?_
 intro e w1 hq
 obtain ⟨rfl,hw1,hf1⟩ := hq
 have hf0 : Fr ok w w1 := (Fr.of_below ((Below.refl _ _).alloc (Nat.le_refl _) _)).trans hf1
 clear hf1
 go_wp2_with fail
 refine (putAll_fld f c Good wb pb mb HE.out HP.out xs ok _ _ _ _ w1 hw1 (fun b hb => Nat.lt_of_lt_of_le (hok b hb) hf0.size) (Fr.step (sP.grow _) HR.out hf0) HG.out (hroom.next (ext_nums (n := 1) (zs := [(xs.length : Int)]) (by simp; omega) (by simp)) (Nat.le_refl _)) hlen).mono ?_
 intro e w2 hq
 obtain ⟨rfl,hw2,hf2⟩ := hq
 go_wp2_with fail
 exact bodyPost_end (results_none rfl _ _ _) rfl ⟨rfl,hw2,hf0.trans hf2⟩
theorem putList_ins (f : Ins -> WS -> WS) (c : Ins -> Nat) (Good : Ins -> Prop) (wb pb mb : Nat) (hext : ∀ x,Good x -> Ext (f x) (c x)) (hput : ∀ x,Good x -> ∀ (ok : Nat -> Prop) (vs : List Value) (st : WS) (w : World),Wt w ok wb pb mb st -> (∀ b,ok b -> b < w.heap.size) -> (sP insC) ok w vs x -> Room st (c x) -> Calls Tryz.prog 73 #[.pointer (some ⟨wb,0,none⟩),.agg vs.toArray] w (Wrote ok wb pb mb (f x st) w))
  (xs : List Ins) (ok : Nat -> Prop) (p : Option Addr) (n cap : Nat) (st : WS) (w : World) (hw : Wt w ok wb pb mb st) (hok : ∀ b,ok b -> b < w.heap.size) (hr : RdX 7 (sP insC) ok w (.slice p n cap) xs) (hg : ∀ x ∈ xs,Good x) (hroom : Room st (1 + (xs.map c).sum)) (hlen : xs.length <= 1000000) :
  Calls Tryz.prog 72 #[.pointer (some ⟨wb,0,none⟩),.slice p n cap,.func (.func 73) #[] #[]] w (Wrote ok wb pb mb (wList f xs st) w) := by
 obtain ⟨p',c',e,_⟩ := hr.len
 simp only [Value.slice.injEq] at e
 obtain ⟨rfl,rfl,rfl⟩ := e
 have HR := hid hr
 have HP := hid hput
 have HE := hid hext
 have HG := hid hg
 clear hr hput hext hg
 go_enter Tryz.func72,Tryz.ntmps72
 go_wp2_with fail
 refine (num_w ok wb pb mb st (xs.length : Int) w _ hw hok (by omega) (by omega) (hroom.le (by omega))).mono ?_
 intro e w1 hq
 obtain ⟨rfl,hw1,hf1⟩ := hq
 have hf0 : Fr ok w w1 := (Fr.of_below ((Below.refl _ _).alloc (Nat.le_refl _) _)).trans hf1
 clear hf1
 go_wp2_with fail
 refine (putAll_ins f c Good wb pb mb HE.out HP.out xs ok _ _ _ _ w1 hw1 (fun b hb => Nat.lt_of_lt_of_le (hok b hb) hf0.size) (Fr.step (sP.grow _) HR.out hf0) HG.out (hroom.next (ext_nums (n := 1) (zs := [(xs.length : Int)]) (by simp; omega) (by simp)) (Nat.le_refl _)) hlen).mono ?_
 intro e w2 hq
 obtain ⟨rfl,hw2,hf2⟩ := hq
 go_wp2_with fail
 exact bodyPost_end (results_none rfl _ _ _) rfl ⟨rfl,hw2,hf0.trans hf2⟩
theorem putList_hnd (f : Hnd -> WS -> WS) (c : Hnd -> Nat) (Good : Hnd -> Prop) (wb pb mb : Nat) (hext : ∀ x,Good x -> Ext (f x) (c x)) (hput : ∀ x,Good x -> ∀ (ok : Nat -> Prop) (vs : List Value) (st : WS) (w : World),Wt w ok wb pb mb st -> (∀ b,ok b -> b < w.heap.size) -> (sP hndC) ok w vs x -> Room st (c x) -> Calls Tryz.prog 75 #[.pointer (some ⟨wb,0,none⟩),.agg vs.toArray] w (Wrote ok wb pb mb (f x st) w))
  (xs : List Hnd) (ok : Nat -> Prop) (p : Option Addr) (n cap : Nat) (st : WS) (w : World) (hw : Wt w ok wb pb mb st) (hok : ∀ b,ok b -> b < w.heap.size) (hr : RdX 4 (sP hndC) ok w (.slice p n cap) xs) (hg : ∀ x ∈ xs,Good x) (hroom : Room st (1 + (xs.map c).sum)) (hlen : xs.length <= 1000000) :
  Calls Tryz.prog 74 #[.pointer (some ⟨wb,0,none⟩),.slice p n cap,.func (.func 75) #[] #[]] w (Wrote ok wb pb mb (wList f xs st) w) := by
 obtain ⟨p',c',e,_⟩ := hr.len
 simp only [Value.slice.injEq] at e
 obtain ⟨rfl,rfl,rfl⟩ := e
 have HR := hid hr
 have HP := hid hput
 have HE := hid hext
 have HG := hid hg
 clear hr hput hext hg
 go_enter Tryz.func74,Tryz.ntmps74
 go_wp2_with fail
 refine (num_w ok wb pb mb st (xs.length : Int) w _ hw hok (by omega) (by omega) (hroom.le (by omega))).mono ?_
 intro e w1 hq
 obtain ⟨rfl,hw1,hf1⟩ := hq
 have hf0 : Fr ok w w1 := (Fr.of_below ((Below.refl _ _).alloc (Nat.le_refl _) _)).trans hf1
 clear hf1
 go_wp2_with fail
 refine (putAll_hnd f c Good wb pb mb HE.out HP.out xs ok _ _ _ _ w1 hw1 (fun b hb => Nat.lt_of_lt_of_le (hok b hb) hf0.size) (Fr.step (sP.grow _) HR.out hf0) HG.out (hroom.next (ext_nums (n := 1) (zs := [(xs.length : Int)]) (by simp; omega) (by simp)) (Nat.le_refl _)) hlen).mono ?_
 intro e w2 hq
 obtain ⟨rfl,hw2,hf2⟩ := hq
 go_wp2_with fail
 exact bodyPost_end (results_none rfl _ _ _) rfl ⟨rfl,hw2,hf0.trans hf2⟩
theorem putList_mth (f : Mth -> WS -> WS) (c : Mth -> Nat) (Good : Mth -> Prop) (wb pb mb : Nat) (hext : ∀ x,Good x -> Ext (f x) (c x)) (hput : ∀ x,Good x -> ∀ (ok : Nat -> Prop) (vs : List Value) (st : WS) (w : World),Wt w ok wb pb mb st -> (∀ b,ok b -> b < w.heap.size) -> mP ok w vs x -> Room st (c x) -> Calls Tryz.prog 56 #[.pointer (some ⟨wb,0,none⟩),.agg vs.toArray] w (Wrote ok wb pb mb (f x st) w))
  (xs : List Mth) (ok : Nat -> Prop) (p : Option Addr) (n cap : Nat) (st : WS) (w : World) (hw : Wt w ok wb pb mb st) (hok : ∀ b,ok b -> b < w.heap.size) (hr : RdX 9 mP ok w (.slice p n cap) xs) (hg : ∀ x ∈ xs,Good x) (hroom : Room st (1 + (xs.map c).sum)) (hlen : xs.length <= 1000000) :
  Calls Tryz.prog 55 #[.pointer (some ⟨wb,0,none⟩),.slice p n cap,.func (.func 56) #[] #[]] w (Wrote ok wb pb mb (wList f xs st) w) := by
 obtain ⟨p',c',e,_⟩ := hr.len
 simp only [Value.slice.injEq] at e
 obtain ⟨rfl,rfl,rfl⟩ := e
 have HR := hid hr
 have HP := hid hput
 have HE := hid hext
 have HG := hid hg
 clear hr hput hext hg
 go_enter Tryz.func55,Tryz.ntmps55
 go_wp2_with fail
 refine (num_w ok wb pb mb st (xs.length : Int) w _ hw hok (by omega) (by omega) (hroom.le (by omega))).mono ?_
 intro e w1 hq
 obtain ⟨rfl,hw1,hf1⟩ := hq
 have hf0 : Fr ok w w1 := (Fr.of_below ((Below.refl _ _).alloc (Nat.le_refl _) _)).trans hf1
 clear hf1
 go_wp2_with fail
 refine (putAll_mth f c Good wb pb mb HE.out HP.out xs ok _ _ _ _ w1 hw1 (fun b hb => Nat.lt_of_lt_of_le (hok b hb) hf0.size) (Fr.step mP.grow HR.out hf0) HG.out (hroom.next (ext_nums (n := 1) (zs := [(xs.length : Int)]) (by simp; omega) (by simp)) (Nat.le_refl _)) hlen).mono ?_
 intro e w2 hq
 obtain ⟨rfl,hw2,hf2⟩ := hq
 go_wp2_with fail
 exact bodyPost_end (results_none rfl _ _ _) rfl ⟨rfl,hw2,hf0.trans hf2⟩
theorem putList_cls (f : Cls -> WS -> WS) (c : Cls -> Nat) (Good : Cls -> Prop) (wb pb mb : Nat) (hext : ∀ x,Good x -> Ext (f x) (c x)) (hput : ∀ x,Good x -> ∀ (ok : Nat -> Prop) (vs : List Value) (st : WS) (w : World),Wt w ok wb pb mb st -> (∀ b,ok b -> b < w.heap.size) -> cP ok w vs x -> Room st (c x) -> Calls Tryz.prog 42 #[.pointer (some ⟨wb,0,none⟩),.agg vs.toArray] w (Wrote ok wb pb mb (f x st) w))
  (xs : List Cls) (ok : Nat -> Prop) (p : Option Addr) (n cap : Nat) (st : WS) (w : World) (hw : Wt w ok wb pb mb st) (hok : ∀ b,ok b -> b < w.heap.size) (hr : RdX 6 cP ok w (.slice p n cap) xs) (hg : ∀ x ∈ xs,Good x) (hroom : Room st (1 + (xs.map c).sum)) (hlen : xs.length <= 1000000) :
  Calls Tryz.prog 41 #[.pointer (some ⟨wb,0,none⟩),.slice p n cap,.func (.func 42) #[] #[]] w (Wrote ok wb pb mb (wList f xs st) w) := by
 obtain ⟨p',c',e,_⟩ := hr.len
 simp only [Value.slice.injEq] at e
 obtain ⟨rfl,rfl,rfl⟩ := e
 have HR := hid hr
 have HP := hid hput
 have HE := hid hext
 have HG := hid hg
 clear hr hput hext hg
 go_enter Tryz.func41,Tryz.ntmps41
 go_wp2_with fail
 refine (num_w ok wb pb mb st (xs.length : Int) w _ hw hok (by omega) (by omega) (hroom.le (by omega))).mono ?_
 intro e w1 hq
 obtain ⟨rfl,hw1,hf1⟩ := hq
 have hf0 : Fr ok w w1 := (Fr.of_below ((Below.refl _ _).alloc (Nat.le_refl _) _)).trans hf1
 clear hf1
 go_wp2_with fail
 refine (putAll_cls f c Good wb pb mb HE.out HP.out xs ok _ _ _ _ w1 hw1 (fun b hb => Nat.lt_of_lt_of_le (hok b hb) hf0.size) (Fr.step cP.grow HR.out hf0) HG.out (hroom.next (ext_nums (n := 1) (zs := [(xs.length : Int)]) (by simp; omega) (by simp)) (Nat.le_refl _)) hlen).mono ?_
 intro e w2 hq
 obtain ⟨rfl,hw2,hf2⟩ := hq
 go_wp2_with fail
 exact bodyPost_end (results_none rfl _ _ _) rfl ⟨rfl,hw2,hf0.trans hf2⟩
end Go.Proofs.YtofnbapnmhibaaaGreat.A
namespace Go.Proofs.YtofnbapnmhibaaaGreat.A
open Go.RowKit Go.Proofs.YtofnbapnmhibaaaGreat.D Go.Proofs.YtofnbapnmhibaaaGreat.O
theorem text_put (wb pb mb : Nat) (x : ByteArray) (hx : x.size <= 1000) (ok : Nat -> Prop) (vs : List Value) (st : WS) (w : World) (hw : Wt w ok wb pb mb st) (hok : ∀ b,ok b -> b < w.heap.size) (_hv : (sP strC) ok w vs x) (hroom : Room st 1) :
  Calls Tryz.prog 51 #[.pointer (some ⟨wb,0,none⟩),.string x] w (Wrote ok wb pb mb (wText x st) w) := text_w ok wb pb mb st x w hw hok hx hroom
theorem field_put (wb pb mb : Nat) (x : Fld) (hx : fldB x = true) (ok : Nat -> Prop) (vs : List Value) (st : WS) (w : World) (hw : Wt w ok wb pb mb st) (hok : ∀ b,ok b -> b < w.heap.size) (hv : (sP fldC) ok w vs x) (hroom : Room st 3) :
  Calls Tryz.prog 54 #[.pointer (some ⟨wb,0,none⟩),.agg vs.toArray] w (Wrote ok wb pb mb (wFld x st) w) := by
 obtain ⟨s0,⟨s1,s2⟩,s3⟩ := x
 have hvs : vs = [.string s0,.int .i64 s1,.string s2,.bool s3] := hv
 subst hvs
 unfold fldB holdsB at hx
 simp only [Bool.and_eq_true] at hx
 have g1 := name_size hx.1
 have g2 := typeT_size hx.2.1
 have g3 : s2.size <= 64 := by
  have := hx.2.1
  unfold rightB at this
  split at this
  ·exact name_size this
  ·simp only [Bool.and_eq_true,decide_eq_true_eq] at this; omega
 clear hv hx
 have R1 := hroom.next (b := 2) (ext_text (s := s0) (by omega)) (by decide)
 have R2 := R1.next (b := 1) (ext_text (s := typeT s1 s2) (by omega)) (by decide)
 have H0 := Sit.start [.string s0,.int .i64 s1,.string s2,.bool s3] 85 hw hok
 go_enter Tryz.func54,Tryz.ntmps54
 go_wp2_with fail
 refine (text_w _ wb pb mb _ s0 _ H0.1 H0.2.1 (by omega) (hroom.le (by decide))).mono ?_
 intro e w1 hq
 obtain ⟨rfl,H1⟩ := H0.wrote hq
 clear hq
 obtain ⟨a1_0,a1_1,a1_2,a1_3⟩ := z4 H1.2.2.1
 have hX1 := H1.2.1 _ (.inr rfl)
 go_wp2_with fail
 refine (type_any s1 s2 _ (by omega)).mono ?_
 rintro e w2 ⟨rfl,hb2⟩
 have H2 := H1.below hb2
 obtain ⟨a2_0,a2_1,a2_2,a2_3⟩ := z4 H2.2.2.1
 have hX2 := H2.2.1 _ (.inr rfl)
 go_wp2_with fail
 refine (text_w _ wb pb mb _ (typeT s1 s2) _ H2.1 H2.2.1 (by omega) (R1.le (by decide))).mono ?_
 intro e w3 hq
 obtain ⟨rfl,H3⟩ := H2.wrote hq
 clear hq
 obtain ⟨a3_0,a3_1,a3_2,a3_3⟩ := z4 H3.2.2.1
 have hX3 := H3.2.1 _ (.inr rfl)
 go_wp2_with fail
 refine (bit_any s3 1 _).mono ?_
 rintro e w' ⟨rfl,rfl⟩
 go_wp2_with fail
 refine (num_w _ wb pb mb _ (bitN s3 1) _ _ H3.1 H3.2.1 (by unfold bitN; split <;> decide) (by unfold bitN; split <;> decide) R2).mono ?_
 intro e w4 hq
 obtain ⟨rfl,H4⟩ := (H3.alloc _).wrote hq
 clear hq
 obtain ⟨a4_0,a4_1,a4_2,a4_3⟩ := z4 H4.2.2.1
 have hX4 := H4.2.1 _ (.inr rfl)
 go_wp2_with fail
 exact bodyPost_end (results_none rfl _ _ _) rfl H4.fin
theorem handler_put (wb pb mb : Nat) (x : Hnd) (hx : hndB x = true) (ok : Nat -> Prop) (vs : List Value) (st : WS) (w : World) (hw : Wt w ok wb pb mb st) (hok : ∀ b,ok b -> b < w.heap.size) (hv : (sP hndC) ok w vs x) (hroom : Room st 2) :
  Calls Tryz.prog 75 #[.pointer (some ⟨wb,0,none⟩),.agg vs.toArray] w (Wrote ok wb pb mb (wHnd x st) w) := by
 obtain ⟨s0,s1,s2,s3⟩ := x
 have hvs : vs = [.int .i64 s0,.int .i64 s1,.int .i64 s2,.string s3] := hv
 subst hvs
 unfold hndB at hx
 simp only [Bool.and_eq_true,upToB_iff] at hx
 obtain ⟨⟨⟨b0,b1⟩,b2⟩,hn⟩ := hx
 have g1 := name_size hn
 clear hv hn
 have R1 := hroom.next (b := 1) (ext_nums (n := 1) (zs := [s0,s1,s2]) (by
  intro u hu
  simp only [List.mem_cons,List.not_mem_nil,or_false] at hu
  rcases hu with rfl | rfl | rfl <;> omega) (by simp)) (by decide)
 have H0 := Sit.start [.int .i64 s0,.int .i64 s1,.int .i64 s2,.string s3] 33 hw hok
 go_enter Tryz.func75,Tryz.ntmps75
 go_wp2_with fail
 refine (num3_w (w.heap.size + 1) _ wb pb mb _ s0 s1 s2 _ (by simp) _ H0.1 H0.2.1 b0 b1 b2 (hroom.le (by decide))).mono ?_
 intro e w1 hq
 obtain ⟨rfl,H1⟩ := (H0.alloc _).wrote hq
 clear hq
 obtain ⟨a1_0,a1_1,a1_2,a1_3⟩ := z4 H1.2.2.1
 have hX1 := H1.2.1 _ (.inr rfl)
 go_wp2_with fail
 refine (text_w _ wb pb mb _ s3 _ H1.1 H1.2.1 (by omega) R1).mono ?_
 intro e w2 hq
 obtain ⟨rfl,H2⟩ := H1.wrote hq
 clear hq
 obtain ⟨a2_0,a2_1,a2_2,a2_3⟩ := z4 H2.2.2.1
 have hX2 := H2.2.1 _ (.inr rfl)
 go_wp2_with fail
 exact bodyPost_end (results_none rfl _ _ _) rfl H2.fin
end Go.Proofs.YtofnbapnmhibaaaGreat.A
