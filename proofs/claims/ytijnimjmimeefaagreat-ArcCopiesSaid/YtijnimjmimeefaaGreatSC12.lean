/- Texts that the proof is made of, joined. No condition. -/
import Derived.Test.YtijnimjmimeefaaGreatSC4
import Derived.Test.YtijnimjmimeefaaGreatSCH
set_option linter.unusedVariables false
set_option linter.unusedSimpArgs false
set_option maxRecDepth 100000
set_option maxHeartbeats 16000000
namespace Go.Proofs.YtijnimjmimeefaaGreat.A
open Go.RowKit Go.Proofs.YtijnimjmimeefaaGreat.D Go.Proofs.YtijnimjmimeefaaGreat.O
abbrev okX (ok : Nat -> Prop) (X : Nat) : Nat -> Prop := fun b => ok b ∨ b = X
def Sit (w : World) (ok : Nat -> Prop) (X : Nat) (vs : List Value) (wb pb mb : Nat) (st : WS) (w0 : World) : Prop :=
 Wt w (okX ok X) wb pb mb st /\ (∀ x, okX ok X x -> x < w.heap.size) /\ CellsAt w X 0 vs /\ Fr ok w0 w
theorem cells_new (w : World) (vs : List Value) (T : TypeId) : CellsAt (w.alloc (.cells vs.toArray T)) w.heap.size 0 vs := by
 intro j u hu
 simp [hu]
theorem Sit.start {w : World} {ok : Nat -> Prop} {wb pb mb : Nat} {st : WS} (vs : List Value) (T : TypeId) (h : Wt w ok wb pb mb st) (hok : ∀ x, ok x -> x < w.heap.size) : Sit (w.alloc (.cells vs.toArray T)) ok w.heap.size vs wb pb mb st w := by
 have hb : Below w.heap.size w (w.alloc (.cells vs.toArray T)) := (Below.refl _ _).alloc (Nat.le_refl _) _
 refine ⟨h.below hb (fun _ hx => hx.imp id (fun e => by omega)), fun x hx => ?_, cells_new _ _ _, .of_below hb⟩
 rcases hx with hx | hx
 ·have := hok x hx; simp; omega
 ·simp; omega
theorem Sit.below {w w' w0 : World} {ok : Nat -> Prop} {X : Nat} {vs : List Value} {wb pb mb : Nat} {st : WS} (h : Sit w ok X vs wb pb mb st w0) (hb : Below w.heap.size w w') : Sit w' ok X vs wb pb mb st w0 :=
 ⟨h.1.below hb (fun _ hx => .inl hx), fun x hx => Nat.lt_of_lt_of_le (h.2.1 x hx) hb.size, h.2.2.1.below hb (h.2.1 X (.inr rfl)), h.2.2.2.trans (.of_below hb)⟩
theorem Sit.alloc {w w0 : World} {ok : Nat -> Prop} {X : Nat} {vs : List Value} {wb pb mb : Nat} {st : WS} (h : Sit w ok X vs wb pb mb st w0) (o : Obj) : Sit (w.alloc o) ok X vs wb pb mb st w0 := h.below ((Below.refl _ _).alloc (Nat.le_refl _) _)
theorem Sit.drew {w w0 : World} {ok : Nat -> Prop} {X : Nat} {vs : List Value} {wb pb mb : Nat} {st : WS} (h : Sit w ok X vs wb pb mb st w0) : Sit w.drew ok X vs wb pb mb st w0 := h.below (Below.refl _ _).drew
theorem Sit.wrote {w w' w0 : World} {ok : Nat -> Prop} {X : Nat} {vs : List Value} {wb pb mb : Nat} {st st' : WS} {e : Ending} (h : Sit w ok X vs wb pb mb st w0) (hq : Wrote (okX ok X) wb pb mb st' w e w') : e = .returned (.tuple #[]) /\ Sit w' ok X vs wb pb mb st' w0 :=
 ⟨hq.1, hq.2.1, fun x hx => Nat.lt_of_lt_of_le (h.2.1 x hx) hq.2.2.size, Fr.cells h.2.2.1 hq.2.2 (.inr rfl), h.2.2.2.trans (hq.2.2.mono (fun _ hx _ => .inl hx))⟩
theorem Sit.fin {w w0 : World} {ok : Nat -> Prop} {X : Nat} {vs : List Value} {wb pb mb : Nat} {st : WS} (h : Sit w ok X vs wb pb mb st w0) : Wrote ok wb pb mb st w0 (.returned (.tuple #[])) w := ⟨rfl, h.1.weak (fun _ hx => .inl hx), h.2.2.2⟩
theorem Sit.rd {α : Type} {sz : Nat} {P : Pv α} (hP : MonoG P) {w w0 : World} {ok : Nat -> Prop} {X : Nat} {vs : List Value} {wb pb mb : Nat} {st : WS} (h : Sit w ok X vs wb pb mb st w0) {v : Value} {xs : List α} (hr : RdX sz P ok w0 v xs) : RdX sz P (okX ok X) w v xs :=
 hr.step hP (fun _ h _ => .inl h) h.2.2.2.2 h.2.2.2.size
theorem num_w (ok : Nat -> Prop) (wb pb mb : Nat) (st : WS) (z : Int) (w : World) (T : TypeId) (h : Wt w ok wb pb mb st) (hok : ∀ x, ok x -> x < w.heap.size) (h0 : -9223372036854775808 <= z) (h1 : z <= 9223372036854775807) (hr : Room st 1) :
  Calls Tryz.prog 113 #[.pointer (some ⟨wb, 0, none⟩), .slice (some ⟨w.heap.size, 0, none⟩) 1 1] (w.alloc (.cells #[.int .i64 z] T)) (Wrote ok wb pb mb (wNums [z] st) (w.alloc (.cells #[.int .i64 z] T))) :=
 nums_w ok wb pb mb st _ 1 1 [z] 1 _ (h.below ((Below.refl _ _).alloc (Nat.le_refl _) _) (fun x hx => .inl hx)) (fun x hx => by have := hok x hx; simp; omega) (by simpa using h1) (by simp) (by decide) hr
  (rdI_lit (vs := [.int .i64 z]) (zs := [z]) T rfl (by simpa using ⟨h0, h1⟩)) (fun g hg => by cases hg; simp)
theorem putAll_str (f : ByteArray -> WS -> WS) (c : ByteArray -> Nat) (Good : ByteArray -> Prop) (wb pb mb : Nat) (hext : ∀ x, Good x -> Ext (f x) (c x)) (hput : ∀ x, Good x -> ∀ (ok : Nat -> Prop) (vs : List Value) (st : WS) (w : World), Wt w ok wb pb mb st -> (∀ b, ok b -> b < w.heap.size) -> (sP strC) ok w vs x -> Room st (c x) -> Calls Tryz.prog 115 #[.pointer (some ⟨wb, 0, none⟩), .string x] w (Wrote ok wb pb mb (f x st) w)) :
  ∀ (xs : List ByteArray) (ok : Nat -> Prop) (p : Option Addr) (n cap : Nat) (st : WS) (w : World), Wt w ok wb pb mb st -> (∀ b, ok b -> b < w.heap.size) -> RdX 1 (sP strC) ok w (.slice p n cap) xs -> (∀ x ∈ xs, Good x) -> Room st ((xs.map c).sum) -> xs.length <= 1000000 ->
  Calls Tryz.prog 162 #[.pointer (some ⟨wb, 0, none⟩), .slice p n cap, .func (.func 115) #[] #[]] w (Wrote ok wb pb mb (wAll f xs st) w) := by
 intro xs
 induction xs with
 | nil =>
  intro ok p n cap st w hw hok hr _ _ _
  obtain ⟨p', c', e, _⟩ := hr.len
  simp only [Value.slice.injEq, List.length_nil] at e
  obtain ⟨rfl, rfl, rfl⟩ := e
  clear hr
  go_enter Tryz.func162, Tryz.ntmps162
  go_wp2_with fail
  exact bodyPost_ret (results_none rfl _ _ _) rfl ⟨rfl, hw, Fr.refl _ _⟩
 | cons x l ih =>
  intro ok p n cap st w hw hok hr hg hroom hlen
  obtain ⟨b, off, rfl, hn, hcap, hob, hlt, hc⟩ := hr.place (by simp)
  have hx := hg x (by simp)
  have hext' := hext x hx
  have hroom1 : Room st (c x) := hroom.le (by rw [List.map_cons, List.sum_cons]; omega)
  have hroom2 : Room (f x st) ((l.map c).sum) := hroom.next hext' (by rw [List.map_cons, List.sum_cons]; omega)
  have hgl : ∀ y ∈ l, Good y := fun y hy => hg y (by simp [hy])
  have hc0 := CellsAt.one (sP_at (c := strC) (ok := ok) (hc 0 x rfl))
  have hvs : (sP strC) ok w (strC x) x := rfl
  rw [Nat.zero_mul, Nat.add_zero] at hc0
  have h0 : 0 < n := by rw [hn]; simp
  have hnz : ((n : Int) == 0) = false := beq_eq_false_iff_ne.2 (by omega)
  have hn1 : n <= 1000000 := by rw [hn]; exact hlen
  have hl1 : 1 <= n := h0
  have HN := hid hn
  have HR := hid hr
  have HV := hid hvs
  have HI := hid ih
  have HG := hid hgl
  clear hn hr hvs ih hgl hg hc hroom
  have htail : ∀ w', Fr ok w w' -> (cap = 1 -> RdX 1 (sP strC) ok w' (.slice (some ⟨b, off, none⟩) (n - 1) 0) l) /\ (¬ cap = 1 -> RdX 1 (sP strC) ok w' (.slice (some ⟨b, off + 1, none⟩) (n - 1) (cap - 1)) l) := by
   intro w' hf
   have hN := HN.out
   rw [List.length_cons] at hN
   have hN1 : n - 1 = l.length := by omega
   rw [hN1]
   refine ⟨fun hcp => ?_, fun hcp => ?_⟩
   ·have hl0 : l = [] := List.eq_nil_of_length_eq_zero (by omega)
    subst hl0
    exact RdX.empty
   ·by_cases hl0 : l = []
    ·subst hl0
     exact ⟨_, _, rfl, by simp, (fun h => by cases h), .inl rfl⟩
    ·have hR := HR.out
     rw [HN.out] at hR
     exact Fr.step (sP.grow _) hR.tail hf
  have HT := hid htail
  clear htail
  by_cases hcp : cap = 1
  all_goals
   go_enter Tryz.func162, Tryz.ntmps162
   go_wp2_with fail
   refine (hput x hx ok _ st _ hw hok HV.out hroom1).mono ?_
   rintro e w1 ⟨rfl, hw1, hf1⟩
   go_wp2_with fail
   refine (HI.out ok _ _ _ (f _ st) w1 hw1 (fun b hb => Nat.lt_of_lt_of_le (hok b hb) hf1.size) (by first | exact (HT.out w1 hf1).1 hcp | exact (HT.out w1 hf1).1 rfl | exact (HT.out w1 hf1).2 hcp) HG.out hroom2 (by have hN := HN.out; rw [List.length_cons] at hN; omega)).mono ?_
   intro e w2 hq
   obtain ⟨rfl, hw2, hf2⟩ := hq
   go_wp2_with fail
   exact bodyPost_end (results_none rfl _ _ _) rfl ⟨rfl, hw2, hf1.trans hf2⟩
theorem putAll_fld (f : Fld -> WS -> WS) (c : Fld -> Nat) (Good : Fld -> Prop) (wb pb mb : Nat) (hext : ∀ x, Good x -> Ext (f x) (c x)) (hput : ∀ x, Good x -> ∀ (ok : Nat -> Prop) (vs : List Value) (st : WS) (w : World), Wt w ok wb pb mb st -> (∀ b, ok b -> b < w.heap.size) -> (sP fldC) ok w vs x -> Room st (c x) -> Calls Tryz.prog 118 #[.pointer (some ⟨wb, 0, none⟩), .agg vs.toArray] w (Wrote ok wb pb mb (f x st) w)) :
  ∀ (xs : List Fld) (ok : Nat -> Prop) (p : Option Addr) (n cap : Nat) (st : WS) (w : World), Wt w ok wb pb mb st -> (∀ b, ok b -> b < w.heap.size) -> RdX 4 (sP fldC) ok w (.slice p n cap) xs -> (∀ x ∈ xs, Good x) -> Room st ((xs.map c).sum) -> xs.length <= 1000000 ->
  Calls Tryz.prog 163 #[.pointer (some ⟨wb, 0, none⟩), .slice p n cap, .func (.func 118) #[] #[]] w (Wrote ok wb pb mb (wAll f xs st) w) := by
 intro xs
 induction xs with
 | nil =>
  intro ok p n cap st w hw hok hr _ _ _
  obtain ⟨p', c', e, _⟩ := hr.len
  simp only [Value.slice.injEq, List.length_nil] at e
  obtain ⟨rfl, rfl, rfl⟩ := e
  clear hr
  go_enter Tryz.func163, Tryz.ntmps163
  go_wp2_with fail
  exact bodyPost_ret (results_none rfl _ _ _) rfl ⟨rfl, hw, Fr.refl _ _⟩
 | cons x l ih =>
  intro ok p n cap st w hw hok hr hg hroom hlen
  obtain ⟨b, off, rfl, hn, hcap, hob, hlt, hc⟩ := hr.place (by simp)
  have hx := hg x (by simp)
  have hext' := hext x hx
  have hroom1 : Room st (c x) := hroom.le (by rw [List.map_cons, List.sum_cons]; omega)
  have hroom2 : Room (f x st) ((l.map c).sum) := hroom.next hext' (by rw [List.map_cons, List.sum_cons]; omega)
  have hgl : ∀ y ∈ l, Good y := fun y hy => hg y (by simp [hy])
  have hcl := sP_at (ok := ok) (hc 0 x rfl)
  have hvs : (sP fldC) ok w _ x := rfl
  obtain ⟨s0, ⟨s1, s2⟩, s3⟩ := x
  rw [Nat.zero_mul, Nat.add_zero] at hcl
  obtain ⟨hc0, hc1, hc2, hc3⟩ := CellsAt.four hcl
  have h0 : 0 < n := by rw [hn]; simp
  have hnz : ((n : Int) == 0) = false := beq_eq_false_iff_ne.2 (by omega)
  have hn1 : n <= 1000000 := by rw [hn]; exact hlen
  have hl1 : 1 <= n := h0
  have HN := hid hn
  have HR := hid hr
  have HV := hid hvs
  have HI := hid ih
  have HG := hid hgl
  clear hn hr hvs ih hgl hg hc hroom
  clear hcl
  have htail : ∀ w', Fr ok w w' -> (cap = 1 -> RdX 4 (sP fldC) ok w' (.slice (some ⟨b, off, none⟩) (n - 1) 0) l) /\ (¬ cap = 1 -> RdX 4 (sP fldC) ok w' (.slice (some ⟨b, off + 4, none⟩) (n - 1) (cap - 1)) l) := by
   intro w' hf
   have hN := HN.out
   rw [List.length_cons] at hN
   have hN1 : n - 1 = l.length := by omega
   rw [hN1]
   refine ⟨fun hcp => ?_, fun hcp => ?_⟩
   ·have hl0 : l = [] := List.eq_nil_of_length_eq_zero (by omega)
    subst hl0
    exact RdX.empty
   ·by_cases hl0 : l = []
    ·subst hl0
     exact ⟨_, _, rfl, by simp, (fun h => by cases h), .inl rfl⟩
    ·have hR := HR.out
     rw [HN.out] at hR
     exact Fr.step (sP.grow _) hR.tail hf
  have HT := hid htail
  clear htail
  by_cases hcp : cap = 1
  all_goals
   go_enter Tryz.func163, Tryz.ntmps163
   go_wp2_with fail
   refine (hput _ hx ok _ st _ hw hok HV.out hroom1).mono ?_
   rintro e w1 ⟨rfl, hw1, hf1⟩
   go_wp2_with fail
   refine (HI.out ok _ _ _ (f _ st) w1 hw1 (fun b hb => Nat.lt_of_lt_of_le (hok b hb) hf1.size) (by first | exact (HT.out w1 hf1).1 hcp | exact (HT.out w1 hf1).1 rfl | exact (HT.out w1 hf1).2 hcp) HG.out hroom2 (by have hN := HN.out; rw [List.length_cons] at hN; omega)).mono ?_
   intro e w2 hq
   obtain ⟨rfl, hw2, hf2⟩ := hq
   go_wp2_with fail
   exact bodyPost_end (results_none rfl _ _ _) rfl ⟨rfl, hw2, hf1.trans hf2⟩
theorem putAll_ins (f : Ins -> WS -> WS) (c : Ins -> Nat) (Good : Ins -> Prop) (wb pb mb : Nat) (hext : ∀ x, Good x -> Ext (f x) (c x)) (hput : ∀ x, Good x -> ∀ (ok : Nat -> Prop) (vs : List Value) (st : WS) (w : World), Wt w ok wb pb mb st -> (∀ b, ok b -> b < w.heap.size) -> (sP insC) ok w vs x -> Room st (c x) -> Calls Tryz.prog 169 #[.pointer (some ⟨wb, 0, none⟩), .agg vs.toArray] w (Wrote ok wb pb mb (f x st) w)) :
  ∀ (xs : List Ins) (ok : Nat -> Prop) (p : Option Addr) (n cap : Nat) (st : WS) (w : World), Wt w ok wb pb mb st -> (∀ b, ok b -> b < w.heap.size) -> RdX 7 (sP insC) ok w (.slice p n cap) xs -> (∀ x ∈ xs, Good x) -> Room st ((xs.map c).sum) -> xs.length <= 1000000 ->
  Calls Tryz.prog 200 #[.pointer (some ⟨wb, 0, none⟩), .slice p n cap, .func (.func 169) #[] #[]] w (Wrote ok wb pb mb (wAll f xs st) w) := by
 intro xs
 induction xs with
 | nil =>
  intro ok p n cap st w hw hok hr _ _ _
  obtain ⟨p', c', e, _⟩ := hr.len
  simp only [Value.slice.injEq, List.length_nil] at e
  obtain ⟨rfl, rfl, rfl⟩ := e
  clear hr
  go_enter Tryz.func200, Tryz.ntmps200
  go_wp2_with fail
  exact bodyPost_ret (results_none rfl _ _ _) rfl ⟨rfl, hw, Fr.refl _ _⟩
 | cons x l ih =>
  intro ok p n cap st w hw hok hr hg hroom hlen
  obtain ⟨b, off, rfl, hn, hcap, hob, hlt, hc⟩ := hr.place (by simp)
  have hx := hg x (by simp)
  have hext' := hext x hx
  have hroom1 : Room st (c x) := hroom.le (by rw [List.map_cons, List.sum_cons]; omega)
  have hroom2 : Room (f x st) ((l.map c).sum) := hroom.next hext' (by rw [List.map_cons, List.sum_cons]; omega)
  have hgl : ∀ y ∈ l, Good y := fun y hy => hg y (by simp [hy])
  have hcl := sP_at (ok := ok) (hc 0 x rfl)
  have hvs : (sP insC) ok w _ x := rfl
  obtain ⟨s0, s1, s2, s3, s4, s5, s6⟩ := x
  rw [Nat.zero_mul, Nat.add_zero] at hcl
  obtain ⟨hc0, hc1, hc2, hc3, hc4, hc5, hc6⟩ := CellsAt.seven hcl
  have h0 : 0 < n := by rw [hn]; simp
  have hnz : ((n : Int) == 0) = false := beq_eq_false_iff_ne.2 (by omega)
  have hn1 : n <= 1000000 := by rw [hn]; exact hlen
  have hl1 : 1 <= n := h0
  have HN := hid hn
  have HR := hid hr
  have HV := hid hvs
  have HI := hid ih
  have HG := hid hgl
  clear hn hr hvs ih hgl hg hc hroom
  clear hcl
  have htail : ∀ w', Fr ok w w' -> (cap = 1 -> RdX 7 (sP insC) ok w' (.slice (some ⟨b, off, none⟩) (n - 1) 0) l) /\ (¬ cap = 1 -> RdX 7 (sP insC) ok w' (.slice (some ⟨b, off + 7, none⟩) (n - 1) (cap - 1)) l) := by
   intro w' hf
   have hN := HN.out
   rw [List.length_cons] at hN
   have hN1 : n - 1 = l.length := by omega
   rw [hN1]
   refine ⟨fun hcp => ?_, fun hcp => ?_⟩
   ·have hl0 : l = [] := List.eq_nil_of_length_eq_zero (by omega)
    subst hl0
    exact RdX.empty
   ·by_cases hl0 : l = []
    ·subst hl0
     exact ⟨_, _, rfl, by simp, (fun h => by cases h), .inl rfl⟩
    ·have hR := HR.out
     rw [HN.out] at hR
     exact Fr.step (sP.grow _) hR.tail hf
  have HT := hid htail
  clear htail
  by_cases hcp : cap = 1
  all_goals
   go_enter Tryz.func200, Tryz.ntmps200
   go_wp2_with fail
   refine (hput _ hx ok _ st _ hw hok HV.out hroom1).mono ?_
   rintro e w1 ⟨rfl, hw1, hf1⟩
   go_wp2_with fail
   refine (HI.out ok _ _ _ (f _ st) w1 hw1 (fun b hb => Nat.lt_of_lt_of_le (hok b hb) hf1.size) (by first | exact (HT.out w1 hf1).1 hcp | exact (HT.out w1 hf1).1 rfl | exact (HT.out w1 hf1).2 hcp) HG.out hroom2 (by have hN := HN.out; rw [List.length_cons] at hN; omega)).mono ?_
   intro e w2 hq
   obtain ⟨rfl, hw2, hf2⟩ := hq
   go_wp2_with fail
   exact bodyPost_end (results_none rfl _ _ _) rfl ⟨rfl, hw2, hf1.trans hf2⟩
theorem putAll_hnd (f : Hnd -> WS -> WS) (c : Hnd -> Nat) (Good : Hnd -> Prop) (wb pb mb : Nat) (hext : ∀ x, Good x -> Ext (f x) (c x)) (hput : ∀ x, Good x -> ∀ (ok : Nat -> Prop) (vs : List Value) (st : WS) (w : World), Wt w ok wb pb mb st -> (∀ b, ok b -> b < w.heap.size) -> (sP hndC) ok w vs x -> Room st (c x) -> Calls Tryz.prog 171 #[.pointer (some ⟨wb, 0, none⟩), .agg vs.toArray] w (Wrote ok wb pb mb (f x st) w)) :
  ∀ (xs : List Hnd) (ok : Nat -> Prop) (p : Option Addr) (n cap : Nat) (st : WS) (w : World), Wt w ok wb pb mb st -> (∀ b, ok b -> b < w.heap.size) -> RdX 4 (sP hndC) ok w (.slice p n cap) xs -> (∀ x ∈ xs, Good x) -> Room st ((xs.map c).sum) -> xs.length <= 1000000 ->
  Calls Tryz.prog 202 #[.pointer (some ⟨wb, 0, none⟩), .slice p n cap, .func (.func 171) #[] #[]] w (Wrote ok wb pb mb (wAll f xs st) w) := by
 intro xs
 induction xs with
 | nil =>
  intro ok p n cap st w hw hok hr _ _ _
  obtain ⟨p', c', e, _⟩ := hr.len
  simp only [Value.slice.injEq, List.length_nil] at e
  obtain ⟨rfl, rfl, rfl⟩ := e
  clear hr
  go_enter Tryz.func202, Tryz.ntmps202
  go_wp2_with fail
  exact bodyPost_ret (results_none rfl _ _ _) rfl ⟨rfl, hw, Fr.refl _ _⟩
 | cons x l ih =>
  intro ok p n cap st w hw hok hr hg hroom hlen
  obtain ⟨b, off, rfl, hn, hcap, hob, hlt, hc⟩ := hr.place (by simp)
  have hx := hg x (by simp)
  have hext' := hext x hx
  have hroom1 : Room st (c x) := hroom.le (by rw [List.map_cons, List.sum_cons]; omega)
  have hroom2 : Room (f x st) ((l.map c).sum) := hroom.next hext' (by rw [List.map_cons, List.sum_cons]; omega)
  have hgl : ∀ y ∈ l, Good y := fun y hy => hg y (by simp [hy])
  have hcl := sP_at (ok := ok) (hc 0 x rfl)
  have hvs : (sP hndC) ok w _ x := rfl
  obtain ⟨s0, s1, s2, s3⟩ := x
  rw [Nat.zero_mul, Nat.add_zero] at hcl
  obtain ⟨hc0, hc1, hc2, hc3⟩ := CellsAt.four hcl
  have h0 : 0 < n := by rw [hn]; simp
  have hnz : ((n : Int) == 0) = false := beq_eq_false_iff_ne.2 (by omega)
  have hn1 : n <= 1000000 := by rw [hn]; exact hlen
  have hl1 : 1 <= n := h0
  have HN := hid hn
  have HR := hid hr
  have HV := hid hvs
  have HI := hid ih
  have HG := hid hgl
  clear hn hr hvs ih hgl hg hc hroom
  clear hcl
  have htail : ∀ w', Fr ok w w' -> (cap = 1 -> RdX 4 (sP hndC) ok w' (.slice (some ⟨b, off, none⟩) (n - 1) 0) l) /\ (¬ cap = 1 -> RdX 4 (sP hndC) ok w' (.slice (some ⟨b, off + 4, none⟩) (n - 1) (cap - 1)) l) := by
   intro w' hf
   have hN := HN.out
   rw [List.length_cons] at hN
   have hN1 : n - 1 = l.length := by omega
   rw [hN1]
   refine ⟨fun hcp => ?_, fun hcp => ?_⟩
   ·have hl0 : l = [] := List.eq_nil_of_length_eq_zero (by omega)
    subst hl0
    exact RdX.empty
   ·by_cases hl0 : l = []
    ·subst hl0
     exact ⟨_, _, rfl, by simp, (fun h => by cases h), .inl rfl⟩
    ·have hR := HR.out
     rw [HN.out] at hR
     exact Fr.step (sP.grow _) hR.tail hf
  have HT := hid htail
  clear htail
  by_cases hcp : cap = 1
  all_goals
   go_enter Tryz.func202, Tryz.ntmps202
   go_wp2_with fail
   refine (hput _ hx ok _ st _ hw hok HV.out hroom1).mono ?_
   rintro e w1 ⟨rfl, hw1, hf1⟩
   go_wp2_with fail
   refine (HI.out ok _ _ _ (f _ st) w1 hw1 (fun b hb => Nat.lt_of_lt_of_le (hok b hb) hf1.size) (by first | exact (HT.out w1 hf1).1 hcp | exact (HT.out w1 hf1).1 rfl | exact (HT.out w1 hf1).2 hcp) HG.out hroom2 (by have hN := HN.out; rw [List.length_cons] at hN; omega)).mono ?_
   intro e w2 hq
   obtain ⟨rfl, hw2, hf2⟩ := hq
   go_wp2_with fail
   exact bodyPost_end (results_none rfl _ _ _) rfl ⟨rfl, hw2, hf1.trans hf2⟩
theorem putAll_mth (f : Mth -> WS -> WS) (c : Mth -> Nat) (Good : Mth -> Prop) (wb pb mb : Nat) (hext : ∀ x, Good x -> Ext (f x) (c x)) (hput : ∀ x, Good x -> ∀ (ok : Nat -> Prop) (vs : List Value) (st : WS) (w : World), Wt w ok wb pb mb st -> (∀ b, ok b -> b < w.heap.size) -> mP ok w vs x -> Room st (c x) -> Calls Tryz.prog 120 #[.pointer (some ⟨wb, 0, none⟩), .agg vs.toArray] w (Wrote ok wb pb mb (f x st) w)) :
  ∀ (xs : List Mth) (ok : Nat -> Prop) (p : Option Addr) (n cap : Nat) (st : WS) (w : World), Wt w ok wb pb mb st -> (∀ b, ok b -> b < w.heap.size) -> RdX 9 mP ok w (.slice p n cap) xs -> (∀ x ∈ xs, Good x) -> Room st ((xs.map c).sum) -> xs.length <= 1000000 ->
  Calls Tryz.prog 166 #[.pointer (some ⟨wb, 0, none⟩), .slice p n cap, .func (.func 120) #[] #[]] w (Wrote ok wb pb mb (wAll f xs st) w) := by
 intro xs
 induction xs with
 | nil =>
  intro ok p n cap st w hw hok hr _ _ _
  obtain ⟨p', c', e, _⟩ := hr.len
  simp only [Value.slice.injEq, List.length_nil] at e
  obtain ⟨rfl, rfl, rfl⟩ := e
  clear hr
  go_enter Tryz.func166, Tryz.ntmps166
  go_wp2_with fail
  exact bodyPost_ret (results_none rfl _ _ _) rfl ⟨rfl, hw, Fr.refl _ _⟩
 | cons x l ih =>
  intro ok p n cap st w hw hok hr hg hroom hlen
  obtain ⟨b, off, rfl, hn, hcap, hob, hlt, hc⟩ := hr.place (by simp)
  have hx := hg x (by simp)
  have hext' := hext x hx
  have hroom1 : Room st (c x) := hroom.le (by rw [List.map_cons, List.sum_cons]; omega)
  have hroom2 : Room (f x st) ((l.map c).sum) := hroom.next hext' (by rw [List.map_cons, List.sum_cons]; omega)
  have hgl : ∀ y ∈ l, Good y := fun y hy => hg y (by simp [hy])
  obtain ⟨vs, hvs, hcl⟩ := hc 0 x rfl
  have hvs' := hvs
  obtain ⟨vp, vc, vh, rfl, hd0, hd1, hd2⟩ := hvs'
  rw [Nat.zero_mul, Nat.add_zero] at hcl
  obtain ⟨hc0, hc1, hc2, hc3, hc4, hc5, hc6, hc7, hc8⟩ := CellsAt.nine hcl
  obtain ⟨pvp, cvp, rfl, -⟩ := hd0.len
  obtain ⟨pvc, cvc, rfl, -⟩ := hd1.len
  obtain ⟨pvh, cvh, rfl, -⟩ := hd2.len
  clear hd0 hd1 hd2
  have h0 : 0 < n := by rw [hn]; simp
  have hnz : ((n : Int) == 0) = false := beq_eq_false_iff_ne.2 (by omega)
  have hn1 : n <= 1000000 := by rw [hn]; exact hlen
  have hl1 : 1 <= n := h0
  have HN := hid hn
  have HR := hid hr
  have HV := hid hvs
  have HI := hid ih
  have HG := hid hgl
  clear hn hr hvs ih hgl hg hc hroom
  clear hcl
  have htail : ∀ w', Fr ok w w' -> (cap = 1 -> RdX 9 mP ok w' (.slice (some ⟨b, off, none⟩) (n - 1) 0) l) /\ (¬ cap = 1 -> RdX 9 mP ok w' (.slice (some ⟨b, off + 9, none⟩) (n - 1) (cap - 1)) l) := by
   intro w' hf
   have hN := HN.out
   rw [List.length_cons] at hN
   have hN1 : n - 1 = l.length := by omega
   rw [hN1]
   refine ⟨fun hcp => ?_, fun hcp => ?_⟩
   ·have hl0 : l = [] := List.eq_nil_of_length_eq_zero (by omega)
    subst hl0
    exact RdX.empty
   ·by_cases hl0 : l = []
    ·subst hl0
     exact ⟨_, _, rfl, by simp, (fun h => by cases h), .inl rfl⟩
    ·have hR := HR.out
     rw [HN.out] at hR
     exact Fr.step mP.grow hR.tail hf
  have HT := hid htail
  clear htail
  by_cases hcp : cap = 1
  all_goals
   go_enter Tryz.func166, Tryz.ntmps166
   go_wp2_with fail
   refine (hput _ hx ok _ st _ hw hok HV.out hroom1).mono ?_
   rintro e w1 ⟨rfl, hw1, hf1⟩
   go_wp2_with fail
   refine (HI.out ok _ _ _ (f _ st) w1 hw1 (fun b hb => Nat.lt_of_lt_of_le (hok b hb) hf1.size) (by first | exact (HT.out w1 hf1).1 hcp | exact (HT.out w1 hf1).1 rfl | exact (HT.out w1 hf1).2 hcp) HG.out hroom2 (by have hN := HN.out; rw [List.length_cons] at hN; omega)).mono ?_
   intro e w2 hq
   obtain ⟨rfl, hw2, hf2⟩ := hq
   go_wp2_with fail
   exact bodyPost_end (results_none rfl _ _ _) rfl ⟨rfl, hw2, hf1.trans hf2⟩
theorem putAll_cls (f : Cls -> WS -> WS) (c : Cls -> Nat) (Good : Cls -> Prop) (wb pb mb : Nat) (hext : ∀ x, Good x -> Ext (f x) (c x)) (hput : ∀ x, Good x -> ∀ (ok : Nat -> Prop) (vs : List Value) (st : WS) (w : World), Wt w ok wb pb mb st -> (∀ b, ok b -> b < w.heap.size) -> cP ok w vs x -> Room st (c x) -> Calls Tryz.prog 72 #[.pointer (some ⟨wb, 0, none⟩), .agg vs.toArray] w (Wrote ok wb pb mb (f x st) w)) :
  ∀ (xs : List Cls) (ok : Nat -> Prop) (p : Option Addr) (n cap : Nat) (st : WS) (w : World), Wt w ok wb pb mb st -> (∀ b, ok b -> b < w.heap.size) -> RdX 6 cP ok w (.slice p n cap) xs -> (∀ x ∈ xs, Good x) -> Room st ((xs.map c).sum) -> xs.length <= 1000000 ->
  Calls Tryz.prog 114 #[.pointer (some ⟨wb, 0, none⟩), .slice p n cap, .func (.func 72) #[] #[]] w (Wrote ok wb pb mb (wAll f xs st) w) := by
 intro xs
 induction xs with
 | nil =>
  intro ok p n cap st w hw hok hr _ _ _
  obtain ⟨p', c', e, _⟩ := hr.len
  simp only [Value.slice.injEq, List.length_nil] at e
  obtain ⟨rfl, rfl, rfl⟩ := e
  clear hr
  go_enter Tryz.func114, Tryz.ntmps114
  go_wp2_with fail
  exact bodyPost_ret (results_none rfl _ _ _) rfl ⟨rfl, hw, Fr.refl _ _⟩
 | cons x l ih =>
  intro ok p n cap st w hw hok hr hg hroom hlen
  obtain ⟨b, off, rfl, hn, hcap, hob, hlt, hc⟩ := hr.place (by simp)
  have hx := hg x (by simp)
  have hext' := hext x hx
  have hroom1 : Room st (c x) := hroom.le (by rw [List.map_cons, List.sum_cons]; omega)
  have hroom2 : Room (f x st) ((l.map c).sum) := hroom.next hext' (by rw [List.map_cons, List.sum_cons]; omega)
  have hgl : ∀ y ∈ l, Good y := fun y hy => hg y (by simp [hy])
  obtain ⟨vs, hvs, hcl⟩ := hc 0 x rfl
  have hvs' := hvs
  obtain ⟨vi, vf, vm, rfl, hd0, hd1, hd2⟩ := hvs'
  rw [Nat.zero_mul, Nat.add_zero] at hcl
  obtain ⟨hc0, hc1, hc2, hc3, hc4, hc5⟩ := CellsAt.six hcl
  obtain ⟨pvi, cvi, rfl, -⟩ := hd0.len
  obtain ⟨pvf, cvf, rfl, -⟩ := hd1.len
  obtain ⟨pvm, cvm, rfl, -⟩ := hd2.len
  clear hd0 hd1 hd2
  have h0 : 0 < n := by rw [hn]; simp
  have hnz : ((n : Int) == 0) = false := beq_eq_false_iff_ne.2 (by omega)
  have hn1 : n <= 1000000 := by rw [hn]; exact hlen
  have hl1 : 1 <= n := h0
  have HN := hid hn
  have HR := hid hr
  have HV := hid hvs
  have HI := hid ih
  have HG := hid hgl
  clear hn hr hvs ih hgl hg hc hroom
  clear hcl
  have htail : ∀ w', Fr ok w w' -> (cap = 1 -> RdX 6 cP ok w' (.slice (some ⟨b, off, none⟩) (n - 1) 0) l) /\ (¬ cap = 1 -> RdX 6 cP ok w' (.slice (some ⟨b, off + 6, none⟩) (n - 1) (cap - 1)) l) := by
   intro w' hf
   have hN := HN.out
   rw [List.length_cons] at hN
   have hN1 : n - 1 = l.length := by omega
   rw [hN1]
   refine ⟨fun hcp => ?_, fun hcp => ?_⟩
   ·have hl0 : l = [] := List.eq_nil_of_length_eq_zero (by omega)
    subst hl0
    exact RdX.empty
   ·by_cases hl0 : l = []
    ·subst hl0
     exact ⟨_, _, rfl, by simp, (fun h => by cases h), .inl rfl⟩
    ·have hR := HR.out
     rw [HN.out] at hR
     exact Fr.step cP.grow hR.tail hf
  have HT := hid htail
  clear htail
  by_cases hcp : cap = 1
  all_goals
   go_enter Tryz.func114, Tryz.ntmps114
   go_wp2_with fail
   refine (hput _ hx ok _ st _ hw hok HV.out hroom1).mono ?_
   rintro e w1 ⟨rfl, hw1, hf1⟩
   go_wp2_with fail
   refine (HI.out ok _ _ _ (f _ st) w1 hw1 (fun b hb => Nat.lt_of_lt_of_le (hok b hb) hf1.size) (by first | exact (HT.out w1 hf1).1 hcp | exact (HT.out w1 hf1).1 rfl | exact (HT.out w1 hf1).2 hcp) HG.out hroom2 (by have hN := HN.out; rw [List.length_cons] at hN; omega)).mono ?_
   intro e w2 hq
   obtain ⟨rfl, hw2, hf2⟩ := hq
   go_wp2_with fail
   exact bodyPost_end (results_none rfl _ _ _) rfl ⟨rfl, hw2, hf1.trans hf2⟩
end Go.Proofs.YtijnimjmimeefaaGreat.A
namespace Go.Proofs.YtijnimjmimeefaaGreat.A
open Go.RowKit Go.Proofs.YtijnimjmimeefaaGreat.D Go.Proofs.YtijnimjmimeefaaGreat.O
theorem num3_w (g : Nat) (ok : Nat -> Prop) (wb pb mb : Nat) (st : WS) (x y z : Int) (w : World) (hg : g = w.heap.size) (T : TypeId) (h : Wt w ok wb pb mb st) (hok : ∀ x, ok x -> x < w.heap.size) (hx : 0 <= x /\ x <= 2000) (hy : 0 <= y /\ y <= 2000) (hz : 0 <= z /\ z <= 2000) (hr : Room st 1) :
  Calls Tryz.prog 113 #[.pointer (some ⟨wb, 0, none⟩), .slice (some ⟨g, 0, none⟩) 3 3] (w.alloc (.cells #[.int .i64 x, .int .i64 y, .int .i64 z] T)) (Wrote ok wb pb mb (wNums [x, y, z] st) (w.alloc (.cells #[.int .i64 x, .int .i64 y, .int .i64 z] T))) := by
 subst hg
 exact nums_w ok wb pb mb st _ 3 3 [x, y, z] 1 _ (h.below ((Below.refl _ _).alloc (Nat.le_refl _) _) (fun _ hx => .inl hx)) (fun x hx => by have := hok x hx; simp; omega) (by
   intro u hu
   simp only [List.mem_cons, List.not_mem_nil, or_false] at hu
   rcases hu with rfl | rfl | rfl <;> omega) (by simp) (by decide) hr
  (rdI_lit (vs := [.int .i64 x, .int .i64 y, .int .i64 z]) (zs := [x, y, z]) T rfl (by
   intro u hu
   simp only [List.mem_cons, List.not_mem_nil, or_false] at hu
   rcases hu with rfl | rfl | rfl <;> omega)) (fun g hg => by cases hg; simp)
theorem putList_str (f : ByteArray -> WS -> WS) (c : ByteArray -> Nat) (Good : ByteArray -> Prop) (wb pb mb : Nat) (hext : ∀ x, Good x -> Ext (f x) (c x)) (hput : ∀ x, Good x -> ∀ (ok : Nat -> Prop) (vs : List Value) (st : WS) (w : World), Wt w ok wb pb mb st -> (∀ b, ok b -> b < w.heap.size) -> (sP strC) ok w vs x -> Room st (c x) -> Calls Tryz.prog 115 #[.pointer (some ⟨wb, 0, none⟩), .string x] w (Wrote ok wb pb mb (f x st) w))
  (xs : List ByteArray) (ok : Nat -> Prop) (p : Option Addr) (n cap : Nat) (st : WS) (w : World) (hw : Wt w ok wb pb mb st) (hok : ∀ b, ok b -> b < w.heap.size) (hr : RdX 1 (sP strC) ok w (.slice p n cap) xs) (hg : ∀ x ∈ xs, Good x) (hroom : Room st (1 + (xs.map c).sum)) (hlen : xs.length <= 1000000) :
  Calls Tryz.prog 116 #[.pointer (some ⟨wb, 0, none⟩), .slice p n cap, .func (.func 115) #[] #[]] w (Wrote ok wb pb mb (wList f xs st) w) := by
 obtain ⟨p', c', e, _⟩ := hr.len
 simp only [Value.slice.injEq] at e
 obtain ⟨rfl, rfl, rfl⟩ := e
 have HR := hid hr
 have HP := hid hput
 have HE := hid hext
 have HG := hid hg
 clear hr hput hext hg
 go_enter Tryz.func116, Tryz.ntmps116
 go_wp2_with fail
 refine (num_w ok wb pb mb st (xs.length : Int) w _ hw hok (by omega) (by omega) (hroom.le (by omega))).mono ?_
 intro e w1 hq
 obtain ⟨rfl, hw1, hf1⟩ := hq
 have hf0 : Fr ok w w1 := (Fr.of_below ((Below.refl _ _).alloc (Nat.le_refl _) _)).trans hf1
 clear hf1
 go_wp2_with fail
 refine (putAll_str f c Good wb pb mb HE.out HP.out xs ok _ _ _ _ w1 hw1 (fun b hb => Nat.lt_of_lt_of_le (hok b hb) hf0.size) (Fr.step (sP.grow _) HR.out hf0) HG.out (hroom.next (ext_nums (n := 1) (zs := [(xs.length : Int)]) (by simp; omega) (by simp)) (Nat.le_refl _)) hlen).mono ?_
 intro e w2 hq
 obtain ⟨rfl, hw2, hf2⟩ := hq
 go_wp2_with fail
 exact bodyPost_end (results_none rfl _ _ _) rfl ⟨rfl, hw2, hf0.trans hf2⟩
theorem putList_fld (f : Fld -> WS -> WS) (c : Fld -> Nat) (Good : Fld -> Prop) (wb pb mb : Nat) (hext : ∀ x, Good x -> Ext (f x) (c x)) (hput : ∀ x, Good x -> ∀ (ok : Nat -> Prop) (vs : List Value) (st : WS) (w : World), Wt w ok wb pb mb st -> (∀ b, ok b -> b < w.heap.size) -> (sP fldC) ok w vs x -> Room st (c x) -> Calls Tryz.prog 118 #[.pointer (some ⟨wb, 0, none⟩), .agg vs.toArray] w (Wrote ok wb pb mb (f x st) w))
  (xs : List Fld) (ok : Nat -> Prop) (p : Option Addr) (n cap : Nat) (st : WS) (w : World) (hw : Wt w ok wb pb mb st) (hok : ∀ b, ok b -> b < w.heap.size) (hr : RdX 4 (sP fldC) ok w (.slice p n cap) xs) (hg : ∀ x ∈ xs, Good x) (hroom : Room st (1 + (xs.map c).sum)) (hlen : xs.length <= 1000000) :
  Calls Tryz.prog 117 #[.pointer (some ⟨wb, 0, none⟩), .slice p n cap, .func (.func 118) #[] #[]] w (Wrote ok wb pb mb (wList f xs st) w) := by
 obtain ⟨p', c', e, _⟩ := hr.len
 simp only [Value.slice.injEq] at e
 obtain ⟨rfl, rfl, rfl⟩ := e
 have HR := hid hr
 have HP := hid hput
 have HE := hid hext
 have HG := hid hg
 clear hr hput hext hg
 go_enter Tryz.func117, Tryz.ntmps117
 go_wp2_with fail
 refine (num_w ok wb pb mb st (xs.length : Int) w _ hw hok (by omega) (by omega) (hroom.le (by omega))).mono ?_
 intro e w1 hq
 obtain ⟨rfl, hw1, hf1⟩ := hq
 have hf0 : Fr ok w w1 := (Fr.of_below ((Below.refl _ _).alloc (Nat.le_refl _) _)).trans hf1
 clear hf1
 go_wp2_with fail
 refine (putAll_fld f c Good wb pb mb HE.out HP.out xs ok _ _ _ _ w1 hw1 (fun b hb => Nat.lt_of_lt_of_le (hok b hb) hf0.size) (Fr.step (sP.grow _) HR.out hf0) HG.out (hroom.next (ext_nums (n := 1) (zs := [(xs.length : Int)]) (by simp; omega) (by simp)) (Nat.le_refl _)) hlen).mono ?_
 intro e w2 hq
 obtain ⟨rfl, hw2, hf2⟩ := hq
 go_wp2_with fail
 exact bodyPost_end (results_none rfl _ _ _) rfl ⟨rfl, hw2, hf0.trans hf2⟩
theorem putList_ins (f : Ins -> WS -> WS) (c : Ins -> Nat) (Good : Ins -> Prop) (wb pb mb : Nat) (hext : ∀ x, Good x -> Ext (f x) (c x)) (hput : ∀ x, Good x -> ∀ (ok : Nat -> Prop) (vs : List Value) (st : WS) (w : World), Wt w ok wb pb mb st -> (∀ b, ok b -> b < w.heap.size) -> (sP insC) ok w vs x -> Room st (c x) -> Calls Tryz.prog 169 #[.pointer (some ⟨wb, 0, none⟩), .agg vs.toArray] w (Wrote ok wb pb mb (f x st) w))
  (xs : List Ins) (ok : Nat -> Prop) (p : Option Addr) (n cap : Nat) (st : WS) (w : World) (hw : Wt w ok wb pb mb st) (hok : ∀ b, ok b -> b < w.heap.size) (hr : RdX 7 (sP insC) ok w (.slice p n cap) xs) (hg : ∀ x ∈ xs, Good x) (hroom : Room st (1 + (xs.map c).sum)) (hlen : xs.length <= 1000000) :
  Calls Tryz.prog 168 #[.pointer (some ⟨wb, 0, none⟩), .slice p n cap, .func (.func 169) #[] #[]] w (Wrote ok wb pb mb (wList f xs st) w) := by
 obtain ⟨p', c', e, _⟩ := hr.len
 simp only [Value.slice.injEq] at e
 obtain ⟨rfl, rfl, rfl⟩ := e
 have HR := hid hr
 have HP := hid hput
 have HE := hid hext
 have HG := hid hg
 clear hr hput hext hg
 go_enter Tryz.func168, Tryz.ntmps168
 go_wp2_with fail
 refine (num_w ok wb pb mb st (xs.length : Int) w _ hw hok (by omega) (by omega) (hroom.le (by omega))).mono ?_
 intro e w1 hq
 obtain ⟨rfl, hw1, hf1⟩ := hq
 have hf0 : Fr ok w w1 := (Fr.of_below ((Below.refl _ _).alloc (Nat.le_refl _) _)).trans hf1
 clear hf1
 go_wp2_with fail
 refine (putAll_ins f c Good wb pb mb HE.out HP.out xs ok _ _ _ _ w1 hw1 (fun b hb => Nat.lt_of_lt_of_le (hok b hb) hf0.size) (Fr.step (sP.grow _) HR.out hf0) HG.out (hroom.next (ext_nums (n := 1) (zs := [(xs.length : Int)]) (by simp; omega) (by simp)) (Nat.le_refl _)) hlen).mono ?_
 intro e w2 hq
 obtain ⟨rfl, hw2, hf2⟩ := hq
 go_wp2_with fail
 exact bodyPost_end (results_none rfl _ _ _) rfl ⟨rfl, hw2, hf0.trans hf2⟩
theorem putList_hnd (f : Hnd -> WS -> WS) (c : Hnd -> Nat) (Good : Hnd -> Prop) (wb pb mb : Nat) (hext : ∀ x, Good x -> Ext (f x) (c x)) (hput : ∀ x, Good x -> ∀ (ok : Nat -> Prop) (vs : List Value) (st : WS) (w : World), Wt w ok wb pb mb st -> (∀ b, ok b -> b < w.heap.size) -> (sP hndC) ok w vs x -> Room st (c x) -> Calls Tryz.prog 171 #[.pointer (some ⟨wb, 0, none⟩), .agg vs.toArray] w (Wrote ok wb pb mb (f x st) w))
  (xs : List Hnd) (ok : Nat -> Prop) (p : Option Addr) (n cap : Nat) (st : WS) (w : World) (hw : Wt w ok wb pb mb st) (hok : ∀ b, ok b -> b < w.heap.size) (hr : RdX 4 (sP hndC) ok w (.slice p n cap) xs) (hg : ∀ x ∈ xs, Good x) (hroom : Room st (1 + (xs.map c).sum)) (hlen : xs.length <= 1000000) :
  Calls Tryz.prog 170 #[.pointer (some ⟨wb, 0, none⟩), .slice p n cap, .func (.func 171) #[] #[]] w (Wrote ok wb pb mb (wList f xs st) w) := by
 obtain ⟨p', c', e, _⟩ := hr.len
 simp only [Value.slice.injEq] at e
 obtain ⟨rfl, rfl, rfl⟩ := e
 have HR := hid hr
 have HP := hid hput
 have HE := hid hext
 have HG := hid hg
 clear hr hput hext hg
 go_enter Tryz.func170, Tryz.ntmps170
 go_wp2_with fail
 refine (num_w ok wb pb mb st (xs.length : Int) w _ hw hok (by omega) (by omega) (hroom.le (by omega))).mono ?_
 intro e w1 hq
 obtain ⟨rfl, hw1, hf1⟩ := hq
 have hf0 : Fr ok w w1 := (Fr.of_below ((Below.refl _ _).alloc (Nat.le_refl _) _)).trans hf1
 clear hf1
 go_wp2_with fail
 refine (putAll_hnd f c Good wb pb mb HE.out HP.out xs ok _ _ _ _ w1 hw1 (fun b hb => Nat.lt_of_lt_of_le (hok b hb) hf0.size) (Fr.step (sP.grow _) HR.out hf0) HG.out (hroom.next (ext_nums (n := 1) (zs := [(xs.length : Int)]) (by simp; omega) (by simp)) (Nat.le_refl _)) hlen).mono ?_
 intro e w2 hq
 obtain ⟨rfl, hw2, hf2⟩ := hq
 go_wp2_with fail
 exact bodyPost_end (results_none rfl _ _ _) rfl ⟨rfl, hw2, hf0.trans hf2⟩
theorem putList_mth (f : Mth -> WS -> WS) (c : Mth -> Nat) (Good : Mth -> Prop) (wb pb mb : Nat) (hext : ∀ x, Good x -> Ext (f x) (c x)) (hput : ∀ x, Good x -> ∀ (ok : Nat -> Prop) (vs : List Value) (st : WS) (w : World), Wt w ok wb pb mb st -> (∀ b, ok b -> b < w.heap.size) -> mP ok w vs x -> Room st (c x) -> Calls Tryz.prog 120 #[.pointer (some ⟨wb, 0, none⟩), .agg vs.toArray] w (Wrote ok wb pb mb (f x st) w))
  (xs : List Mth) (ok : Nat -> Prop) (p : Option Addr) (n cap : Nat) (st : WS) (w : World) (hw : Wt w ok wb pb mb st) (hok : ∀ b, ok b -> b < w.heap.size) (hr : RdX 9 mP ok w (.slice p n cap) xs) (hg : ∀ x ∈ xs, Good x) (hroom : Room st (1 + (xs.map c).sum)) (hlen : xs.length <= 1000000) :
  Calls Tryz.prog 119 #[.pointer (some ⟨wb, 0, none⟩), .slice p n cap, .func (.func 120) #[] #[]] w (Wrote ok wb pb mb (wList f xs st) w) := by
 obtain ⟨p', c', e, _⟩ := hr.len
 simp only [Value.slice.injEq] at e
 obtain ⟨rfl, rfl, rfl⟩ := e
 have HR := hid hr
 have HP := hid hput
 have HE := hid hext
 have HG := hid hg
 clear hr hput hext hg
 go_enter Tryz.func119, Tryz.ntmps119
 go_wp2_with fail
 refine (num_w ok wb pb mb st (xs.length : Int) w _ hw hok (by omega) (by omega) (hroom.le (by omega))).mono ?_
 intro e w1 hq
 obtain ⟨rfl, hw1, hf1⟩ := hq
 have hf0 : Fr ok w w1 := (Fr.of_below ((Below.refl _ _).alloc (Nat.le_refl _) _)).trans hf1
 clear hf1
 go_wp2_with fail
 refine (putAll_mth f c Good wb pb mb HE.out HP.out xs ok _ _ _ _ w1 hw1 (fun b hb => Nat.lt_of_lt_of_le (hok b hb) hf0.size) (Fr.step mP.grow HR.out hf0) HG.out (hroom.next (ext_nums (n := 1) (zs := [(xs.length : Int)]) (by simp; omega) (by simp)) (Nat.le_refl _)) hlen).mono ?_
 intro e w2 hq
 obtain ⟨rfl, hw2, hf2⟩ := hq
 go_wp2_with fail
 exact bodyPost_end (results_none rfl _ _ _) rfl ⟨rfl, hw2, hf0.trans hf2⟩
theorem putList_cls (f : Cls -> WS -> WS) (c : Cls -> Nat) (Good : Cls -> Prop) (wb pb mb : Nat) (hext : ∀ x, Good x -> Ext (f x) (c x)) (hput : ∀ x, Good x -> ∀ (ok : Nat -> Prop) (vs : List Value) (st : WS) (w : World), Wt w ok wb pb mb st -> (∀ b, ok b -> b < w.heap.size) -> cP ok w vs x -> Room st (c x) -> Calls Tryz.prog 72 #[.pointer (some ⟨wb, 0, none⟩), .agg vs.toArray] w (Wrote ok wb pb mb (f x st) w))
  (xs : List Cls) (ok : Nat -> Prop) (p : Option Addr) (n cap : Nat) (st : WS) (w : World) (hw : Wt w ok wb pb mb st) (hok : ∀ b, ok b -> b < w.heap.size) (hr : RdX 6 cP ok w (.slice p n cap) xs) (hg : ∀ x ∈ xs, Good x) (hroom : Room st (1 + (xs.map c).sum)) (hlen : xs.length <= 1000000) :
  Calls Tryz.prog 71 #[.pointer (some ⟨wb, 0, none⟩), .slice p n cap, .func (.func 72) #[] #[]] w (Wrote ok wb pb mb (wList f xs st) w) := by
 obtain ⟨p', c', e, _⟩ := hr.len
 simp only [Value.slice.injEq] at e
 obtain ⟨rfl, rfl, rfl⟩ := e
 have HR := hid hr
 have HP := hid hput
 have HE := hid hext
 have HG := hid hg
 clear hr hput hext hg
 go_enter Tryz.func71, Tryz.ntmps71
 go_wp2_with fail
 refine (num_w ok wb pb mb st (xs.length : Int) w _ hw hok (by omega) (by omega) (hroom.le (by omega))).mono ?_
 intro e w1 hq
 obtain ⟨rfl, hw1, hf1⟩ := hq
 have hf0 : Fr ok w w1 := (Fr.of_below ((Below.refl _ _).alloc (Nat.le_refl _) _)).trans hf1
 clear hf1
 go_wp2_with fail
 refine (putAll_cls f c Good wb pb mb HE.out HP.out xs ok _ _ _ _ w1 hw1 (fun b hb => Nat.lt_of_lt_of_le (hok b hb) hf0.size) (Fr.step cP.grow HR.out hf0) HG.out (hroom.next (ext_nums (n := 1) (zs := [(xs.length : Int)]) (by simp; omega) (by simp)) (Nat.le_refl _)) hlen).mono ?_
 intro e w2 hq
 obtain ⟨rfl, hw2, hf2⟩ := hq
 go_wp2_with fail
 exact bodyPost_end (results_none rfl _ _ _) rfl ⟨rfl, hw2, hf0.trans hf2⟩
end Go.Proofs.YtijnimjmimeefaaGreat.A
namespace Go.Proofs.YtijnimjmimeefaaGreat.A
open Go.RowKit Go.Proofs.YtijnimjmimeefaaGreat.D Go.Proofs.YtijnimjmimeefaaGreat.O
theorem text_put (wb pb mb : Nat) (x : ByteArray) (hx : x.size <= 1000) (ok : Nat -> Prop) (vs : List Value) (st : WS) (w : World) (hw : Wt w ok wb pb mb st) (hok : ∀ b, ok b -> b < w.heap.size) (_hv : (sP strC) ok w vs x) (hroom : Room st 1) :
  Calls Tryz.prog 115 #[.pointer (some ⟨wb, 0, none⟩), .string x] w (Wrote ok wb pb mb (wText x st) w) := text_w ok wb pb mb st x w hw hok hx hroom
theorem field_put (wb pb mb : Nat) (x : Fld) (hx : fldB x = true) (ok : Nat -> Prop) (vs : List Value) (st : WS) (w : World) (hw : Wt w ok wb pb mb st) (hok : ∀ b, ok b -> b < w.heap.size) (hv : (sP fldC) ok w vs x) (hroom : Room st 3) :
  Calls Tryz.prog 118 #[.pointer (some ⟨wb, 0, none⟩), .agg vs.toArray] w (Wrote ok wb pb mb (wFld x st) w) := by
 obtain ⟨s0, ⟨s1, s2⟩, s3⟩ := x
 have hvs : vs = [.string s0, .int .i64 s1, .string s2, .bool s3] := hv
 subst hvs
 unfold fldB holdsB at hx
 simp only [Bool.and_eq_true] at hx
 have g1 := name_size hx.1
 have g2 := typeT_size hx.2.1
 have g3 : s2.size <= 64 := by
  have := hx.2.1
  unfold rightB at this
  split at this
  ·exact name_size this
  ·simp only [Bool.and_eq_true, decide_eq_true_eq] at this; omega
 clear hv hx
 have R1 := hroom.next (b := 2) (ext_text (s := s0) (by omega)) (by decide)
 have R2 := R1.next (b := 1) (ext_text (s := typeT s1 s2) (by omega)) (by decide)
 have H0 := Sit.start [.string s0, .int .i64 s1, .string s2, .bool s3] 63 hw hok
 go_enter Tryz.func118, Tryz.ntmps118
 go_wp2_with fail
 refine (text_w _ wb pb mb _ s0 _ H0.1 H0.2.1 (by omega) (hroom.le (by decide))).mono ?_
 intro e w1 hq
 obtain ⟨rfl, H1⟩ := H0.wrote hq
 clear hq
 obtain ⟨a1_0, a1_1, a1_2, a1_3⟩ := z4 H1.2.2.1
 have hX1 := H1.2.1 _ (.inr rfl)
 go_wp2_with fail
 refine (type_any s1 s2 _ (by omega)).mono ?_
 rintro e w2 ⟨rfl, hb2⟩
 have H2 := H1.below hb2
 obtain ⟨a2_0, a2_1, a2_2, a2_3⟩ := z4 H2.2.2.1
 have hX2 := H2.2.1 _ (.inr rfl)
 go_wp2_with fail
 refine (text_w _ wb pb mb _ (typeT s1 s2) _ H2.1 H2.2.1 (by omega) (R1.le (by decide))).mono ?_
 intro e w3 hq
 obtain ⟨rfl, H3⟩ := H2.wrote hq
 clear hq
 obtain ⟨a3_0, a3_1, a3_2, a3_3⟩ := z4 H3.2.2.1
 have hX3 := H3.2.1 _ (.inr rfl)
 go_wp2_with fail
 refine (bit_any s3 1 _).mono ?_
 rintro e w' ⟨rfl, rfl⟩
 go_wp2_with fail
 refine (num_w _ wb pb mb _ (bitN s3 1) _ _ H3.1 H3.2.1 (by unfold bitN; split <;> decide) (by unfold bitN; split <;> decide) R2).mono ?_
 intro e w4 hq
 obtain ⟨rfl, H4⟩ := (H3.alloc _).wrote hq
 clear hq
 obtain ⟨a4_0, a4_1, a4_2, a4_3⟩ := z4 H4.2.2.1
 have hX4 := H4.2.1 _ (.inr rfl)
 go_wp2_with fail
 exact bodyPost_end (results_none rfl _ _ _) rfl H4.fin
theorem handler_put (wb pb mb : Nat) (x : Hnd) (hx : hndB x = true) (ok : Nat -> Prop) (vs : List Value) (st : WS) (w : World) (hw : Wt w ok wb pb mb st) (hok : ∀ b, ok b -> b < w.heap.size) (hv : (sP hndC) ok w vs x) (hroom : Room st 2) :
  Calls Tryz.prog 171 #[.pointer (some ⟨wb, 0, none⟩), .agg vs.toArray] w (Wrote ok wb pb mb (wHnd x st) w) := by
 obtain ⟨s0, s1, s2, s3⟩ := x
 have hvs : vs = [.int .i64 s0, .int .i64 s1, .int .i64 s2, .string s3] := hv
 subst hvs
 unfold hndB at hx
 simp only [Bool.and_eq_true, upToB_iff] at hx
 obtain ⟨⟨⟨b0, b1⟩, b2⟩, hn⟩ := hx
 have g1 := name_size hn
 clear hv hn
 have R1 := hroom.next (b := 1) (ext_nums (n := 1) (zs := [s0, s1, s2]) (by
  intro u hu
  simp only [List.mem_cons, List.not_mem_nil, or_false] at hu
  rcases hu with rfl | rfl | rfl <;> omega) (by simp)) (by decide)
 have H0 := Sit.start [.int .i64 s0, .int .i64 s1, .int .i64 s2, .string s3] 66 hw hok
 go_enter Tryz.func171, Tryz.ntmps171
 go_wp2_with fail
 refine (num3_w (w.heap.size + 1) _ wb pb mb _ s0 s1 s2 _ (by simp) _ H0.1 H0.2.1 b0 b1 b2 (hroom.le (by decide))).mono ?_
 intro e w1 hq
 obtain ⟨rfl, H1⟩ := (H0.alloc _).wrote hq
 clear hq
 obtain ⟨a1_0, a1_1, a1_2, a1_3⟩ := z4 H1.2.2.1
 have hX1 := H1.2.1 _ (.inr rfl)
 go_wp2_with fail
 refine (text_w _ wb pb mb _ s3 _ H1.1 H1.2.1 (by omega) R1).mono ?_
 intro e w2 hq
 obtain ⟨rfl, H2⟩ := H1.wrote hq
 clear hq
 obtain ⟨a2_0, a2_1, a2_2, a2_3⟩ := z4 H2.2.2.1
 have hX2 := H2.2.1 _ (.inr rfl)
 go_wp2_with fail
 exact bodyPost_end (results_none rfl _ _ _) rfl H2.fin
end Go.Proofs.YtijnimjmimeefaaGreat.A
namespace Go.Proofs.YtijnimjmimeefaaGreat.A
open Go.RowKit Go.Proofs.YtijnimjmimeefaaGreat.D Go.Proofs.YtijnimjmimeefaaGreat.O
theorem z7 {w : World} {b : Nat} {v0 v1 v2 v3 v4 v5 v6 : Value} (h : CellsAt w b 0 [v0, v1, v2, v3, v4, v5, v6]) : w.cell? ⟨b, 0, none⟩ = some v0 /\ w.cell? ⟨b, 1, none⟩ = some v1 /\ w.cell? ⟨b, 2, none⟩ = some v2 /\ w.cell? ⟨b, 3, none⟩ = some v3 /\ w.cell? ⟨b, 4, none⟩ = some v4 /\ w.cell? ⟨b, 5, none⟩ = some v5 /\ w.cell? ⟨b, 6, none⟩ = some v6 := h.seven
theorem rdT_of {ok : Nat -> Prop} {w : World} {v : Value} {ts : List Ty} (h : RdX 2 (sP tyC) ok w v ts) : RdT w v ts := by
 obtain ⟨p, cap, rfl, h1, h2, h3⟩ := h
 rcases h3 with rfl | ⟨b, off, rfl, hb, hlt, hc⟩
 ·exact ⟨p, cap, rfl, (fun a ha hn => absurd rfl hn), fun _ => rfl, fun a ha i t ht => by simp at ht⟩
 ·refine ⟨_, cap, rfl, (fun a ha _ => by cases ha; rfl), (fun h => by cases h), fun a ha i t ht => ?_⟩
  cases ha
  exact CellsAt.two (sP_at (ok := ok) (hc i t ht))
theorem uses_six (o : Int) : usesI o = 0 ∨ usesI o = 1 ∨ usesI o = 2 ∨ usesI o = 3 ∨ usesI o = 4 ∨ usesI o = 5 ∨ usesI o = 6 := by
 unfold usesI
 omega
def goodI (x : Ins) : Prop := rightI x = true /\ okI x
def goodM (m : Mth) : Prop := mthB m = true /\ wfM m
def goodC (c : Cls) : Prop := clsB c = true /\ wfC c
theorem num_w1 (g : Nat) (ok : Nat -> Prop) (wb pb mb : Nat) (st : WS) (z : Int) (w : World) (hg : g = w.heap.size) (T : TypeId) (h : Wt w ok wb pb mb st) (hok : ∀ x, ok x -> x < w.heap.size) (h0 : -9223372036854775808 <= z) (h1 : z <= 9223372036854775807) (hr : Room st 1) :
  Calls Tryz.prog 113 #[.pointer (some ⟨wb, 0, none⟩), .slice (some ⟨g, 0, none⟩) 1 1] (w.alloc (.cells #[.int .i64 z] T)) (Wrote ok wb pb mb (wNums [z] st) (w.alloc (.cells #[.int .i64 z] T))) := by
 subst hg
 exact num_w ok wb pb mb st z w T h hok h0 h1 hr
theorem instr_0 (wb pb mb : Nat) (o n k : Int) (s c m d : ByteArray) (hU : usesI o = 0) (ho : 0 < o /\ o < 44) (hz : s.size <= 1000 /\ c.size <= 1000 /\ m.size <= 1000 /\ d.size <= 1000 /\ (0 <= k /\ k <= 2000) /\ (-2147483648 <= n /\ n <= 2147483647)) (ok : Nat -> Prop) (st : WS) (w : World) (hw : Wt w ok wb pb mb st) (hok : ∀ b, ok b -> b < w.heap.size) (hroom : Room st 4) :
  Calls Tryz.prog 169 #[.pointer (some ⟨wb, 0, none⟩), .agg #[.int .i64 o, .int .i32 n, .int .i64 k, .string s, .string c, .string m, .string d]] w (Wrote ok wb pb mb (wIns (o, n, k, s, c, m, d) st) w) := by
 obtain ⟨hs, hc, hm, hd, hk, hn⟩ := hz
 have R1 := hroom.next (b := 3) (ext_nums (n := 1) (zs := [o]) (by simp; omega) (by simp)) (by decide)
 have HF : Hid (∀ st, wUse (o, n, k, s, c, m, d) st = (fun st => st) st) := hid (fun st => by unfold wUse; simp [hU])
 have HF2 : Hid (wIns (o, n, k, s, c, m, d) st = (fun st => st) (wNums [o] st)) := hid (by unfold wIns; exact HF.out _)
 have H0 := Sit.start [.int .i64 o, .int .i32 n, .int .i64 k, .string s, .string c, .string m, .string d] 61 hw hok
 go_enter Tryz.func169, Tryz.ntmps169
 go_wp2_with fail
 refine (num_w1 (w.heap.size + 1) _ wb pb mb _ o _ (by simp) _ H0.1 H0.2.1 (by omega) (by omega) (hroom.le (by decide))).mono ?_
 intro e w1 hq
 obtain ⟨rfl, H1⟩ := (H0.alloc _).wrote hq
 clear hq
 obtain ⟨a1_0, a1_1, a1_2, a1_3, a1_4, a1_5, a1_6⟩ := z7 H1.2.2.1
 have hX1 := H1.2.1 _ (.inr rfl)
 go_wp2_with fail
 refine (uses_any o _).mono ?_
 rintro e w' ⟨rfl, rfl⟩
 go_wp2_with fail
 exact bodyPost_end (results_none rfl _ _ _) rfl (by rw [HF2.out]; exact H1.fin)
theorem instr_1 (wb pb mb : Nat) (o n k : Int) (s c m d : ByteArray) (hU : usesI o = 1) (ho : 0 < o /\ o < 44) (hz : s.size <= 1000 /\ c.size <= 1000 /\ m.size <= 1000 /\ d.size <= 1000 /\ (0 <= k /\ k <= 2000) /\ (-2147483648 <= n /\ n <= 2147483647)) (ok : Nat -> Prop) (st : WS) (w : World) (hw : Wt w ok wb pb mb st) (hok : ∀ b, ok b -> b < w.heap.size) (hroom : Room st 4) :
  Calls Tryz.prog 169 #[.pointer (some ⟨wb, 0, none⟩), .agg #[.int .i64 o, .int .i32 n, .int .i64 k, .string s, .string c, .string m, .string d]] w (Wrote ok wb pb mb (wIns (o, n, k, s, c, m, d) st) w) := by
 obtain ⟨hs, hc, hm, hd, hk, hn⟩ := hz
 have R1 := hroom.next (b := 3) (ext_nums (n := 1) (zs := [o]) (by simp; omega) (by simp)) (by decide)
 have HF : Hid (∀ st, wUse (o, n, k, s, c, m, d) st = (wInt n) st) := hid (fun st => by unfold wUse; simp [hU])
 have HF2 : Hid (wIns (o, n, k, s, c, m, d) st = (wInt n) (wNums [o] st)) := hid (by unfold wIns; exact HF.out _)
 have H0 := Sit.start [.int .i64 o, .int .i32 n, .int .i64 k, .string s, .string c, .string m, .string d] 61 hw hok
 go_enter Tryz.func169, Tryz.ntmps169
 go_wp2_with fail
 refine (num_w1 (w.heap.size + 1) _ wb pb mb _ o _ (by simp) _ H0.1 H0.2.1 (by omega) (by omega) (hroom.le (by decide))).mono ?_
 intro e w1 hq
 obtain ⟨rfl, H1⟩ := (H0.alloc _).wrote hq
 clear hq
 obtain ⟨a1_0, a1_1, a1_2, a1_3, a1_4, a1_5, a1_6⟩ := z7 H1.2.2.1
 have hX1 := H1.2.1 _ (.inr rfl)
 go_wp2_with fail
 refine (uses_any o _).mono ?_
 rintro e w' ⟨rfl, rfl⟩
 obtain ⟨sl, bv, hw1⟩ := H1.1
 obtain ⟨a0, n0, c0', hsl⟩ := own_slice hw1.2.2.1
 subst hsl
 have hwD : WtP w1.drew (okX ok w.heap.size) wb pb mb sl (.slice a0 n0 c0') (wNums [o] st).1 (wNums [o] st).2 := hw1
 obtain ⟨hlt, c0, c1, f1⟩ := hwD.cells
 have hR1 := R1
 unfold Room at hR1
 have hfb : (nb (foldN n)).length <= 10 := nb_len10 (Nat.lt_of_le_of_lt (fold_back hn.1 hn.2).1 (by decide))
 go_wp2_with fail
 go_region_law (first
  | (refine step_appB (by rfl) _ _ (by rfl) 0 _ (wNums [o] st).2 (by rfl) hw2.2.2.1 _ _ (by rfl) ho2.rd (by rw [List.nil_append]; omega) (by omega) ?_; intro v3 w3 ho3 hg3 hl3; obtain ⟨a3, n3, c3, hv3⟩ := own_slice ho3; subst hv3; obtain ⟨d0, d1, hfin, hfr⟩ := hw2.put ho3 hg3 hl3 hok2)
  | (rw [if_pos (by rfl)]; go_simp; go_at_call 201; refine (int_any (.slice none 0 0) [] n _ (rd_nil _) (.inl rfl) (by simp) hn.1 hn.2).mono ?_; rintro e w2 ⟨v2, rfl, ho2, hb2⟩; have hw2 : WtP w2 (okX ok w.heap.size) wb pb mb sl (.slice a0 n0 c0') (wNums [o] st).1 (wNums [o] st).2 := (hwD.kpt (.of_below hb2 : Kpt [] w1.drew w2) (fun _ _ => by simp) (fun _ hx => .inl hx)); have hok2 : ∀ x, okX ok w.heap.size x -> x < w2.heap.size := fun x hx => (by have := H1.2.1 x hx; have := hb2.size; simp at this; omega); obtain ⟨hlt2, e0', e1', g1'⟩ := hw2.cells))
 all_goals
  have hq : Wrote (okX ok w.heap.size) wb pb mb (wInt n (wNums [o] st)) w1 (.returned (.tuple #[])) _ := ⟨rfl, ⟨_, _, hfin⟩, ((Fr.drew _ w1).trans (.of_below hb2)).trans hfr⟩
  have H2 := (H1.wrote hq).2
  go_wp2_with fail
  exact bodyPost_end (results_none rfl _ _ _) rfl (by rw [HF2.out]; exact H2.fin)
theorem instr_2 (wb pb mb : Nat) (o n k : Int) (s c m d : ByteArray) (hU : usesI o = 2) (ho : 0 < o /\ o < 44) (hz : s.size <= 1000 /\ c.size <= 1000 /\ m.size <= 1000 /\ d.size <= 1000 /\ (0 <= k /\ k <= 2000) /\ (-2147483648 <= n /\ n <= 2147483647)) (ok : Nat -> Prop) (st : WS) (w : World) (hw : Wt w ok wb pb mb st) (hok : ∀ b, ok b -> b < w.heap.size) (hroom : Room st 4) :
  Calls Tryz.prog 169 #[.pointer (some ⟨wb, 0, none⟩), .agg #[.int .i64 o, .int .i32 n, .int .i64 k, .string s, .string c, .string m, .string d]] w (Wrote ok wb pb mb (wIns (o, n, k, s, c, m, d) st) w) := by
 obtain ⟨hs, hc, hm, hd, hk, hn⟩ := hz
 have R1 := hroom.next (b := 3) (ext_nums (n := 1) (zs := [o]) (by simp; omega) (by simp)) (by decide)
 have HF : Hid (∀ st, wUse (o, n, k, s, c, m, d) st = (wText s) st) := hid (fun st => by unfold wUse; simp [hU])
 have HF2 : Hid (wIns (o, n, k, s, c, m, d) st = (wText s) (wNums [o] st)) := hid (by unfold wIns; exact HF.out _)
 have H0 := Sit.start [.int .i64 o, .int .i32 n, .int .i64 k, .string s, .string c, .string m, .string d] 61 hw hok
 go_enter Tryz.func169, Tryz.ntmps169
 go_wp2_with fail
 refine (num_w1 (w.heap.size + 1) _ wb pb mb _ o _ (by simp) _ H0.1 H0.2.1 (by omega) (by omega) (hroom.le (by decide))).mono ?_
 intro e w1 hq
 obtain ⟨rfl, H1⟩ := (H0.alloc _).wrote hq
 clear hq
 obtain ⟨a1_0, a1_1, a1_2, a1_3, a1_4, a1_5, a1_6⟩ := z7 H1.2.2.1
 have hX1 := H1.2.1 _ (.inr rfl)
 go_wp2_with fail
 refine (uses_any o _).mono ?_
 rintro e w' ⟨rfl, rfl⟩
 go_wp2_with fail
 refine (text_w _ wb pb mb _ s _ H1.1 H1.2.1 (by omega) (R1.le (by decide))).mono ?_
 intro e w2 hq
 obtain ⟨rfl, H2⟩ := H1.wrote hq
 clear hq
 obtain ⟨a2_0, a2_1, a2_2, a2_3, a2_4, a2_5, a2_6⟩ := z7 H2.2.2.1
 have hX2 := H2.2.1 _ (.inr rfl)
 go_wp2_with fail
 exact bodyPost_end (results_none rfl _ _ _) rfl (by rw [HF2.out]; exact H2.fin)
theorem instr_3 (wb pb mb : Nat) (o n k : Int) (s c m d : ByteArray) (hU : usesI o = 3) (ho : 0 < o /\ o < 44) (hz : s.size <= 1000 /\ c.size <= 1000 /\ m.size <= 1000 /\ d.size <= 1000 /\ (0 <= k /\ k <= 2000) /\ (-2147483648 <= n /\ n <= 2147483647)) (ok : Nat -> Prop) (st : WS) (w : World) (hw : Wt w ok wb pb mb st) (hok : ∀ b, ok b -> b < w.heap.size) (hroom : Room st 4) :
  Calls Tryz.prog 169 #[.pointer (some ⟨wb, 0, none⟩), .agg #[.int .i64 o, .int .i32 n, .int .i64 k, .string s, .string c, .string m, .string d]] w (Wrote ok wb pb mb (wIns (o, n, k, s, c, m, d) st) w) := by
 obtain ⟨hs, hc, hm, hd, hk, hn⟩ := hz
 have R1 := hroom.next (b := 3) (ext_nums (n := 1) (zs := [o]) (by simp; omega) (by simp)) (by decide)
 have HF : Hid (∀ st, wUse (o, n, k, s, c, m, d) st = (wNums [k]) st) := hid (fun st => by unfold wUse; simp [hU])
 have HF2 : Hid (wIns (o, n, k, s, c, m, d) st = (wNums [k]) (wNums [o] st)) := hid (by unfold wIns; exact HF.out _)
 have H0 := Sit.start [.int .i64 o, .int .i32 n, .int .i64 k, .string s, .string c, .string m, .string d] 61 hw hok
 go_enter Tryz.func169, Tryz.ntmps169
 go_wp2_with fail
 refine (num_w1 (w.heap.size + 1) _ wb pb mb _ o _ (by simp) _ H0.1 H0.2.1 (by omega) (by omega) (hroom.le (by decide))).mono ?_
 intro e w1 hq
 obtain ⟨rfl, H1⟩ := (H0.alloc _).wrote hq
 clear hq
 obtain ⟨a1_0, a1_1, a1_2, a1_3, a1_4, a1_5, a1_6⟩ := z7 H1.2.2.1
 have hX1 := H1.2.1 _ (.inr rfl)
 go_wp2_with fail
 refine (uses_any o _).mono ?_
 rintro e w' ⟨rfl, rfl⟩
 go_wp2_with fail
 refine (num_w1 (w1.heap.size) _ wb pb mb _ k _ rfl _ H1.1 H1.2.1 (by omega) (by omega) (R1.le (by decide))).mono ?_
 intro e w2 hq
 obtain ⟨rfl, H2⟩ := (H1.alloc _).wrote hq
 clear hq
 obtain ⟨a2_0, a2_1, a2_2, a2_3, a2_4, a2_5, a2_6⟩ := z7 H2.2.2.1
 have hX2 := H2.2.1 _ (.inr rfl)
 go_wp2_with fail
 exact bodyPost_end (results_none rfl _ _ _) rfl (by rw [HF2.out]; exact H2.fin)
theorem instr_4 (wb pb mb : Nat) (o n k : Int) (s c m d : ByteArray) (hU : usesI o = 4) (ho : 0 < o /\ o < 44) (hz : s.size <= 1000 /\ c.size <= 1000 /\ m.size <= 1000 /\ d.size <= 1000 /\ (0 <= k /\ k <= 2000) /\ (-2147483648 <= n /\ n <= 2147483647)) (ok : Nat -> Prop) (st : WS) (w : World) (hw : Wt w ok wb pb mb st) (hok : ∀ b, ok b -> b < w.heap.size) (hroom : Room st 4) :
  Calls Tryz.prog 169 #[.pointer (some ⟨wb, 0, none⟩), .agg #[.int .i64 o, .int .i32 n, .int .i64 k, .string s, .string c, .string m, .string d]] w (Wrote ok wb pb mb (wIns (o, n, k, s, c, m, d) st) w) := by
 obtain ⟨hs, hc, hm, hd, hk, hn⟩ := hz
 have R1 := hroom.next (b := 3) (ext_nums (n := 1) (zs := [o]) (by simp; omega) (by simp)) (by decide)
 have HF : Hid (∀ st, wUse (o, n, k, s, c, m, d) st = (fun st => wText m (wText c st)) st) := hid (fun st => by unfold wUse; simp [hU])
 have HF2 : Hid (wIns (o, n, k, s, c, m, d) st = (fun st => wText m (wText c st)) (wNums [o] st)) := hid (by unfold wIns; exact HF.out _)
 have R2 := R1.next (b := 2) (ext_text (s := c) (by omega)) (by decide)
 have H0 := Sit.start [.int .i64 o, .int .i32 n, .int .i64 k, .string s, .string c, .string m, .string d] 61 hw hok
 go_enter Tryz.func169, Tryz.ntmps169
 go_wp2_with fail
 refine (num_w1 (w.heap.size + 1) _ wb pb mb _ o _ (by simp) _ H0.1 H0.2.1 (by omega) (by omega) (hroom.le (by decide))).mono ?_
 intro e w1 hq
 obtain ⟨rfl, H1⟩ := (H0.alloc _).wrote hq
 clear hq
 obtain ⟨a1_0, a1_1, a1_2, a1_3, a1_4, a1_5, a1_6⟩ := z7 H1.2.2.1
 have hX1 := H1.2.1 _ (.inr rfl)
 go_wp2_with fail
 refine (uses_any o _).mono ?_
 rintro e w' ⟨rfl, rfl⟩
 go_wp2_with fail
 refine (text_w _ wb pb mb _ c _ H1.1 H1.2.1 (by omega) (R1.le (by decide))).mono ?_
 intro e w2 hq
 obtain ⟨rfl, H2⟩ := H1.wrote hq
 clear hq
 obtain ⟨a2_0, a2_1, a2_2, a2_3, a2_4, a2_5, a2_6⟩ := z7 H2.2.2.1
 have hX2 := H2.2.1 _ (.inr rfl)
 go_wp2_with fail
 refine (text_w _ wb pb mb _ m _ H2.1 H2.2.1 (by omega) (R2.le (by decide))).mono ?_
 intro e w3 hq
 obtain ⟨rfl, H3⟩ := H2.wrote hq
 clear hq
 obtain ⟨a3_0, a3_1, a3_2, a3_3, a3_4, a3_5, a3_6⟩ := z7 H3.2.2.1
 have hX3 := H3.2.1 _ (.inr rfl)
 go_wp2_with fail
 exact bodyPost_end (results_none rfl _ _ _) rfl (by rw [HF2.out]; exact H3.fin)
theorem instr_5 (wb pb mb : Nat) (o n k : Int) (s c m d : ByteArray) (hU : usesI o = 5) (ho : 0 < o /\ o < 44) (hz : s.size <= 1000 /\ c.size <= 1000 /\ m.size <= 1000 /\ d.size <= 1000 /\ (0 <= k /\ k <= 2000) /\ (-2147483648 <= n /\ n <= 2147483647)) (ok : Nat -> Prop) (st : WS) (w : World) (hw : Wt w ok wb pb mb st) (hok : ∀ b, ok b -> b < w.heap.size) (hroom : Room st 4) :
  Calls Tryz.prog 169 #[.pointer (some ⟨wb, 0, none⟩), .agg #[.int .i64 o, .int .i32 n, .int .i64 k, .string s, .string c, .string m, .string d]] w (Wrote ok wb pb mb (wIns (o, n, k, s, c, m, d) st) w) := by
 obtain ⟨hs, hc, hm, hd, hk, hn⟩ := hz
 have R1 := hroom.next (b := 3) (ext_nums (n := 1) (zs := [o]) (by simp; omega) (by simp)) (by decide)
 have HF : Hid (∀ st, wUse (o, n, k, s, c, m, d) st = (fun st => wText d (wText m (wText c st))) st) := hid (fun st => by unfold wUse; simp [hU])
 have HF2 : Hid (wIns (o, n, k, s, c, m, d) st = (fun st => wText d (wText m (wText c st))) (wNums [o] st)) := hid (by unfold wIns; exact HF.out _)
 have R2 := R1.next (b := 2) (ext_text (s := c) (by omega)) (by decide)
 have R3 := R2.next (b := 1) (ext_text (s := m) (by omega)) (by decide)
 have H0 := Sit.start [.int .i64 o, .int .i32 n, .int .i64 k, .string s, .string c, .string m, .string d] 61 hw hok
 go_enter Tryz.func169, Tryz.ntmps169
 go_wp2_with fail
 refine (num_w1 (w.heap.size + 1) _ wb pb mb _ o _ (by simp) _ H0.1 H0.2.1 (by omega) (by omega) (hroom.le (by decide))).mono ?_
 intro e w1 hq
 obtain ⟨rfl, H1⟩ := (H0.alloc _).wrote hq
 clear hq
 obtain ⟨a1_0, a1_1, a1_2, a1_3, a1_4, a1_5, a1_6⟩ := z7 H1.2.2.1
 have hX1 := H1.2.1 _ (.inr rfl)
 go_wp2_with fail
 refine (uses_any o _).mono ?_
 rintro e w' ⟨rfl, rfl⟩
 go_wp2_with fail
 refine (text_w _ wb pb mb _ c _ H1.1 H1.2.1 (by omega) (R1.le (by decide))).mono ?_
 intro e w2 hq
 obtain ⟨rfl, H2⟩ := H1.wrote hq
 clear hq
 obtain ⟨a2_0, a2_1, a2_2, a2_3, a2_4, a2_5, a2_6⟩ := z7 H2.2.2.1
 have hX2 := H2.2.1 _ (.inr rfl)
 go_wp2_with fail
 refine (text_w _ wb pb mb _ m _ H2.1 H2.2.1 (by omega) (R2.le (by decide))).mono ?_
 intro e w3 hq
 obtain ⟨rfl, H3⟩ := H2.wrote hq
 clear hq
 obtain ⟨a3_0, a3_1, a3_2, a3_3, a3_4, a3_5, a3_6⟩ := z7 H3.2.2.1
 have hX3 := H3.2.1 _ (.inr rfl)
 go_wp2_with fail
 refine (text_w _ wb pb mb _ d _ H3.1 H3.2.1 (by omega) R3).mono ?_
 intro e w4 hq
 obtain ⟨rfl, H4⟩ := H3.wrote hq
 clear hq
 obtain ⟨a4_0, a4_1, a4_2, a4_3, a4_4, a4_5, a4_6⟩ := z7 H4.2.2.1
 have hX4 := H4.2.1 _ (.inr rfl)
 go_wp2_with fail
 exact bodyPost_end (results_none rfl _ _ _) rfl (by rw [HF2.out]; exact H4.fin)
theorem instr_6 (wb pb mb : Nat) (o n k : Int) (s c m d : ByteArray) (hU : usesI o = 6) (ho : 0 < o /\ o < 44) (hz : s.size <= 1000 /\ c.size <= 1000 /\ m.size <= 1000 /\ d.size <= 1000 /\ (0 <= k /\ k <= 2000) /\ (-2147483648 <= n /\ n <= 2147483647)) (ok : Nat -> Prop) (st : WS) (w : World) (hw : Wt w ok wb pb mb st) (hok : ∀ b, ok b -> b < w.heap.size) (hroom : Room st 4) :
  Calls Tryz.prog 169 #[.pointer (some ⟨wb, 0, none⟩), .agg #[.int .i64 o, .int .i32 n, .int .i64 k, .string s, .string c, .string m, .string d]] w (Wrote ok wb pb mb (wIns (o, n, k, s, c, m, d) st) w) := by
 obtain ⟨hs, hc, hm, hd, hk, hn⟩ := hz
 have R1 := hroom.next (b := 3) (ext_nums (n := 1) (zs := [o]) (by simp; omega) (by simp)) (by decide)
 have HF : Hid (∀ st, wUse (o, n, k, s, c, m, d) st = (wText c) st) := hid (fun st => by unfold wUse; simp [hU])
 have HF2 : Hid (wIns (o, n, k, s, c, m, d) st = (wText c) (wNums [o] st)) := hid (by unfold wIns; exact HF.out _)
 have H0 := Sit.start [.int .i64 o, .int .i32 n, .int .i64 k, .string s, .string c, .string m, .string d] 61 hw hok
 go_enter Tryz.func169, Tryz.ntmps169
 go_wp2_with fail
 refine (num_w1 (w.heap.size + 1) _ wb pb mb _ o _ (by simp) _ H0.1 H0.2.1 (by omega) (by omega) (hroom.le (by decide))).mono ?_
 intro e w1 hq
 obtain ⟨rfl, H1⟩ := (H0.alloc _).wrote hq
 clear hq
 obtain ⟨a1_0, a1_1, a1_2, a1_3, a1_4, a1_5, a1_6⟩ := z7 H1.2.2.1
 have hX1 := H1.2.1 _ (.inr rfl)
 go_wp2_with fail
 refine (uses_any o _).mono ?_
 rintro e w' ⟨rfl, rfl⟩
 go_wp2_with fail
 refine (text_w _ wb pb mb _ c _ H1.1 H1.2.1 (by omega) (R1.le (by decide))).mono ?_
 intro e w2 hq
 obtain ⟨rfl, H2⟩ := H1.wrote hq
 clear hq
 obtain ⟨a2_0, a2_1, a2_2, a2_3, a2_4, a2_5, a2_6⟩ := z7 H2.2.2.1
 have hX2 := H2.2.1 _ (.inr rfl)
 go_wp2_with fail
 exact bodyPost_end (results_none rfl _ _ _) rfl (by rw [HF2.out]; exact H2.fin)
theorem instr_put (wb pb mb : Nat) (x : Ins) (hx : goodI x) (ok : Nat -> Prop) (vs : List Value) (st : WS) (w : World) (hw : Wt w ok wb pb mb st) (hok : ∀ b, ok b -> b < w.heap.size) (hv : (sP insC) ok w vs x) (hroom : Room st 4) :
  Calls Tryz.prog 169 #[.pointer (some ⟨wb, 0, none⟩), .agg vs.toArray] w (Wrote ok wb pb mb (wIns x st) w) := by
 obtain ⟨o, n, k, s, c, m, d⟩ := x
 have hvs : vs = insC (o, n, k, s, c, m, d) := hv
 subst hvs
 obtain ⟨s1, s2, s3, s4, o1, o2, k1, k2⟩ := right_sizes hx.1
 have hn := hx.2
 unfold okI at hn
 simp only at s1 s2 s3 s4 o1 o2 k1 k2 hn
 rcases uses_six o with h | h | h | h | h | h | h
 ·exact instr_0 wb pb mb o n k s c m d h ⟨o1, o2⟩ ⟨s1, by omega, by omega, by omega, ⟨k1, k2⟩, hn⟩ ok st w hw hok hroom
 ·exact instr_1 wb pb mb o n k s c m d h ⟨o1, o2⟩ ⟨s1, by omega, by omega, by omega, ⟨k1, k2⟩, hn⟩ ok st w hw hok hroom
 ·exact instr_2 wb pb mb o n k s c m d h ⟨o1, o2⟩ ⟨s1, by omega, by omega, by omega, ⟨k1, k2⟩, hn⟩ ok st w hw hok hroom
 ·exact instr_3 wb pb mb o n k s c m d h ⟨o1, o2⟩ ⟨s1, by omega, by omega, by omega, ⟨k1, k2⟩, hn⟩ ok st w hw hok hroom
 ·exact instr_4 wb pb mb o n k s c m d h ⟨o1, o2⟩ ⟨s1, by omega, by omega, by omega, ⟨k1, k2⟩, hn⟩ ok st w hw hok hroom
 ·exact instr_5 wb pb mb o n k s c m d h ⟨o1, o2⟩ ⟨s1, by omega, by omega, by omega, ⟨k1, k2⟩, hn⟩ ok st w hw hok hroom
 ·exact instr_6 wb pb mb o n k s c m d h ⟨o1, o2⟩ ⟨s1, by omega, by omega, by omega, ⟨k1, k2⟩, hn⟩ ok st w hw hok hroom
end Go.Proofs.YtijnimjmimeefaaGreat.A
