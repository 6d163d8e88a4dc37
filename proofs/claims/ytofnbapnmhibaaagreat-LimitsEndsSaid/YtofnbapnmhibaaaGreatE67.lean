/- Texts that the proof is made of, joined. No condition. -/
import Derived.Test.YtofnbapnmhibaaaGreatE66
import Derived.Test.YtofnbapnmhibaaaGreatE65
import Derived.Test.YtofnbapnmhibaaaGreatE6H
set_option linter.unusedVariables false
set_option linter.unusedSimpArgs false
set_option maxRecDepth 100000
set_option maxHeartbeats 16000000
namespace Go.Proofs.YtofnbapnmhibaaaGreat.A
open Go.RowKit Go.Proofs.YtofnbapnmhibaaaGreat.D Go.Proofs.YtofnbapnmhibaaaGreat.O
def szI (x : Ins) : Prop := x.2.2.2.1.size <= 100000 /\ x.2.2.2.2.1.size <= 100000 /\ x.2.2.2.2.2.1.size <= 100000 /\ x.2.2.2.2.2.2.size <= 100000
def szM (m : Mth) : Prop := m.name.size <= 100000 /\ (∀ t ∈ m.params,t.2.size <= 100000) /\ m.ret.2.size <= 100000 /\ (∀ x ∈ m.code,szI x) /\ ∀ h ∈ m.hs,h.2.2.2.size <= 100000
def szC (c : Cls) : Prop := c.name.size <= 100000 /\ c.super.size <= 100000 /\ (∀ s ∈ c.ifaces,s.size <= 100000) /\ (∀ f ∈ c.fields,f.1.size <= 100000 /\ f.2.1.2.size <= 100000) /\ ∀ m ∈ c.methods,szM m
def szA (a : Arch) : Prop := ∀ c ∈ a,szC c
theorem max_of {n : Nat} (h : n <= 100000) : n <= maxLen := by unfold maxLen; omega
theorem name_hf (s : ByteArray) (w : World) (hs : s.size <= 100000) : Calls Tryz.prog 57 #[.string s] w fun e w' => e = .returned (.bool (nameB s)) /\ Below w.heap.size w w' :=
 (name_any s w (max_of hs)).mono fun _ _ ⟨he,hw⟩ => ⟨he,hw ▸ Below.refl _ _⟩
theorem boxed {w w1 : World} {vs : List Value} {T : TypeId} (hb : Below (w.alloc (.cells vs.toArray T)).heap.size (w.alloc (.cells vs.toArray T)) w1) :
  CellsAt w1 w.heap.size 0 vs /\ w.heap.size < w1.heap.size /\ Below w.heap.size w w1 := by
 have hs := hb.size
 simp at hs
 refine ⟨fun j u hu => ?_,by omega,((Below.refl _ w).alloc (Nat.le_refl _) _).trans (hb.mono (by simp))⟩
 rw [hb.cell (p := ⟨w.heap.size,0 + j,none⟩) (by simp),Nat.zero_add]
 simp [hu]
theorem boxed_next {w w1 w2 : World} {b : Nat} {vs : List Value} (h : CellsAt w1 b 0 vs /\ b < w1.heap.size /\ Below w.heap.size w w1) (hb : Below w1.heap.size w1 w2) (hw : w.heap.size <= w1.heap.size) :
  CellsAt w2 b 0 vs /\ b < w2.heap.size /\ Below w.heap.size w w2 := ⟨h.1.below hb h.2.1,Nat.lt_of_lt_of_le h.2.1 hb.size,h.2.2.trans (hb.mono hw)⟩
theorem z2 {w : World} {b : Nat} {v0 v1 : Value} (h : CellsAt w b 0 [v0,v1]) : w.cell? ⟨b,0,none⟩ = some v0 /\ w.cell? ⟨b,1,none⟩ = some v1 := h.two
theorem z4 {w : World} {b : Nat} {v0 v1 v2 v3 : Value} (h : CellsAt w b 0 [v0,v1,v2,v3]) : w.cell? ⟨b,0,none⟩ = some v0 /\ w.cell? ⟨b,1,none⟩ = some v1 /\ w.cell? ⟨b,2,none⟩ = some v2 /\ w.cell? ⟨b,3,none⟩ = some v3 := h.four
theorem z6 {w : World} {b : Nat} {v0 v1 v2 v3 v4 v5 : Value} (h : CellsAt w b 0 [v0,v1,v2,v3,v4,v5]) : w.cell? ⟨b,0,none⟩ = some v0 /\ w.cell? ⟨b,1,none⟩ = some v1 /\ w.cell? ⟨b,2,none⟩ = some v2 /\ w.cell? ⟨b,3,none⟩ = some v3 /\ w.cell? ⟨b,4,none⟩ = some v4 /\ w.cell? ⟨b,5,none⟩ = some v5 := h.six
theorem z9 {w : World} {b : Nat} {v0 v1 v2 v3 v4 v5 v6 v7 v8 : Value} (h : CellsAt w b 0 [v0,v1,v2,v3,v4,v5,v6,v7,v8]) : w.cell? ⟨b,0,none⟩ = some v0 /\ w.cell? ⟨b,1,none⟩ = some v1 /\ w.cell? ⟨b,2,none⟩ = some v2 /\ w.cell? ⟨b,3,none⟩ = some v3 /\ w.cell? ⟨b,4,none⟩ = some v4 /\ w.cell? ⟨b,5,none⟩ = some v5 /\ w.cell? ⟨b,6,none⟩ = some v6 /\ w.cell? ⟨b,7,none⟩ = some v7 /\ w.cell? ⟨b,8,none⟩ = some v8 := h.nine
theorem upTo_any (n m : Int) (w : World) : Calls Tryz.prog 81 #[.int .i64 n,.int .i64 m] w fun e w' => e = .returned (.bool (upToB n m)) /\ w = w' := by
 go_enter Tryz.func81,Tryz.ntmps81
 go_wp2
 all_goals go_ret
 all_goals refine ⟨D.ret_bool ?_,rfl⟩
 all_goals (rw [Bool.eq_iff_iff]; simp [upToB]; try omega)
theorem holds_any (k : Int) (c : ByteArray) (w : World) (hc : c.size <= 100000) :
  Calls Tryz.prog 78 #[.agg #[.int .i64 k,.string c]] w fun e w' => e = .returned (.bool (holdsB (k,c))) /\ Below w.heap.size w w' := by
 cases h0 : rightB k c with
 | false =>
  have HF : Hid (holdsB (k,c) = false) := hid (by show (rightB k c && (k != 5)) = _; simp [h0])
  go_enter Tryz.func78,Tryz.ntmps78
  go_wp2_with fail
  refine (D.right_any k c _ (by omega)).mono ?_
  rintro e w1 ⟨rfl,hb1⟩
  have hx1 := boxed (vs := [.int .i64 k,.string c]) hb1
  obtain ⟨q1_0,q1_1⟩ := z2 hx1.1
  have hB := hx1.2.2
  have hlt1 := hx1.2.1
  go_wp2_with fail
  go_ret
  exact ⟨D.ret_bool HF.out.symm,hB⟩
 | true =>
  cases h1 : k != 5 with
  | false =>
   have HF : Hid (holdsB (k,c) = false) := hid (by show (rightB k c && (k != 5)) = _; simp [h1])
   go_enter Tryz.func78,Tryz.ntmps78
   go_wp2_with fail
   refine (D.right_any k c _ (by omega)).mono ?_
   rintro e w1 ⟨rfl,hb1⟩
   have hx1 := boxed (vs := [.int .i64 k,.string c]) hb1
   obtain ⟨q1_0,q1_1⟩ := z2 hx1.1
   have hB := hx1.2.2
   have hlt1 := hx1.2.1
   go_wp2_with fail
   go_ret
   exact ⟨D.ret_bool HF.out.symm,hB⟩
  | true =>
   have HF : Hid (holdsB (k,c) = true) := hid (by show (rightB k c && (k != 5)) = _; simp [h0,h1])
   go_enter Tryz.func78,Tryz.ntmps78
   go_wp2_with fail
   refine (D.right_any k c _ (by omega)).mono ?_
   rintro e w1 ⟨rfl,hb1⟩
   have hx1 := boxed (vs := [.int .i64 k,.string c]) hb1
   obtain ⟨q1_0,q1_1⟩ := z2 hx1.1
   have hB := hx1.2.2
   have hlt1 := hx1.2.1
   go_wp2_with fail
   go_ret
   exact ⟨D.ret_bool HF.out.symm,hB⟩
theorem formedField_any (n : ByteArray) (k : Int) (c : ByteArray) (s : Bool) (w : World) (hn : n.size <= 100000) (hc : c.size <= 100000) :
  Calls Tryz.prog 60 #[.agg #[.string n,.int .i64 k,.string c,.bool s]] w fun e w' => e = .returned (.bool (fldB (n,(k,c),s))) /\ Below w.heap.size w w' := by
 cases h0 : nameB n with
 | false =>
  have HF : Hid (fldB (n,(k,c),s) = false) := hid (by unfold fldB; simp [h0])
  go_enter Tryz.func60,Tryz.ntmps60
  go_wp2_with fail
  refine (name_any n _ (max_of hn)).mono ?_
  rintro e w' ⟨rfl,rfl⟩
  go_wp2_with fail
  go_ret
  exact ⟨D.ret_bool HF.out.symm,(Below.refl _ _).alloc (Nat.le_refl _) _⟩
 | true =>
  cases h1 : holdsB (k,c) with
  | false =>
   have HF : Hid (fldB (n,(k,c),s) = false) := hid (by unfold fldB; simp [h1])
   go_enter Tryz.func60,Tryz.ntmps60
   go_wp2_with fail
   refine (name_any n _ (max_of hn)).mono ?_
   rintro e w' ⟨rfl,rfl⟩
   go_wp2_with fail
   refine (holds_any k c _ hc).mono ?_
   rintro e w1 ⟨rfl,hb1⟩
   have hx1 := boxed (vs := [.string n,.int .i64 k,.string c,.bool s]) hb1
   obtain ⟨q1_0,q1_1,q1_2,q1_3⟩ := z4 hx1.1
   have hB := hx1.2.2
   have hlt1 := hx1.2.1
   go_wp2_with fail
   go_ret
   exact ⟨D.ret_bool HF.out.symm,hB⟩
  | true =>
   have HF : Hid (fldB (n,(k,c),s) = true) := hid (by unfold fldB; simp [h0,h1])
   go_enter Tryz.func60,Tryz.ntmps60
   go_wp2_with fail
   refine (name_any n _ (max_of hn)).mono ?_
   rintro e w' ⟨rfl,rfl⟩
   go_wp2_with fail
   refine (holds_any k c _ hc).mono ?_
   rintro e w1 ⟨rfl,hb1⟩
   have hx1 := boxed (vs := [.string n,.int .i64 k,.string c,.bool s]) hb1
   obtain ⟨q1_0,q1_1,q1_2,q1_3⟩ := z4 hx1.1
   have hB := hx1.2.2
   have hlt1 := hx1.2.1
   go_wp2_with fail
   go_ret
   exact ⟨D.ret_bool HF.out.symm,hB⟩
theorem formedHandler_any (f t a : Int) (c : ByteArray) (w : World) (hc : c.size <= 100000) :
  Calls Tryz.prog 85 #[.agg #[.int .i64 f,.int .i64 t,.int .i64 a,.string c]] w fun e w' => e = .returned (.bool (hndB (f,t,a,c))) /\ Below w.heap.size w w' := by
 cases h0 : upToB f 2000 with
 | false =>
  have HF : Hid (hndB (f,t,a,c) = false) := hid (by unfold hndB; simp [h0])
  go_enter Tryz.func85,Tryz.ntmps85
  go_wp2_with fail
  refine (upTo_any f 2000 _).mono ?_
  rintro e w' ⟨rfl,rfl⟩
  go_wp2_with fail
  go_ret
  exact ⟨D.ret_bool HF.out.symm,(Below.refl _ _).alloc (Nat.le_refl _) _⟩
 | true =>
  cases h1 : upToB t 2000 with
  | false =>
   have HF : Hid (hndB (f,t,a,c) = false) := hid (by unfold hndB; simp [h1])
   go_enter Tryz.func85,Tryz.ntmps85
   go_wp2_with fail
   refine (upTo_any f 2000 _).mono ?_
   rintro e w' ⟨rfl,rfl⟩
   go_wp2_with fail
   refine (upTo_any t 2000 _).mono ?_
   rintro e w' ⟨rfl,rfl⟩
   go_wp2_with fail
   go_ret
   exact ⟨D.ret_bool HF.out.symm,(Below.refl _ _).alloc (Nat.le_refl _) _⟩
  | true =>
   cases h2 : upToB a 2000 with
   | false =>
    have HF : Hid (hndB (f,t,a,c) = false) := hid (by unfold hndB; simp [h2])
    go_enter Tryz.func85,Tryz.ntmps85
    go_wp2_with fail
    refine (upTo_any f 2000 _).mono ?_
    rintro e w' ⟨rfl,rfl⟩
    go_wp2_with fail
    refine (upTo_any t 2000 _).mono ?_
    rintro e w' ⟨rfl,rfl⟩
    go_wp2_with fail
    refine (upTo_any a 2000 _).mono ?_
    rintro e w' ⟨rfl,rfl⟩
    go_wp2_with fail
    go_ret
    exact ⟨D.ret_bool HF.out.symm,(Below.refl _ _).alloc (Nat.le_refl _) _⟩
   | true =>
    cases h3 : nameB c with
    | false =>
     have HF : Hid (hndB (f,t,a,c) = false) := hid (by unfold hndB; simp [h3])
     go_enter Tryz.func85,Tryz.ntmps85
     go_wp2_with fail
     refine (upTo_any f 2000 _).mono ?_
     rintro e w' ⟨rfl,rfl⟩
     go_wp2_with fail
     refine (upTo_any t 2000 _).mono ?_
     rintro e w' ⟨rfl,rfl⟩
     go_wp2_with fail
     refine (upTo_any a 2000 _).mono ?_
     rintro e w' ⟨rfl,rfl⟩
     go_wp2_with fail
     refine (name_any c _ (max_of hc)).mono ?_
     rintro e w' ⟨rfl,rfl⟩
     go_wp2_with fail
     go_ret
     exact ⟨D.ret_bool HF.out.symm,(Below.refl _ _).alloc (Nat.le_refl _) _⟩
    | true =>
     have HF : Hid (hndB (f,t,a,c) = true) := hid (by unfold hndB; simp [h0,h1,h2,h3])
     go_enter Tryz.func85,Tryz.ntmps85
     go_wp2_with fail
     refine (upTo_any f 2000 _).mono ?_
     rintro e w' ⟨rfl,rfl⟩
     go_wp2_with fail
     refine (upTo_any t 2000 _).mono ?_
     rintro e w' ⟨rfl,rfl⟩
     go_wp2_with fail
     refine (upTo_any a 2000 _).mono ?_
     rintro e w' ⟨rfl,rfl⟩
     go_wp2_with fail
     refine (name_any c _ (max_of hc)).mono ?_
     rintro e w' ⟨rfl,rfl⟩
     go_wp2_with fail
     go_ret
     exact ⟨D.ret_bool HF.out.symm,(Below.refl _ _).alloc (Nat.le_refl _) _⟩
theorem holds_hf (ts : List Ty) (hs : ∀ t ∈ ts,t.2.size <= 100000) (ok : Nat -> Prop) (w : World) : ∀ x ∈ ts,∀ vs w',(sP tyC) ok w' vs x -> Below w.heap.size w w' -> Calls Tryz.prog 78 #[.agg vs.toArray] w' fun e w'' => e = .returned (.bool (holdsB x)) /\ Below w'.heap.size w' w'' := by
 intro x hx vs w' hv _
 have : vs = tyC x := hv
 subst this
 exact holds_any x.1 x.2 w' (hs x hx)
theorem field_hf (ts : List Fld) (hs : ∀ f ∈ ts,f.1.size <= 100000 /\ f.2.1.2.size <= 100000) (ok : Nat -> Prop) (w : World) : ∀ x ∈ ts,∀ vs w',(sP fldC) ok w' vs x -> Below w.heap.size w w' -> Calls Tryz.prog 60 #[.agg vs.toArray] w' fun e w'' => e = .returned (.bool (fldB x)) /\ Below w'.heap.size w' w'' := by
 intro x hx vs w' hv _
 have : vs = fldC x := hv
 subst this
 exact formedField_any x.1 x.2.1.1 x.2.1.2 x.2.2 w' (hs x hx).1 (hs x hx).2
theorem handler_hf (ts : List Hnd) (hs : ∀ h ∈ ts,h.2.2.2.size <= 100000) (ok : Nat -> Prop) (w : World) : ∀ x ∈ ts,∀ vs w',(sP hndC) ok w' vs x -> Below w.heap.size w w' -> Calls Tryz.prog 85 #[.agg vs.toArray] w' fun e w'' => e = .returned (.bool (hndB x)) /\ Below w'.heap.size w' w'' := by
 intro x hx vs w' hv _
 have : vs = hndC x := hv
 subst this
 exact formedHandler_any x.1 x.2.1 x.2.2.1 x.2.2.2 w' (hs x hx)
theorem ins_hf (ts : List Ins) (hs : ∀ x ∈ ts,szI x) (ok : Nat -> Prop) (w : World) (hg : Glob w) : ∀ x ∈ ts,∀ vs w',(sP insC) ok w' vs x -> Below w.heap.size w w' -> Calls Tryz.prog 83 #[.agg vs.toArray] w' fun e w'' => e = .returned (.bool (rightI x)) /\ Below w'.heap.size w' w'' := by
 intro x hx vs w' hv hb
 have : vs = insC x := hv
 subst this
 obtain ⟨h1,h2,h3,h4⟩ := hs x hx
 exact O.right_any x.1 x.2.1 x.2.2.1 x.2.2.2.1 x.2.2.2.2.1 x.2.2.2.2.2.1 x.2.2.2.2.2.2 w' (hg.below hb (Nat.le_refl _)) (max_of h2) (max_of h3) (by omega)
theorem formedMethod_any (m : Mth) (ok : Nat -> Prop) (pp pc ph : Option Addr) (np nc nh cp cc ch : Nat) (w : World) (hz : szM m) (hg : Glob w) (hp : RdX 2 (sP tyC) ok w (.slice pp np cp) m.params) (hc : RdX 7 (sP insC) ok w (.slice pc nc cc) m.code) (hh : RdX 4 (sP hndC) ok w (.slice ph nh ch) m.hs) :
  Calls Tryz.prog 62 #[.agg #[.string m.name,.slice pp np cp,.int .i64 m.ret.1,.string m.ret.2,.bool m.st,.bool m.ab,.int .i64 m.locals,.slice pc nc cc,.slice ph nh ch]] w fun e w' => e = .returned (.bool (mthB m)) /\ Below w.heap.size w w' := by
 obtain ⟨z1,z2,z3,z4,z5⟩ := hz
 have HP : ∀ w',Below w.heap.size w w' -> Calls Tryz.prog 79 #[.slice pp np cp,.int .i64 8,.func (.func 78) #[] #[]] w' fun e w2 => e = .returned (.bool (allB 8 holdsB m.params)) /\ Below w'.heap.size w' w2 := fun w' hW => all_ty holdsB 8 ok _ _ w' (hp.any (sP.grow _) hW) (by decide) (holds_hf _ z2 ok w')
 have HC : ∀ w',Below w.heap.size w w' -> Calls Tryz.prog 82 #[.slice pc nc cc,.int .i64 2000,.func (.func 83) #[] #[]] w' fun e w2 => e = .returned (.bool (allB 2000 rightI m.code)) /\ Below w'.heap.size w' w2 := fun w' hW => all_ins rightI 2000 ok _ _ w' (hc.any (sP.grow _) hW) (by decide) (ins_hf _ z4 ok w' (hg.below hW (Nat.le_refl _)))
 have HH : ∀ w',Below w.heap.size w w' -> Calls Tryz.prog 84 #[.slice ph nh ch,.int .i64 50,.func (.func 85) #[] #[]] w' fun e w2 => e = .returned (.bool (allB 50 hndB m.hs)) /\ Below w'.heap.size w' w2 := fun w' hW => all_hnd hndB 50 ok _ _ w' (hh.any (sP.grow _) hW) (by decide) (handler_hf _ z5 ok w')
 have HPh := hid HP
 have HCh := hid HC
 have HHh := hid HH
 have hA : Below w.heap.size w (w.alloc (.cells #[.string m.name,.slice pp np cp,.int .i64 m.ret.1,.string m.ret.2,.bool m.st,.bool m.ab,.int .i64 m.locals,.slice pc nc cc,.slice ph nh ch] 29)) := (Below.refl _ w).alloc (Nat.le_refl _) _
 clear HP HC HH hp hc hh z2 z4 z5
 cases h0 : nameB m.name with
 | false =>
  have HF : Hid (mthB m = false) := hid (by unfold mthB; simp [h0])
  go_enter Tryz.func62,Tryz.ntmps62
  go_wp2_with fail
  refine (name_any m.name _ (max_of z1)).mono ?_
  rintro e w' ⟨rfl,rfl⟩
  go_wp2_with fail
  go_ret
  exact ⟨D.ret_bool HF.out.symm,(Below.refl _ _).alloc (Nat.le_refl _) _⟩
 | true =>
  cases h1 : allB 8 holdsB m.params with
  | false =>
   have HF : Hid (mthB m = false) := hid (by unfold mthB; simp [h1])
   go_enter Tryz.func62,Tryz.ntmps62
   go_wp2_with fail
   refine (name_any m.name _ (max_of z1)).mono ?_
   rintro e w' ⟨rfl,rfl⟩
   go_wp2_with fail
   refine (HPh.out _ hA).mono ?_
   rintro e w1 ⟨rfl,hb1⟩
   have hx1 := boxed (vs := [.string m.name,.slice pp np cp,.int .i64 m.ret.1,.string m.ret.2,.bool m.st,.bool m.ab,.int .i64 m.locals,.slice pc nc cc,.slice ph nh ch]) hb1
   obtain ⟨q1_0,q1_1,q1_2,q1_3,q1_4,q1_5,q1_6,q1_7,q1_8⟩ := z9 hx1.1
   have hB := hx1.2.2
   have hlt1 := hx1.2.1
   go_wp2_with fail
   go_ret
   exact ⟨D.ret_bool HF.out.symm,hB⟩
  | true =>
   cases h2 : rightB m.ret.1 m.ret.2 with
   | false =>
    have HF : Hid (mthB m = false) := hid (by unfold mthB; simp [h2])
    go_enter Tryz.func62,Tryz.ntmps62
    go_wp2_with fail
    refine (name_any m.name _ (max_of z1)).mono ?_
    rintro e w' ⟨rfl,rfl⟩
    go_wp2_with fail
    refine (HPh.out _ hA).mono ?_
    rintro e w1 ⟨rfl,hb1⟩
    have hx1 := boxed (vs := [.string m.name,.slice pp np cp,.int .i64 m.ret.1,.string m.ret.2,.bool m.st,.bool m.ab,.int .i64 m.locals,.slice pc nc cc,.slice ph nh ch]) hb1
    obtain ⟨q1_0,q1_1,q1_2,q1_3,q1_4,q1_5,q1_6,q1_7,q1_8⟩ := z9 hx1.1
    have hB := hx1.2.2
    have hlt1 := hx1.2.1
    go_wp2_with fail
    refine (D.right_any m.ret.1 m.ret.2 _ (by omega)).mono ?_
    rintro e w2 ⟨rfl,hb2⟩
    have hx2 := boxed_next hx1 hb2 hx1.2.2.size
    obtain ⟨q2_0,q2_1,q2_2,q2_3,q2_4,q2_5,q2_6,q2_7,q2_8⟩ := z9 hx2.1
    have hB := hx2.2.2
    have hlt2 := hx2.2.1
    go_wp2_with fail
    go_ret
    exact ⟨D.ret_bool HF.out.symm,hB⟩
   | true =>
    cases h3 : upToB m.locals 200 with
    | false =>
     have HF : Hid (mthB m = false) := hid (by unfold mthB; simp [h3])
     go_enter Tryz.func62,Tryz.ntmps62
     go_wp2_with fail
     refine (name_any m.name _ (max_of z1)).mono ?_
     rintro e w' ⟨rfl,rfl⟩
     go_wp2_with fail
     refine (HPh.out _ hA).mono ?_
     rintro e w1 ⟨rfl,hb1⟩
     have hx1 := boxed (vs := [.string m.name,.slice pp np cp,.int .i64 m.ret.1,.string m.ret.2,.bool m.st,.bool m.ab,.int .i64 m.locals,.slice pc nc cc,.slice ph nh ch]) hb1
     obtain ⟨q1_0,q1_1,q1_2,q1_3,q1_4,q1_5,q1_6,q1_7,q1_8⟩ := z9 hx1.1
     have hB := hx1.2.2
     have hlt1 := hx1.2.1
     go_wp2_with fail
     refine (D.right_any m.ret.1 m.ret.2 _ (by omega)).mono ?_
     rintro e w2 ⟨rfl,hb2⟩
     have hx2 := boxed_next hx1 hb2 hx1.2.2.size
     obtain ⟨q2_0,q2_1,q2_2,q2_3,q2_4,q2_5,q2_6,q2_7,q2_8⟩ := z9 hx2.1
     have hB := hx2.2.2
     have hlt2 := hx2.2.1
     go_wp2_with fail
     refine (upTo_any m.locals 200 _).mono ?_
     rintro e w' ⟨rfl,rfl⟩
     go_wp2_with fail
     go_ret
     exact ⟨D.ret_bool HF.out.symm,hB⟩
    | true =>
     cases h4 : allB 2000 rightI m.code with
     | false =>
      have HF : Hid (mthB m = false) := hid (by unfold mthB; simp [h4])
      go_enter Tryz.func62,Tryz.ntmps62
      go_wp2_with fail
      refine (name_any m.name _ (max_of z1)).mono ?_
      rintro e w' ⟨rfl,rfl⟩
      go_wp2_with fail
      refine (HPh.out _ hA).mono ?_
      rintro e w1 ⟨rfl,hb1⟩
      have hx1 := boxed (vs := [.string m.name,.slice pp np cp,.int .i64 m.ret.1,.string m.ret.2,.bool m.st,.bool m.ab,.int .i64 m.locals,.slice pc nc cc,.slice ph nh ch]) hb1
      obtain ⟨q1_0,q1_1,q1_2,q1_3,q1_4,q1_5,q1_6,q1_7,q1_8⟩ := z9 hx1.1
      have hB := hx1.2.2
      have hlt1 := hx1.2.1
      go_wp2_with fail
      refine (D.right_any m.ret.1 m.ret.2 _ (by omega)).mono ?_
      rintro e w2 ⟨rfl,hb2⟩
      have hx2 := boxed_next hx1 hb2 hx1.2.2.size
      obtain ⟨q2_0,q2_1,q2_2,q2_3,q2_4,q2_5,q2_6,q2_7,q2_8⟩ := z9 hx2.1
      have hB := hx2.2.2
      have hlt2 := hx2.2.1
      go_wp2_with fail
      refine (upTo_any m.locals 200 _).mono ?_
      rintro e w' ⟨rfl,rfl⟩
      go_wp2_with fail
      refine (HCh.out _ hB).mono ?_
      rintro e w3 ⟨rfl,hb3⟩
      have hx3 := boxed_next hx2 hb3 hx2.2.2.size
      obtain ⟨q3_0,q3_1,q3_2,q3_3,q3_4,q3_5,q3_6,q3_7,q3_8⟩ := z9 hx3.1
      have hB := hx3.2.2
      have hlt3 := hx3.2.1
      go_wp2_with fail
      go_ret
      exact ⟨D.ret_bool HF.out.symm,hB⟩
     | true =>
      cases h5 : allB 50 hndB m.hs with
      | false =>
       have HF : Hid (mthB m = false) := hid (by unfold mthB; simp [h5])
       go_enter Tryz.func62,Tryz.ntmps62
       go_wp2_with fail
       refine (name_any m.name _ (max_of z1)).mono ?_
       rintro e w' ⟨rfl,rfl⟩
       go_wp2_with fail
       refine (HPh.out _ hA).mono ?_
       rintro e w1 ⟨rfl,hb1⟩
       have hx1 := boxed (vs := [.string m.name,.slice pp np cp,.int .i64 m.ret.1,.string m.ret.2,.bool m.st,.bool m.ab,.int .i64 m.locals,.slice pc nc cc,.slice ph nh ch]) hb1
       obtain ⟨q1_0,q1_1,q1_2,q1_3,q1_4,q1_5,q1_6,q1_7,q1_8⟩ := z9 hx1.1
       have hB := hx1.2.2
       have hlt1 := hx1.2.1
       go_wp2_with fail
       refine (D.right_any m.ret.1 m.ret.2 _ (by omega)).mono ?_
       rintro e w2 ⟨rfl,hb2⟩
       have hx2 := boxed_next hx1 hb2 hx1.2.2.size
       obtain ⟨q2_0,q2_1,q2_2,q2_3,q2_4,q2_5,q2_6,q2_7,q2_8⟩ := z9 hx2.1
       have hB := hx2.2.2
       have hlt2 := hx2.2.1
       go_wp2_with fail
       refine (upTo_any m.locals 200 _).mono ?_
       rintro e w' ⟨rfl,rfl⟩
       go_wp2_with fail
       refine (HCh.out _ hB).mono ?_
       rintro e w3 ⟨rfl,hb3⟩
       have hx3 := boxed_next hx2 hb3 hx2.2.2.size
       obtain ⟨q3_0,q3_1,q3_2,q3_3,q3_4,q3_5,q3_6,q3_7,q3_8⟩ := z9 hx3.1
       have hB := hx3.2.2
       have hlt3 := hx3.2.1
       go_wp2_with fail
       refine (HHh.out _ hB).mono ?_
       rintro e w4 ⟨rfl,hb4⟩
       have hx4 := boxed_next hx3 hb4 hx3.2.2.size
       obtain ⟨q4_0,q4_1,q4_2,q4_3,q4_4,q4_5,q4_6,q4_7,q4_8⟩ := z9 hx4.1
       have hB := hx4.2.2
       have hlt4 := hx4.2.1
       go_wp2_with fail
       go_ret
       exact ⟨D.ret_bool HF.out.symm,hB⟩
      | true =>
       have HF : Hid (mthB m = true) := hid (by unfold mthB; simp [h0,h1,h2,h3,h4,h5])
       go_enter Tryz.func62,Tryz.ntmps62
       go_wp2_with fail
       refine (name_any m.name _ (max_of z1)).mono ?_
       rintro e w' ⟨rfl,rfl⟩
       go_wp2_with fail
       refine (HPh.out _ hA).mono ?_
       rintro e w1 ⟨rfl,hb1⟩
       have hx1 := boxed (vs := [.string m.name,.slice pp np cp,.int .i64 m.ret.1,.string m.ret.2,.bool m.st,.bool m.ab,.int .i64 m.locals,.slice pc nc cc,.slice ph nh ch]) hb1
       obtain ⟨q1_0,q1_1,q1_2,q1_3,q1_4,q1_5,q1_6,q1_7,q1_8⟩ := z9 hx1.1
       have hB := hx1.2.2
       have hlt1 := hx1.2.1
       go_wp2_with fail
       refine (D.right_any m.ret.1 m.ret.2 _ (by omega)).mono ?_
       rintro e w2 ⟨rfl,hb2⟩
       have hx2 := boxed_next hx1 hb2 hx1.2.2.size
       obtain ⟨q2_0,q2_1,q2_2,q2_3,q2_4,q2_5,q2_6,q2_7,q2_8⟩ := z9 hx2.1
       have hB := hx2.2.2
       have hlt2 := hx2.2.1
       go_wp2_with fail
       refine (upTo_any m.locals 200 _).mono ?_
       rintro e w' ⟨rfl,rfl⟩
       go_wp2_with fail
       refine (HCh.out _ hB).mono ?_
       rintro e w3 ⟨rfl,hb3⟩
       have hx3 := boxed_next hx2 hb3 hx2.2.2.size
       obtain ⟨q3_0,q3_1,q3_2,q3_3,q3_4,q3_5,q3_6,q3_7,q3_8⟩ := z9 hx3.1
       have hB := hx3.2.2
       have hlt3 := hx3.2.1
       go_wp2_with fail
       refine (HHh.out _ hB).mono ?_
       rintro e w4 ⟨rfl,hb4⟩
       have hx4 := boxed_next hx3 hb4 hx3.2.2.size
       obtain ⟨q4_0,q4_1,q4_2,q4_3,q4_4,q4_5,q4_6,q4_7,q4_8⟩ := z9 hx4.1
       have hB := hx4.2.2
       have hlt4 := hx4.2.1
       go_wp2_with fail
       go_ret
       exact ⟨D.ret_bool HF.out.symm,hB⟩
theorem method_hf (ms : List Mth) (hs : ∀ m ∈ ms,szM m) (ok : Nat -> Prop) (w : World) (hg : Glob w) : ∀ x ∈ ms,∀ vs w',mP ok w' vs x -> Below w.heap.size w w' -> Calls Tryz.prog 62 #[.agg vs.toArray] w' fun e w'' => e = .returned (.bool (mthB x)) /\ Below w'.heap.size w' w'' := by
 intro x hx vs w' hv hb
 obtain ⟨vp,vc,vh,rfl,h1,h2,h3⟩ := hv
 obtain ⟨pp,cp,rfl,-⟩ := h1.len
 obtain ⟨pc,cc,rfl,-⟩ := h2.len
 obtain ⟨ph,ch,rfl,-⟩ := h3.len
 exact formedMethod_any x ok _ _ _ _ _ _ _ _ _ w' (hs x hx) (hg.below hb (Nat.le_refl _)) h1 h2 h3
theorem formedClass_any (c : Cls) (ok : Nat -> Prop) (pi pf pm : Option Addr) (ni nf nm ci cf cm : Nat) (w : World) (hz : szC c) (hg : Glob w) (hi : RdX 1 (sP strC) ok w (.slice pi ni ci) c.ifaces) (hf : RdX 4 (sP fldC) ok w (.slice pf nf cf) c.fields) (hm : RdX 9 mP ok w (.slice pm nm cm) c.methods) :
  Calls Tryz.prog 48 #[.agg #[.string c.name,.string c.super,.slice pi ni ci,.int .i64 c.kind,.slice pf nf cf,.slice pm nm cm]] w fun e w' => e = .returned (.bool (clsB c)) /\ Below w.heap.size w w' := by
 obtain ⟨z1,z2,z3,z4,z5⟩ := hz
 have HI : ∀ w',Below w.heap.size w w' -> Calls Tryz.prog 58 #[.slice pi ni ci,.int .i64 20,.func (.func 57) #[] #[]] w' fun e w2 => e = .returned (.bool (allB 20 nameB c.ifaces)) /\ Below w'.heap.size w' w2 := fun w' hW => all_str nameB 20 ok _ _ w' (hi.any (sP.grow _) hW) (by decide) (fun x hx w2 _ => name_hf x w2 (z3 x hx))
 have HF0 : ∀ w',Below w.heap.size w w' -> Calls Tryz.prog 59 #[.slice pf nf cf,.int .i64 100,.func (.func 60) #[] #[]] w' fun e w2 => e = .returned (.bool (allB 100 fldB c.fields)) /\ Below w'.heap.size w' w2 := fun w' hW => all_fld fldB 100 ok _ _ w' (hf.any (sP.grow _) hW) (by decide) (field_hf _ z4 ok w')
 have HM : ∀ w',Below w.heap.size w w' -> Calls Tryz.prog 61 #[.slice pm nm cm,.int .i64 100,.func (.func 62) #[] #[]] w' fun e w2 => e = .returned (.bool (allB 100 mthB c.methods)) /\ Below w'.heap.size w' w2 := fun w' hW => all_mth mthB 100 ok _ _ w' (hm.any mP.grow hW) (by decide) (method_hf _ z5 ok w' (hg.below hW (Nat.le_refl _)))
 have HIh := hid HI
 have HFh := hid HF0
 have HMh := hid HM
 have hA : Below w.heap.size w (w.alloc (.cells #[.string c.name,.string c.super,.slice pi ni ci,.int .i64 c.kind,.slice pf nf cf,.slice pm nm cm] 57)) := (Below.refl _ w).alloc (Nat.le_refl _) _
 clear HI HF0 HM hi hf hm z3 z4 z5
 cases h0 : nameB c.name with
 | false =>
  have HF : Hid (clsB c = false) := hid (by unfold clsB; simp [h0])
  go_enter Tryz.func48,Tryz.ntmps48
  go_wp2_with fail
  refine (name_any c.name _ (max_of z1)).mono ?_
  rintro e w' ⟨rfl,rfl⟩
  go_wp2_with fail
  go_ret
  exact ⟨D.ret_bool HF.out.symm,(Below.refl _ _).alloc (Nat.le_refl _) _⟩
 | true =>
  cases h1 : nameB c.super with
  | false =>
   have HF : Hid (clsB c = false) := hid (by unfold clsB; simp [h1])
   go_enter Tryz.func48,Tryz.ntmps48
   go_wp2_with fail
   refine (name_any c.name _ (max_of z1)).mono ?_
   rintro e w' ⟨rfl,rfl⟩
   go_wp2_with fail
   refine (name_any c.super _ (max_of z2)).mono ?_
   rintro e w' ⟨rfl,rfl⟩
   go_wp2_with fail
   go_ret
   exact ⟨D.ret_bool HF.out.symm,(Below.refl _ _).alloc (Nat.le_refl _) _⟩
  | true =>
   cases h2 : allB 20 nameB c.ifaces with
   | false =>
    have HF : Hid (clsB c = false) := hid (by unfold clsB; simp [h2])
    go_enter Tryz.func48,Tryz.ntmps48
    go_wp2_with fail
    refine (name_any c.name _ (max_of z1)).mono ?_
    rintro e w' ⟨rfl,rfl⟩
    go_wp2_with fail
    refine (name_any c.super _ (max_of z2)).mono ?_
    rintro e w' ⟨rfl,rfl⟩
    go_wp2_with fail
    refine (HIh.out _ hA).mono ?_
    rintro e w1 ⟨rfl,hb1⟩
    have hx1 := boxed (vs := [.string c.name,.string c.super,.slice pi ni ci,.int .i64 c.kind,.slice pf nf cf,.slice pm nm cm]) hb1
    obtain ⟨q1_0,q1_1,q1_2,q1_3,q1_4,q1_5⟩ := z6 hx1.1
    have hB := hx1.2.2
    have hlt1 := hx1.2.1
    go_wp2_with fail
    go_ret
    exact ⟨D.ret_bool HF.out.symm,hB⟩
   | true =>
    cases h3 : decide (1 <= c.kind) with
    | false =>
     have HF : Hid (clsB c = false) := hid (by unfold clsB; simp [h3])
     go_enter Tryz.func48,Tryz.ntmps48
     go_wp2_with fail
     refine (name_any c.name _ (max_of z1)).mono ?_
     rintro e w' ⟨rfl,rfl⟩
     go_wp2_with fail
     refine (name_any c.super _ (max_of z2)).mono ?_
     rintro e w' ⟨rfl,rfl⟩
     go_wp2_with fail
     refine (HIh.out _ hA).mono ?_
     rintro e w1 ⟨rfl,hb1⟩
     have hx1 := boxed (vs := [.string c.name,.string c.super,.slice pi ni ci,.int .i64 c.kind,.slice pf nf cf,.slice pm nm cm]) hb1
     obtain ⟨q1_0,q1_1,q1_2,q1_3,q1_4,q1_5⟩ := z6 hx1.1
     have hB := hx1.2.2
     have hlt1 := hx1.2.1
     go_wp2_with fail
     go_ret
     exact ⟨D.ret_bool HF.out.symm,hB⟩
    | true =>
     cases h4 : decide (c.kind <= 4) with
     | false =>
      have HF : Hid (clsB c = false) := hid (by unfold clsB; simp [h4])
      go_enter Tryz.func48,Tryz.ntmps48
      go_wp2_with fail
      refine (name_any c.name _ (max_of z1)).mono ?_
      rintro e w' ⟨rfl,rfl⟩
      go_wp2_with fail
      refine (name_any c.super _ (max_of z2)).mono ?_
      rintro e w' ⟨rfl,rfl⟩
      go_wp2_with fail
      refine (HIh.out _ hA).mono ?_
      rintro e w1 ⟨rfl,hb1⟩
      have hx1 := boxed (vs := [.string c.name,.string c.super,.slice pi ni ci,.int .i64 c.kind,.slice pf nf cf,.slice pm nm cm]) hb1
      obtain ⟨q1_0,q1_1,q1_2,q1_3,q1_4,q1_5⟩ := z6 hx1.1
      have hB := hx1.2.2
      have hlt1 := hx1.2.1
      go_wp2_with fail
      go_ret
      exact ⟨D.ret_bool HF.out.symm,hB⟩
     | true =>
      cases h5 : allB 100 fldB c.fields with
      | false =>
       have HF : Hid (clsB c = false) := hid (by unfold clsB; simp [h5])
       go_enter Tryz.func48,Tryz.ntmps48
       go_wp2_with fail
       refine (name_any c.name _ (max_of z1)).mono ?_
       rintro e w' ⟨rfl,rfl⟩
       go_wp2_with fail
       refine (name_any c.super _ (max_of z2)).mono ?_
       rintro e w' ⟨rfl,rfl⟩
       go_wp2_with fail
       refine (HIh.out _ hA).mono ?_
       rintro e w1 ⟨rfl,hb1⟩
       have hx1 := boxed (vs := [.string c.name,.string c.super,.slice pi ni ci,.int .i64 c.kind,.slice pf nf cf,.slice pm nm cm]) hb1
       obtain ⟨q1_0,q1_1,q1_2,q1_3,q1_4,q1_5⟩ := z6 hx1.1
       have hB := hx1.2.2
       have hlt1 := hx1.2.1
       go_wp2_with fail
       refine (HFh.out _ hB).mono ?_
       rintro e w2 ⟨rfl,hb2⟩
       have hx2 := boxed_next hx1 hb2 hx1.2.2.size
       obtain ⟨q2_0,q2_1,q2_2,q2_3,q2_4,q2_5⟩ := z6 hx2.1
       have hB := hx2.2.2
       have hlt2 := hx2.2.1
       go_wp2_with fail
       go_ret
       exact ⟨D.ret_bool HF.out.symm,hB⟩
      | true =>
       cases h6 : allB 100 mthB c.methods with
       | false =>
        have HF : Hid (clsB c = false) := hid (by unfold clsB; simp [h6])
        go_enter Tryz.func48,Tryz.ntmps48
        go_wp2_with fail
        refine (name_any c.name _ (max_of z1)).mono ?_
        rintro e w' ⟨rfl,rfl⟩
        go_wp2_with fail
        refine (name_any c.super _ (max_of z2)).mono ?_
        rintro e w' ⟨rfl,rfl⟩
        go_wp2_with fail
        refine (HIh.out _ hA).mono ?_
        rintro e w1 ⟨rfl,hb1⟩
        have hx1 := boxed (vs := [.string c.name,.string c.super,.slice pi ni ci,.int .i64 c.kind,.slice pf nf cf,.slice pm nm cm]) hb1
        obtain ⟨q1_0,q1_1,q1_2,q1_3,q1_4,q1_5⟩ := z6 hx1.1
        have hB := hx1.2.2
        have hlt1 := hx1.2.1
        go_wp2_with fail
        refine (HFh.out _ hB).mono ?_
        rintro e w2 ⟨rfl,hb2⟩
        have hx2 := boxed_next hx1 hb2 hx1.2.2.size
        obtain ⟨q2_0,q2_1,q2_2,q2_3,q2_4,q2_5⟩ := z6 hx2.1
        have hB := hx2.2.2
        have hlt2 := hx2.2.1
        go_wp2_with fail
        refine (HMh.out _ hB).mono ?_
        rintro e w3 ⟨rfl,hb3⟩
        have hx3 := boxed_next hx2 hb3 hx2.2.2.size
        obtain ⟨q3_0,q3_1,q3_2,q3_3,q3_4,q3_5⟩ := z6 hx3.1
        have hB := hx3.2.2
        have hlt3 := hx3.2.1
        go_wp2_with fail
        go_ret
        exact ⟨D.ret_bool HF.out.symm,hB⟩
       | true =>
        have HF : Hid (clsB c = true) := hid (by unfold clsB; simp [h0,h1,h2,h3,h4,h5,h6])
        go_enter Tryz.func48,Tryz.ntmps48
        go_wp2_with fail
        refine (name_any c.name _ (max_of z1)).mono ?_
        rintro e w' ⟨rfl,rfl⟩
        go_wp2_with fail
        refine (name_any c.super _ (max_of z2)).mono ?_
        rintro e w' ⟨rfl,rfl⟩
        go_wp2_with fail
        refine (HIh.out _ hA).mono ?_
        rintro e w1 ⟨rfl,hb1⟩
        have hx1 := boxed (vs := [.string c.name,.string c.super,.slice pi ni ci,.int .i64 c.kind,.slice pf nf cf,.slice pm nm cm]) hb1
        obtain ⟨q1_0,q1_1,q1_2,q1_3,q1_4,q1_5⟩ := z6 hx1.1
        have hB := hx1.2.2
        have hlt1 := hx1.2.1
        go_wp2_with fail
        refine (HFh.out _ hB).mono ?_
        rintro e w2 ⟨rfl,hb2⟩
        have hx2 := boxed_next hx1 hb2 hx1.2.2.size
        obtain ⟨q2_0,q2_1,q2_2,q2_3,q2_4,q2_5⟩ := z6 hx2.1
        have hB := hx2.2.2
        have hlt2 := hx2.2.1
        go_wp2_with fail
        refine (HMh.out _ hB).mono ?_
        rintro e w3 ⟨rfl,hb3⟩
        have hx3 := boxed_next hx2 hb3 hx2.2.2.size
        obtain ⟨q3_0,q3_1,q3_2,q3_3,q3_4,q3_5⟩ := z6 hx3.1
        have hB := hx3.2.2
        have hlt3 := hx3.2.1
        go_wp2_with fail
        go_ret
        exact ⟨D.ret_bool HF.out.symm,hB⟩
theorem class_hf (cs : List Cls) (hs : ∀ c ∈ cs,szC c) (ok : Nat -> Prop) (w : World) (hg : Glob w) : ∀ x ∈ cs,∀ vs w',cP ok w' vs x -> Below w.heap.size w w' -> Calls Tryz.prog 48 #[.agg vs.toArray] w' fun e w'' => e = .returned (.bool (clsB x)) /\ Below w'.heap.size w' w'' := by
 intro x hx vs w' hv hb
 obtain ⟨vp,vc,vh,rfl,h1,h2,h3⟩ := hv
 obtain ⟨pp,cp,rfl,-⟩ := h1.len
 obtain ⟨pc,cc,rfl,-⟩ := h2.len
 obtain ⟨ph,ch,rfl,-⟩ := h3.len
 exact formedClass_any x ok _ _ _ _ _ _ _ _ _ w' (hs x hx) (hg.below hb (Nat.le_refl _)) h1 h2 h3
theorem formed_any (a : Arch) (ok : Nat -> Prop) (p : Option Addr) (n cap : Nat) (w : World) (hz : szA a) (hg : Glob w) (hr : RdA ok w (.slice p n cap) a) :
  Calls Tryz.prog 39 #[.agg #[.slice p n cap]] w fun e w' => e = .returned (.bool (formedB a)) /\ Below w.heap.size w w' := by
 have hA : Below w.heap.size w (w.alloc (.cells #[.slice p n cap] 50)) := (Below.refl _ w).alloc (Nat.le_refl _) _
 have hr1 := hr.any cP.grow hA
 have hg1 := hg.below hA (Nat.le_refl _)
 have HR := hid hr1
 clear hr hr1
 go_enter Tryz.func39,Tryz.ntmps39
 go_wp2_with fail
 refine (all_cls clsB 400 ok _ _ _ HR.out (by decide) (class_hf _ hz ok _ hg1)).mono ?_
 rintro e w1 ⟨rfl,hb1⟩
 have hx1 := boxed (vs := [.slice p n cap]) hb1
 go_wp2_with fail
 go_ret
 exact ⟨D.ret_bool rfl,hx1.2.2⟩
end Go.Proofs.YtofnbapnmhibaaaGreat.A
namespace Go.Proofs.YtofnbapnmhibaaaGreat.A
open Go.RowKit Go.Proofs.YtofnbapnmhibaaaGreat.D Go.Proofs.YtofnbapnmhibaaaGreat.O
theorem ret_two {a b c d : Int} (h : (a,b) = (c,d)) : Ending.returned (.tuple #[.int .i64 a,.int .i64 b]) = .returned (.tuple #[.int .i64 c,.int .i64 d]) := by cases h; rfl
theorem within_l (k n : Int) (w : World) : Calls Tryz.prog 27 #[.int .i64 k,.int .i64 n] w fun e w' => e = .returned (.bool (inB k n)) /\ w = w' := by
 go_enter Tryz.func27,Tryz.ntmps27
 go_wp2
 all_goals go_ret
 all_goals refine ⟨D.ret_bool ?_,rfl⟩
 all_goals (rw [Bool.eq_iff_iff]; simp [inB]; try omega)
theorem args_any (nm r1 : ByteArray) (r0 lo : Int) (st ab : Bool) (pp pc ph : Option Addr) (np cp nc cc nh ch : Nat) (w : World) (hn : np <= 1000000) : Calls Tryz.prog 9 #[.agg #[.string nm,.slice pp np cp,.int .i64 r0,.string r1,.bool st,.bool ab,.int .i64 lo,.slice pc nc cc,.slice ph nh ch]] w fun e w' => e = .returned (.int .i64 (if st then (np : Int) else 1 + (np : Int))) /\ Below w.heap.size w w' := by
 cases st
 all_goals
  go_enter Tryz.func9,Tryz.ntmps9
  go_wp2_with fail
  go_ret
  exact ⟨rfl,(Below.refl _ _).alloc (Nat.le_refl _) _⟩
theorem runs_any (nm r1 : ByteArray) (r0 lo : Int) (st ab : Bool) (pp pc ph : Option Addr) (np cp nc cc nh ch : Nat) (w : World) : Calls Tryz.prog 12 #[.agg #[.string nm,.slice pp np cp,.int .i64 r0,.string r1,.bool st,.bool ab,.int .i64 lo,.slice pc nc cc,.slice ph nh ch]] w fun e w' => e = .returned (.bool (decide (0 < nc ∨ 0 < nh ∨ lo ≠ 0))) /\ Below w.heap.size w w' := by
 go_enter Tryz.func12,Tryz.ntmps12
 go_wp2
 all_goals go_ret
 all_goals refine ⟨D.ret_bool ?_,(Below.refl _ _).alloc (Nat.le_refl _) _⟩
 all_goals (rw [Bool.eq_iff_iff]; simp <;> omega)
theorem stands_any (f t a n : Int) (c : ByteArray) (w : World) : Calls Tryz.prog 14 #[.agg #[.int .i64 f,.int .i64 t,.int .i64 a,.string c],.int .i64 n] w fun e w' => e = .returned (.bool (standsB n (f,t,a,c))) /\ Below w.heap.size w w' := by
 by_cases h0 : 0 <= f
 ·by_cases h1 : f < t
  ·by_cases h2 : t <= n
   ·go_enter Tryz.func14,Tryz.ntmps14
    go_wp2_with fail
    refine (within_l a n _).mono ?_
    rintro e w1 ⟨rfl,rfl⟩
    go_wp2_with fail
    go_ret
    exact ⟨D.ret_bool (by unfold standsB; simp [h0,h1,h2]),(Below.refl _ _).alloc (Nat.le_refl _) _⟩
   ·go_enter Tryz.func14,Tryz.ntmps14
    go_wp2_with fail
    go_ret
    exact ⟨D.ret_bool (by unfold standsB; simp; omega),(Below.refl _ _).alloc (Nat.le_refl _) _⟩
  ·go_enter Tryz.func14,Tryz.ntmps14
   go_wp2_with fail
   go_ret
   exact ⟨D.ret_bool (by unfold standsB; simp; omega),(Below.refl _ _).alloc (Nat.le_refl _) _⟩
 ·go_enter Tryz.func14,Tryz.ntmps14
  go_wp2_with fail
  go_ret
  exact ⟨D.ret_bool (by unfold standsB; simp; omega),(Below.refl _ _).alloc (Nat.le_refl _) _⟩
theorem finds_any (nm r1 : ByteArray) (r0 lo : Int) (st ab : Bool) (pp pc ph : Option Addr) (np cp nc cc nh ch : Nat) (o n k : Int) (s c d g : ByteArray) (w : World) : Calls Tryz.prog 25 #[.agg #[.string nm,.slice pp np cp,.int .i64 r0,.string r1,.bool st,.bool ab,.int .i64 lo,.slice pc nc cc,.slice ph nh ch],.agg #[.int .i64 o,.int .i32 n,.int .i64 k,.string s,.string c,.string d,.string g]] w fun e w' => e = .returned (.bool (findsB lo nc (o,n,k,s,c,d,g))) /\ Below w.heap.size w w' := by
 have HB : Hid (∀ w : World,∀ x y,Below w.heap.size w ((w.alloc x).alloc y)) := hid (fun w x y => ((Below.refl _ _).alloc (Nat.le_refl _) _).alloc (by simp) _)
 by_cases h4 : o = 4
 ·subst h4
  go_enter Tryz.func25,Tryz.ntmps25
  go_wp2_with fail
  refine (within_l k lo _).mono ?_
  rintro e w1 ⟨rfl,rfl⟩
  go_wp2_with fail
  go_ret
  exact ⟨D.ret_bool (by unfold findsB; simp),HB.out _ _ _⟩
 ·by_cases h5 : o = 5
  ·subst h5
   go_enter Tryz.func25,Tryz.ntmps25
   go_wp2_with fail
   refine (within_l k lo _).mono ?_
   rintro e w1 ⟨rfl,rfl⟩
   go_wp2_with fail
   go_ret
   exact ⟨D.ret_bool (by unfold findsB; simp),HB.out _ _ _⟩
  ·cases hj : jumpsB o with
   | true =>
    have HF : Hid (findsB lo nc (o,n,k,s,c,d,g) = inB k nc) := hid (by unfold findsB; simp [h4,h5,hj])
    go_enter Tryz.func25,Tryz.ntmps25
    go_wp2_with fail
    refine (O.jumps_any o _).mono ?_
    rintro e w1 ⟨rfl,rfl⟩
    rw [hj]
    go_wp2_with fail
    refine (within_l k nc _).mono ?_
    rintro e w1 ⟨rfl,rfl⟩
    go_wp2_with fail
    go_ret
    exact ⟨D.ret_bool HF.out.symm,HB.out _ _ _⟩
   | false =>
    have HF : Hid (findsB lo nc (o,n,k,s,c,d,g) = true) := hid (by unfold findsB; simp [h4,h5,hj])
    go_enter Tryz.func25,Tryz.ntmps25
    go_wp2_with fail
    refine (O.jumps_any o _).mono ?_
    rintro e w1 ⟨rfl,rfl⟩
    rw [hj]
    go_wp2_with fail
    go_ret
    exact ⟨D.ret_bool HF.out.symm,HB.out _ _ _⟩
theorem code_any (nm r1 : ByteArray) (r0 lo : Int) (st ab : Bool) (pp pc ph : Option Addr) (np cp nc cc nh ch : Nat) (c : List Ins) (ok : Nat -> Prop) (w : World) (hr : RdX 7 (sP insC) ok w (.slice pc nc cc) c) (hn : ¬ c = []) (hl : c.length <= 1000000) :
  Calls Tryz.prog 13 #[.agg #[.string nm,.slice pp np cp,.int .i64 r0,.string r1,.bool st,.bool ab,.int .i64 lo,.slice pc nc cc,.slice ph nh ch]] w fun e w' => e = .returned (.tuple #[.int .i64 (codeA lo c).1,.int .i64 (codeA lo c).2]) /\ Below w.heap.size w w' := by
 obtain ⟨b,off,rfl,hnc,-,hok,hlt,hc⟩ := hr.place hn
 have HC := hid hc
 obtain ⟨n,rfl⟩ : ∃ n,nc = n + 1 := ⟨nc - 1,by have := List.length_pos_iff.2 hn; omega⟩
 have hm2 : n <= 1000000 := by omega
 have HN := hid hnc
 clear hc hr hnc hn hl
 go_enter Tryz.func13,Tryz.ntmps13
 go_wp2_with fail
 go_loopw [10] (fun i wr => ∃ k : Nat,k <= n + 1 /\ i = .int .i64 k /\ Hid (∀ j x,j < k -> c[j]? = some x -> findsB lo c.length x = true) /\ Hid (Below (w.alloc (.cells #[.string nm,.slice pp np cp,.int .i64 r0,.string r1,.bool st,.bool ab,.int .i64 lo,.slice (some ⟨b,off,none⟩) (n + 1) cc,.slice ph nh ch] 29)).heap.size (w.alloc (.cells #[.string nm,.slice pp np cp,.int .i64 r0,.string r1,.bool st,.bool ab,.int .i64 lo,.slice (some ⟨b,off,none⟩) (n + 1) cc,.slice ph nh ch] 29)) wr)) (fun i _ => n + 1 - (intOf i).toNat)
 case atStart => exact ⟨0,Nat.zero_le _,rfl,hid (fun j x h => absurd h (Nat.not_lt_zero _)),hid (Below.refl _ _)⟩
 case round =>
  obtain ⟨k,hk,rfl,HR,HBX⟩ := hrel
  have hxb := boxed (vs := [.string nm,.slice pp np cp,.int .i64 r0,.string r1,.bool st,.bool ab,.int .i64 lo,.slice (some ⟨b,off,none⟩) (n + 1) cc,.slice ph nh ch]) HBX.out
  obtain ⟨q0,q1,q2,q3,q4,q5,q6,q7,q8⟩ := z9 hxb.1
  have hbl := hxb.2.2
  have hxlt := hxb.2.1
  have hsz := hbl.size
  clear hxb
  by_cases hlt2 : k < n + 1
  ·obtain ⟨x,hx⟩ : ∃ x,c[k]? = some x := ⟨_,List.getElem?_eq_getElem (by have := HN.out; omega)⟩
   have hcl := (sP_at (HC.out k x hx)).below hbl hlt
   obtain ⟨s0,s1,s2,s3,s4,s5,s6⟩ := x
   obtain ⟨hc0,hc1,hc2,hc3,hc4,hc5,hc6⟩ := CellsAt.seven hcl
   have HX := hid hx
   clear hx hcl
   go_wp2_with fail
   refine (finds_any _ _ _ _ _ _ _ _ _ _ _ _ _ _ _ _ _ _ _ _ _ _ _).mono ?_
   rintro e w1 ⟨rfl,hb1⟩
   have hb1' : Hid (Below _ _ w1) := hid (HBX.out.trans ((Below.refl _ _).alloc (Nat.le_refl _) _ |>.trans (hb1.mono (by simp)) |>.mono HBX.out.size))
   have hcn : c.length = n + 1 := HN.out.symm
   cases hfx : findsB lo ((n + 1 : Nat) : Int) (s0,s1,s2,s3,s4,s5,s6) with
   | false =>
    have HF : Hid (codeA lo c = ((k : Int),28)) := hid (by unfold codeA; rw [badAt_some (fun j x hj hx => HR.out j x hj hx) HX.out (by rw [hcn]; exact hfx)])
    have hB := (boxed (vs := [.string nm,.slice pp np cp,.int .i64 r0,.string r1,.bool st,.bool ab,.int .i64 lo,.slice (some ⟨b,off,none⟩) (n + 1) cc,.slice ph nh ch]) hb1'.out).2.2
    clear hcn
    go_wp2_with fail
    refine bodyPost_ret (v := .tuple #[.int .i64 (k : Int),.int .i64 28]) (by simp [*,results,Tryz.results13,go_sem]) rfl ⟨ret_two HF.out.symm,hB⟩
   | true =>
    have HS : Hid (∀ j x,j < k + 1 -> c[j]? = some x -> findsB lo c.length x = true) := hid (by
     intro j y hj hy
     by_cases ej : j = k
     ·subst ej
      rw [HX.out] at hy
      cases hy
      rw [hcn]
      exact hfx
     ·exact HR.out j y (by omega) hy)
    clear hcn
    go_wp2_with fail
    go_roundw
    case rel => exact ⟨k + 1,by omega,by go_num,HS,hb1'⟩
    case measure => simp [intOf]; omega
  ·obtain rfl : k = n + 1 := by omega
   obtain ⟨x,hx⟩ : ∃ x,c[n]? = some x := ⟨_,List.getElem?_eq_getElem (by have := HN.out; omega)⟩
   have HD : Hid (codeA lo c = if endsB x.1 then (0,0) else (((n + 1 : Nat) : Int) - 1,31)) := hid (by
    have hL : lastB c = endsB x.1 := by unfold lastB; rw [<- HN.out,Nat.add_sub_cancel,hx]
    unfold codeA
    rw [badAt_none (fun j x hx => HR.out j x (by have := (List.getElem?_eq_some_iff.1 hx).1; have := HN.out; omega) hx),hL,<- HN.out])
   have hcl := (sP_at (HC.out n x hx)).below hbl hlt
   obtain ⟨s0,s1,s2,s3,s4,s5,s6⟩ := x
   obtain ⟨hc0,hc1,hc2,hc3,hc4,hc5,hc6⟩ := CellsAt.seven hcl
   clear hx hcl HR hlt2 hk
   go_wp2_with fail
   refine (O.ends_any s0 _).mono ?_
   rintro e w1 ⟨rfl,rfl⟩
   cases he : endsB s0 with
   | true =>
    have HF : Hid (codeA lo c = (0,0)) := hid (by rw [HD.out]; show (if endsB s0 = true then _ else _) = _; rw [if_pos he])
    go_wp2_with fail
    refine bodyPost_ret (v := .tuple #[.int .i64 0,.int .i64 0]) (by simp [*,results,Tryz.results13,go_sem]) rfl ⟨ret_two HF.out.symm,hbl⟩
   | false =>
    have HF : Hid (codeA lo c = ((n : Int),31)) := hid (by rw [HD.out]; show (if endsB s0 = true then _ else _) = _; rw [if_neg (by rw [he]; decide)]; simp)
    go_wp2_with fail
    refine bodyPost_ret (v := .tuple #[.int .i64 (n : Int),.int .i64 31]) (by simp [*,results,Tryz.results13,go_sem]) rfl ⟨ret_two HF.out.symm,hbl⟩
end Go.Proofs.YtofnbapnmhibaaaGreat.A
