/- Texts that the proof is made of, joined. No condition. -/
import Derived.Test.YtijnimjmimeefaaGreatSC3
import Derived.Deep.RegionLaw
import Derived.IntWalk
import Derived.Test.YtijnimjmimeefaaGreatSCH
set_option linter.unusedVariables false
set_option linter.unusedSimpArgs false
set_option maxRecDepth 100000
set_option maxHeartbeats 16000000
namespace Go.Proofs.YtijnimjmimeefaaGreat.A
open Go.RowKit Go.Proofs.YtijnimjmimeefaaGreat.D Go.Proofs.YtijnimjmimeefaaGreat.O
def szI (x : Ins) : Prop := x.2.2.2.1.size <= 100000 /\ x.2.2.2.2.1.size <= 100000 /\ x.2.2.2.2.2.1.size <= 100000 /\ x.2.2.2.2.2.2.size <= 100000
def szM (m : Mth) : Prop := m.name.size <= 100000 /\ (∀ t ∈ m.params, t.2.size <= 100000) /\ m.ret.2.size <= 100000 /\ (∀ x ∈ m.code, szI x) /\ ∀ h ∈ m.hs, h.2.2.2.size <= 100000
def szC (c : Cls) : Prop := c.name.size <= 100000 /\ c.super.size <= 100000 /\ (∀ s ∈ c.ifaces, s.size <= 100000) /\ (∀ f ∈ c.fields, f.1.size <= 100000 /\ f.2.1.2.size <= 100000) /\ ∀ m ∈ c.methods, szM m
def szA (a : Arch) : Prop := ∀ c ∈ a, szC c
theorem max_of {n : Nat} (h : n <= 100000) : n <= maxLen := by unfold maxLen; omega
theorem name_hf (s : ByteArray) (w : World) (hs : s.size <= 100000) : Calls Tryz.prog 154 #[.string s] w fun e w' => e = .returned (.bool (nameB s)) /\ Below w.heap.size w w' :=
 (name_any s w (max_of hs)).mono fun _ _ ⟨he, hw⟩ => ⟨he, hw ▸ Below.refl _ _⟩
theorem boxed {w w1 : World} {vs : List Value} {T : TypeId} (hb : Below (w.alloc (.cells vs.toArray T)).heap.size (w.alloc (.cells vs.toArray T)) w1) :
  CellsAt w1 w.heap.size 0 vs /\ w.heap.size < w1.heap.size /\ Below w.heap.size w w1 := by
 have hs := hb.size
 simp at hs
 refine ⟨fun j u hu => ?_, by omega, ((Below.refl _ w).alloc (Nat.le_refl _) _).trans (hb.mono (by simp))⟩
 rw [hb.cell (p := ⟨w.heap.size, 0 + j, none⟩) (by simp), Nat.zero_add]
 simp [hu]
theorem boxed_next {w w1 w2 : World} {b : Nat} {vs : List Value} (h : CellsAt w1 b 0 vs /\ b < w1.heap.size /\ Below w.heap.size w w1) (hb : Below w1.heap.size w1 w2) (hw : w.heap.size <= w1.heap.size) :
  CellsAt w2 b 0 vs /\ b < w2.heap.size /\ Below w.heap.size w w2 := ⟨h.1.below hb h.2.1, Nat.lt_of_lt_of_le h.2.1 hb.size, h.2.2.trans (hb.mono hw)⟩
theorem z2 {w : World} {b : Nat} {v0 v1 : Value} (h : CellsAt w b 0 [v0, v1]) : w.cell? ⟨b, 0, none⟩ = some v0 /\ w.cell? ⟨b, 1, none⟩ = some v1 := h.two
theorem z4 {w : World} {b : Nat} {v0 v1 v2 v3 : Value} (h : CellsAt w b 0 [v0, v1, v2, v3]) : w.cell? ⟨b, 0, none⟩ = some v0 /\ w.cell? ⟨b, 1, none⟩ = some v1 /\ w.cell? ⟨b, 2, none⟩ = some v2 /\ w.cell? ⟨b, 3, none⟩ = some v3 := h.four
theorem z6 {w : World} {b : Nat} {v0 v1 v2 v3 v4 v5 : Value} (h : CellsAt w b 0 [v0, v1, v2, v3, v4, v5]) : w.cell? ⟨b, 0, none⟩ = some v0 /\ w.cell? ⟨b, 1, none⟩ = some v1 /\ w.cell? ⟨b, 2, none⟩ = some v2 /\ w.cell? ⟨b, 3, none⟩ = some v3 /\ w.cell? ⟨b, 4, none⟩ = some v4 /\ w.cell? ⟨b, 5, none⟩ = some v5 := h.six
theorem z9 {w : World} {b : Nat} {v0 v1 v2 v3 v4 v5 v6 v7 v8 : Value} (h : CellsAt w b 0 [v0, v1, v2, v3, v4, v5, v6, v7, v8]) : w.cell? ⟨b, 0, none⟩ = some v0 /\ w.cell? ⟨b, 1, none⟩ = some v1 /\ w.cell? ⟨b, 2, none⟩ = some v2 /\ w.cell? ⟨b, 3, none⟩ = some v3 /\ w.cell? ⟨b, 4, none⟩ = some v4 /\ w.cell? ⟨b, 5, none⟩ = some v5 /\ w.cell? ⟨b, 6, none⟩ = some v6 /\ w.cell? ⟨b, 7, none⟩ = some v7 /\ w.cell? ⟨b, 8, none⟩ = some v8 := h.nine
theorem upTo_any (n m : Int) (w : World) : Calls Tryz.prog 191 #[.int .i64 n, .int .i64 m] w fun e w' => e = .returned (.bool (upToB n m)) /\ w = w' := by
 go_enter Tryz.func191, Tryz.ntmps191
 go_wp2
 all_goals go_ret
 all_goals refine ⟨D.ret_bool ?_, rfl⟩
 all_goals (rw [Bool.eq_iff_iff]; simp [upToB]; try omega)
theorem holds_any (k : Int) (c : ByteArray) (w : World) (hc : c.size <= 100000) :
  Calls Tryz.prog 188 #[.agg #[.int .i64 k, .string c]] w fun e w' => e = .returned (.bool (holdsB (k, c))) /\ Below w.heap.size w w' := by
 cases h0 : rightB k c with
 | false =>
  have HF : Hid (holdsB (k, c) = false) := hid (by show (rightB k c && (k != 5)) = _; simp [h0])
  go_enter Tryz.func188, Tryz.ntmps188
  go_wp2_with fail
  refine (D.right_any k c _ (by omega)).mono ?_
  rintro e w1 ⟨rfl, hb1⟩
  have hx1 := boxed (vs := [.int .i64 k, .string c]) hb1
  obtain ⟨q1_0, q1_1⟩ := z2 hx1.1
  have hB := hx1.2.2
  have hlt1 := hx1.2.1
  go_wp2_with fail
  go_ret
  exact ⟨D.ret_bool HF.out.symm, hB⟩
 | true =>
  cases h1 : k != 5 with
  | false =>
   have HF : Hid (holdsB (k, c) = false) := hid (by show (rightB k c && (k != 5)) = _; simp [h1])
   go_enter Tryz.func188, Tryz.ntmps188
   go_wp2_with fail
   refine (D.right_any k c _ (by omega)).mono ?_
   rintro e w1 ⟨rfl, hb1⟩
   have hx1 := boxed (vs := [.int .i64 k, .string c]) hb1
   obtain ⟨q1_0, q1_1⟩ := z2 hx1.1
   have hB := hx1.2.2
   have hlt1 := hx1.2.1
   go_wp2_with fail
   go_ret
   exact ⟨D.ret_bool HF.out.symm, hB⟩
  | true =>
   have HF : Hid (holdsB (k, c) = true) := hid (by show (rightB k c && (k != 5)) = _; simp [h0, h1])
   go_enter Tryz.func188, Tryz.ntmps188
   go_wp2_with fail
   refine (D.right_any k c _ (by omega)).mono ?_
   rintro e w1 ⟨rfl, hb1⟩
   have hx1 := boxed (vs := [.int .i64 k, .string c]) hb1
   obtain ⟨q1_0, q1_1⟩ := z2 hx1.1
   have hB := hx1.2.2
   have hlt1 := hx1.2.1
   go_wp2_with fail
   go_ret
   exact ⟨D.ret_bool HF.out.symm, hB⟩
theorem formedField_any (n : ByteArray) (k : Int) (c : ByteArray) (s : Bool) (w : World) (hn : n.size <= 100000) (hc : c.size <= 100000) :
  Calls Tryz.prog 157 #[.agg #[.string n, .int .i64 k, .string c, .bool s]] w fun e w' => e = .returned (.bool (fldB (n, (k, c), s))) /\ Below w.heap.size w w' := by
 cases h0 : nameB n with
 | false =>
  have HF : Hid (fldB (n, (k, c), s) = false) := hid (by unfold fldB; simp [h0])
  go_enter Tryz.func157, Tryz.ntmps157
  go_wp2_with fail
  refine (name_any n _ (max_of hn)).mono ?_
  rintro e w' ⟨rfl, rfl⟩
  go_wp2_with fail
  go_ret
  exact ⟨D.ret_bool HF.out.symm, (Below.refl _ _).alloc (Nat.le_refl _) _⟩
 | true =>
  cases h1 : holdsB (k, c) with
  | false =>
   have HF : Hid (fldB (n, (k, c), s) = false) := hid (by unfold fldB; simp [h1])
   go_enter Tryz.func157, Tryz.ntmps157
   go_wp2_with fail
   refine (name_any n _ (max_of hn)).mono ?_
   rintro e w' ⟨rfl, rfl⟩
   go_wp2_with fail
   refine (holds_any k c _ hc).mono ?_
   rintro e w1 ⟨rfl, hb1⟩
   have hx1 := boxed (vs := [.string n, .int .i64 k, .string c, .bool s]) hb1
   obtain ⟨q1_0, q1_1, q1_2, q1_3⟩ := z4 hx1.1
   have hB := hx1.2.2
   have hlt1 := hx1.2.1
   go_wp2_with fail
   go_ret
   exact ⟨D.ret_bool HF.out.symm, hB⟩
  | true =>
   have HF : Hid (fldB (n, (k, c), s) = true) := hid (by unfold fldB; simp [h0, h1])
   go_enter Tryz.func157, Tryz.ntmps157
   go_wp2_with fail
   refine (name_any n _ (max_of hn)).mono ?_
   rintro e w' ⟨rfl, rfl⟩
   go_wp2_with fail
   refine (holds_any k c _ hc).mono ?_
   rintro e w1 ⟨rfl, hb1⟩
   have hx1 := boxed (vs := [.string n, .int .i64 k, .string c, .bool s]) hb1
   obtain ⟨q1_0, q1_1, q1_2, q1_3⟩ := z4 hx1.1
   have hB := hx1.2.2
   have hlt1 := hx1.2.1
   go_wp2_with fail
   go_ret
   exact ⟨D.ret_bool HF.out.symm, hB⟩
theorem formedHandler_any (f t a : Int) (c : ByteArray) (w : World) (hc : c.size <= 100000) :
  Calls Tryz.prog 195 #[.agg #[.int .i64 f, .int .i64 t, .int .i64 a, .string c]] w fun e w' => e = .returned (.bool (hndB (f, t, a, c))) /\ Below w.heap.size w w' := by
 cases h0 : upToB f 2000 with
 | false =>
  have HF : Hid (hndB (f, t, a, c) = false) := hid (by unfold hndB; simp [h0])
  go_enter Tryz.func195, Tryz.ntmps195
  go_wp2_with fail
  refine (upTo_any f 2000 _).mono ?_
  rintro e w' ⟨rfl, rfl⟩
  go_wp2_with fail
  go_ret
  exact ⟨D.ret_bool HF.out.symm, (Below.refl _ _).alloc (Nat.le_refl _) _⟩
 | true =>
  cases h1 : upToB t 2000 with
  | false =>
   have HF : Hid (hndB (f, t, a, c) = false) := hid (by unfold hndB; simp [h1])
   go_enter Tryz.func195, Tryz.ntmps195
   go_wp2_with fail
   refine (upTo_any f 2000 _).mono ?_
   rintro e w' ⟨rfl, rfl⟩
   go_wp2_with fail
   refine (upTo_any t 2000 _).mono ?_
   rintro e w' ⟨rfl, rfl⟩
   go_wp2_with fail
   go_ret
   exact ⟨D.ret_bool HF.out.symm, (Below.refl _ _).alloc (Nat.le_refl _) _⟩
  | true =>
   cases h2 : upToB a 2000 with
   | false =>
    have HF : Hid (hndB (f, t, a, c) = false) := hid (by unfold hndB; simp [h2])
    go_enter Tryz.func195, Tryz.ntmps195
    go_wp2_with fail
    refine (upTo_any f 2000 _).mono ?_
    rintro e w' ⟨rfl, rfl⟩
    go_wp2_with fail
    refine (upTo_any t 2000 _).mono ?_
    rintro e w' ⟨rfl, rfl⟩
    go_wp2_with fail
    refine (upTo_any a 2000 _).mono ?_
    rintro e w' ⟨rfl, rfl⟩
    go_wp2_with fail
    go_ret
    exact ⟨D.ret_bool HF.out.symm, (Below.refl _ _).alloc (Nat.le_refl _) _⟩
   | true =>
    cases h3 : nameB c with
    | false =>
     have HF : Hid (hndB (f, t, a, c) = false) := hid (by unfold hndB; simp [h3])
     go_enter Tryz.func195, Tryz.ntmps195
     go_wp2_with fail
     refine (upTo_any f 2000 _).mono ?_
     rintro e w' ⟨rfl, rfl⟩
     go_wp2_with fail
     refine (upTo_any t 2000 _).mono ?_
     rintro e w' ⟨rfl, rfl⟩
     go_wp2_with fail
     refine (upTo_any a 2000 _).mono ?_
     rintro e w' ⟨rfl, rfl⟩
     go_wp2_with fail
     refine (name_any c _ (max_of hc)).mono ?_
     rintro e w' ⟨rfl, rfl⟩
     go_wp2_with fail
     go_ret
     exact ⟨D.ret_bool HF.out.symm, (Below.refl _ _).alloc (Nat.le_refl _) _⟩
    | true =>
     have HF : Hid (hndB (f, t, a, c) = true) := hid (by unfold hndB; simp [h0, h1, h2, h3])
     go_enter Tryz.func195, Tryz.ntmps195
     go_wp2_with fail
     refine (upTo_any f 2000 _).mono ?_
     rintro e w' ⟨rfl, rfl⟩
     go_wp2_with fail
     refine (upTo_any t 2000 _).mono ?_
     rintro e w' ⟨rfl, rfl⟩
     go_wp2_with fail
     refine (upTo_any a 2000 _).mono ?_
     rintro e w' ⟨rfl, rfl⟩
     go_wp2_with fail
     refine (name_any c _ (max_of hc)).mono ?_
     rintro e w' ⟨rfl, rfl⟩
     go_wp2_with fail
     go_ret
     exact ⟨D.ret_bool HF.out.symm, (Below.refl _ _).alloc (Nat.le_refl _) _⟩
theorem holds_hf (ts : List Ty) (hs : ∀ t ∈ ts, t.2.size <= 100000) (ok : Nat -> Prop) (w : World) : ∀ x ∈ ts, ∀ vs w', (sP tyC) ok w' vs x -> Below w.heap.size w w' -> Calls Tryz.prog 188 #[.agg vs.toArray] w' fun e w'' => e = .returned (.bool (holdsB x)) /\ Below w'.heap.size w' w'' := by
 intro x hx vs w' hv _
 have : vs = tyC x := hv
 subst this
 exact holds_any x.1 x.2 w' (hs x hx)
theorem field_hf (ts : List Fld) (hs : ∀ f ∈ ts, f.1.size <= 100000 /\ f.2.1.2.size <= 100000) (ok : Nat -> Prop) (w : World) : ∀ x ∈ ts, ∀ vs w', (sP fldC) ok w' vs x -> Below w.heap.size w w' -> Calls Tryz.prog 157 #[.agg vs.toArray] w' fun e w'' => e = .returned (.bool (fldB x)) /\ Below w'.heap.size w' w'' := by
 intro x hx vs w' hv _
 have : vs = fldC x := hv
 subst this
 exact formedField_any x.1 x.2.1.1 x.2.1.2 x.2.2 w' (hs x hx).1 (hs x hx).2
theorem handler_hf (ts : List Hnd) (hs : ∀ h ∈ ts, h.2.2.2.size <= 100000) (ok : Nat -> Prop) (w : World) : ∀ x ∈ ts, ∀ vs w', (sP hndC) ok w' vs x -> Below w.heap.size w w' -> Calls Tryz.prog 195 #[.agg vs.toArray] w' fun e w'' => e = .returned (.bool (hndB x)) /\ Below w'.heap.size w' w'' := by
 intro x hx vs w' hv _
 have : vs = hndC x := hv
 subst this
 exact formedHandler_any x.1 x.2.1 x.2.2.1 x.2.2.2 w' (hs x hx)
theorem ins_hf (ts : List Ins) (hs : ∀ x ∈ ts, szI x) (ok : Nat -> Prop) (w : World) (hg : Glob w) : ∀ x ∈ ts, ∀ vs w', (sP insC) ok w' vs x -> Below w.heap.size w w' -> Calls Tryz.prog 193 #[.agg vs.toArray] w' fun e w'' => e = .returned (.bool (rightI x)) /\ Below w'.heap.size w' w'' := by
 intro x hx vs w' hv hb
 have : vs = insC x := hv
 subst this
 obtain ⟨h1, h2, h3, h4⟩ := hs x hx
 exact O.right_any x.1 x.2.1 x.2.2.1 x.2.2.2.1 x.2.2.2.2.1 x.2.2.2.2.2.1 x.2.2.2.2.2.2 w' (hg.below hb (Nat.le_refl _)) (max_of h2) (max_of h3) (by omega)
theorem formedMethod_any (m : Mth) (ok : Nat -> Prop) (pp pc ph : Option Addr) (np nc nh cp cc ch : Nat) (w : World) (hz : szM m) (hg : Glob w) (hp : RdX 2 (sP tyC) ok w (.slice pp np cp) m.params) (hc : RdX 7 (sP insC) ok w (.slice pc nc cc) m.code) (hh : RdX 4 (sP hndC) ok w (.slice ph nh ch) m.hs) :
  Calls Tryz.prog 159 #[.agg #[.string m.name, .slice pp np cp, .int .i64 m.ret.1, .string m.ret.2, .bool m.st, .bool m.ab, .int .i64 m.locals, .slice pc nc cc, .slice ph nh ch]] w fun e w' => e = .returned (.bool (mthB m)) /\ Below w.heap.size w w' := by
 obtain ⟨z1, z2, z3, z4, z5⟩ := hz
 have HP : ∀ w', Below w.heap.size w w' -> Calls Tryz.prog 189 #[.slice pp np cp, .int .i64 8, .func (.func 188) #[] #[]] w' fun e w2 => e = .returned (.bool (allB 8 holdsB m.params)) /\ Below w'.heap.size w' w2 := fun w' hW => all_ty holdsB 8 ok _ _ w' (hp.any (sP.grow _) hW) (by decide) (holds_hf _ z2 ok w')
 have HC : ∀ w', Below w.heap.size w w' -> Calls Tryz.prog 192 #[.slice pc nc cc, .int .i64 2000, .func (.func 193) #[] #[]] w' fun e w2 => e = .returned (.bool (allB 2000 rightI m.code)) /\ Below w'.heap.size w' w2 := fun w' hW => all_ins rightI 2000 ok _ _ w' (hc.any (sP.grow _) hW) (by decide) (ins_hf _ z4 ok w' (hg.below hW (Nat.le_refl _)))
 have HH : ∀ w', Below w.heap.size w w' -> Calls Tryz.prog 194 #[.slice ph nh ch, .int .i64 50, .func (.func 195) #[] #[]] w' fun e w2 => e = .returned (.bool (allB 50 hndB m.hs)) /\ Below w'.heap.size w' w2 := fun w' hW => all_hnd hndB 50 ok _ _ w' (hh.any (sP.grow _) hW) (by decide) (handler_hf _ z5 ok w')
 have HPh := hid HP
 have HCh := hid HC
 have HHh := hid HH
 have hA : Below w.heap.size w (w.alloc (.cells #[.string m.name, .slice pp np cp, .int .i64 m.ret.1, .string m.ret.2, .bool m.st, .bool m.ab, .int .i64 m.locals, .slice pc nc cc, .slice ph nh ch] 59)) := (Below.refl _ w).alloc (Nat.le_refl _) _
 clear HP HC HH hp hc hh z2 z4 z5
 cases h0 : nameB m.name with
 | false =>
  have HF : Hid (mthB m = false) := hid (by unfold mthB; simp [h0])
  go_enter Tryz.func159, Tryz.ntmps159
  go_wp2_with fail
  refine (name_any m.name _ (max_of z1)).mono ?_
  rintro e w' ⟨rfl, rfl⟩
  go_wp2_with fail
  go_ret
  exact ⟨D.ret_bool HF.out.symm, (Below.refl _ _).alloc (Nat.le_refl _) _⟩
 | true =>
  cases h1 : allB 8 holdsB m.params with
  | false =>
   have HF : Hid (mthB m = false) := hid (by unfold mthB; simp [h1])
   go_enter Tryz.func159, Tryz.ntmps159
   go_wp2_with fail
   refine (name_any m.name _ (max_of z1)).mono ?_
   rintro e w' ⟨rfl, rfl⟩
   go_wp2_with fail
   refine (HPh.out _ hA).mono ?_
   rintro e w1 ⟨rfl, hb1⟩
   have hx1 := boxed (vs := [.string m.name, .slice pp np cp, .int .i64 m.ret.1, .string m.ret.2, .bool m.st, .bool m.ab, .int .i64 m.locals, .slice pc nc cc, .slice ph nh ch]) hb1
   obtain ⟨q1_0, q1_1, q1_2, q1_3, q1_4, q1_5, q1_6, q1_7, q1_8⟩ := z9 hx1.1
   have hB := hx1.2.2
   have hlt1 := hx1.2.1
   go_wp2_with fail
   go_ret
   exact ⟨D.ret_bool HF.out.symm, hB⟩
  | true =>
   cases h2 : rightB m.ret.1 m.ret.2 with
   | false =>
    have HF : Hid (mthB m = false) := hid (by unfold mthB; simp [h2])
    go_enter Tryz.func159, Tryz.ntmps159
    go_wp2_with fail
    refine (name_any m.name _ (max_of z1)).mono ?_
    rintro e w' ⟨rfl, rfl⟩
    go_wp2_with fail
    refine (HPh.out _ hA).mono ?_
    rintro e w1 ⟨rfl, hb1⟩
    have hx1 := boxed (vs := [.string m.name, .slice pp np cp, .int .i64 m.ret.1, .string m.ret.2, .bool m.st, .bool m.ab, .int .i64 m.locals, .slice pc nc cc, .slice ph nh ch]) hb1
    obtain ⟨q1_0, q1_1, q1_2, q1_3, q1_4, q1_5, q1_6, q1_7, q1_8⟩ := z9 hx1.1
    have hB := hx1.2.2
    have hlt1 := hx1.2.1
    go_wp2_with fail
    refine (D.right_any m.ret.1 m.ret.2 _ (by omega)).mono ?_
    rintro e w2 ⟨rfl, hb2⟩
    have hx2 := boxed_next hx1 hb2 hx1.2.2.size
    obtain ⟨q2_0, q2_1, q2_2, q2_3, q2_4, q2_5, q2_6, q2_7, q2_8⟩ := z9 hx2.1
    have hB := hx2.2.2
    have hlt2 := hx2.2.1
    go_wp2_with fail
    go_ret
    exact ⟨D.ret_bool HF.out.symm, hB⟩
   | true =>
    cases h3 : upToB m.locals 200 with
    | false =>
     have HF : Hid (mthB m = false) := hid (by unfold mthB; simp [h3])
     go_enter Tryz.func159, Tryz.ntmps159
     go_wp2_with fail
     refine (name_any m.name _ (max_of z1)).mono ?_
     rintro e w' ⟨rfl, rfl⟩
     go_wp2_with fail
     refine (HPh.out _ hA).mono ?_
     rintro e w1 ⟨rfl, hb1⟩
     have hx1 := boxed (vs := [.string m.name, .slice pp np cp, .int .i64 m.ret.1, .string m.ret.2, .bool m.st, .bool m.ab, .int .i64 m.locals, .slice pc nc cc, .slice ph nh ch]) hb1
     obtain ⟨q1_0, q1_1, q1_2, q1_3, q1_4, q1_5, q1_6, q1_7, q1_8⟩ := z9 hx1.1
     have hB := hx1.2.2
     have hlt1 := hx1.2.1
     go_wp2_with fail
     refine (D.right_any m.ret.1 m.ret.2 _ (by omega)).mono ?_
     rintro e w2 ⟨rfl, hb2⟩
     have hx2 := boxed_next hx1 hb2 hx1.2.2.size
     obtain ⟨q2_0, q2_1, q2_2, q2_3, q2_4, q2_5, q2_6, q2_7, q2_8⟩ := z9 hx2.1
     have hB := hx2.2.2
     have hlt2 := hx2.2.1
     go_wp2_with fail
     refine (upTo_any m.locals 200 _).mono ?_
     rintro e w' ⟨rfl, rfl⟩
     go_wp2_with fail
     go_ret
     exact ⟨D.ret_bool HF.out.symm, hB⟩
    | true =>
     cases h4 : allB 2000 rightI m.code with
     | false =>
      have HF : Hid (mthB m = false) := hid (by unfold mthB; simp [h4])
      go_enter Tryz.func159, Tryz.ntmps159
      go_wp2_with fail
      refine (name_any m.name _ (max_of z1)).mono ?_
      rintro e w' ⟨rfl, rfl⟩
      go_wp2_with fail
      refine (HPh.out _ hA).mono ?_
      rintro e w1 ⟨rfl, hb1⟩
      have hx1 := boxed (vs := [.string m.name, .slice pp np cp, .int .i64 m.ret.1, .string m.ret.2, .bool m.st, .bool m.ab, .int .i64 m.locals, .slice pc nc cc, .slice ph nh ch]) hb1
      obtain ⟨q1_0, q1_1, q1_2, q1_3, q1_4, q1_5, q1_6, q1_7, q1_8⟩ := z9 hx1.1
      have hB := hx1.2.2
      have hlt1 := hx1.2.1
      go_wp2_with fail
      refine (D.right_any m.ret.1 m.ret.2 _ (by omega)).mono ?_
      rintro e w2 ⟨rfl, hb2⟩
      have hx2 := boxed_next hx1 hb2 hx1.2.2.size
      obtain ⟨q2_0, q2_1, q2_2, q2_3, q2_4, q2_5, q2_6, q2_7, q2_8⟩ := z9 hx2.1
      have hB := hx2.2.2
      have hlt2 := hx2.2.1
      go_wp2_with fail
      refine (upTo_any m.locals 200 _).mono ?_
      rintro e w' ⟨rfl, rfl⟩
      go_wp2_with fail
      refine (HCh.out _ hB).mono ?_
      rintro e w3 ⟨rfl, hb3⟩
      have hx3 := boxed_next hx2 hb3 hx2.2.2.size
      obtain ⟨q3_0, q3_1, q3_2, q3_3, q3_4, q3_5, q3_6, q3_7, q3_8⟩ := z9 hx3.1
      have hB := hx3.2.2
      have hlt3 := hx3.2.1
      go_wp2_with fail
      go_ret
      exact ⟨D.ret_bool HF.out.symm, hB⟩
     | true =>
      cases h5 : allB 50 hndB m.hs with
      | false =>
       have HF : Hid (mthB m = false) := hid (by unfold mthB; simp [h5])
       go_enter Tryz.func159, Tryz.ntmps159
       go_wp2_with fail
       refine (name_any m.name _ (max_of z1)).mono ?_
       rintro e w' ⟨rfl, rfl⟩
       go_wp2_with fail
       refine (HPh.out _ hA).mono ?_
       rintro e w1 ⟨rfl, hb1⟩
       have hx1 := boxed (vs := [.string m.name, .slice pp np cp, .int .i64 m.ret.1, .string m.ret.2, .bool m.st, .bool m.ab, .int .i64 m.locals, .slice pc nc cc, .slice ph nh ch]) hb1
       obtain ⟨q1_0, q1_1, q1_2, q1_3, q1_4, q1_5, q1_6, q1_7, q1_8⟩ := z9 hx1.1
       have hB := hx1.2.2
       have hlt1 := hx1.2.1
       go_wp2_with fail
       refine (D.right_any m.ret.1 m.ret.2 _ (by omega)).mono ?_
       rintro e w2 ⟨rfl, hb2⟩
       have hx2 := boxed_next hx1 hb2 hx1.2.2.size
       obtain ⟨q2_0, q2_1, q2_2, q2_3, q2_4, q2_5, q2_6, q2_7, q2_8⟩ := z9 hx2.1
       have hB := hx2.2.2
       have hlt2 := hx2.2.1
       go_wp2_with fail
       refine (upTo_any m.locals 200 _).mono ?_
       rintro e w' ⟨rfl, rfl⟩
       go_wp2_with fail
       refine (HCh.out _ hB).mono ?_
       rintro e w3 ⟨rfl, hb3⟩
       have hx3 := boxed_next hx2 hb3 hx2.2.2.size
       obtain ⟨q3_0, q3_1, q3_2, q3_3, q3_4, q3_5, q3_6, q3_7, q3_8⟩ := z9 hx3.1
       have hB := hx3.2.2
       have hlt3 := hx3.2.1
       go_wp2_with fail
       refine (HHh.out _ hB).mono ?_
       rintro e w4 ⟨rfl, hb4⟩
       have hx4 := boxed_next hx3 hb4 hx3.2.2.size
       obtain ⟨q4_0, q4_1, q4_2, q4_3, q4_4, q4_5, q4_6, q4_7, q4_8⟩ := z9 hx4.1
       have hB := hx4.2.2
       have hlt4 := hx4.2.1
       go_wp2_with fail
       go_ret
       exact ⟨D.ret_bool HF.out.symm, hB⟩
      | true =>
       have HF : Hid (mthB m = true) := hid (by unfold mthB; simp [h0, h1, h2, h3, h4, h5])
       go_enter Tryz.func159, Tryz.ntmps159
       go_wp2_with fail
       refine (name_any m.name _ (max_of z1)).mono ?_
       rintro e w' ⟨rfl, rfl⟩
       go_wp2_with fail
       refine (HPh.out _ hA).mono ?_
       rintro e w1 ⟨rfl, hb1⟩
       have hx1 := boxed (vs := [.string m.name, .slice pp np cp, .int .i64 m.ret.1, .string m.ret.2, .bool m.st, .bool m.ab, .int .i64 m.locals, .slice pc nc cc, .slice ph nh ch]) hb1
       obtain ⟨q1_0, q1_1, q1_2, q1_3, q1_4, q1_5, q1_6, q1_7, q1_8⟩ := z9 hx1.1
       have hB := hx1.2.2
       have hlt1 := hx1.2.1
       go_wp2_with fail
       refine (D.right_any m.ret.1 m.ret.2 _ (by omega)).mono ?_
       rintro e w2 ⟨rfl, hb2⟩
       have hx2 := boxed_next hx1 hb2 hx1.2.2.size
       obtain ⟨q2_0, q2_1, q2_2, q2_3, q2_4, q2_5, q2_6, q2_7, q2_8⟩ := z9 hx2.1
       have hB := hx2.2.2
       have hlt2 := hx2.2.1
       go_wp2_with fail
       refine (upTo_any m.locals 200 _).mono ?_
       rintro e w' ⟨rfl, rfl⟩
       go_wp2_with fail
       refine (HCh.out _ hB).mono ?_
       rintro e w3 ⟨rfl, hb3⟩
       have hx3 := boxed_next hx2 hb3 hx2.2.2.size
       obtain ⟨q3_0, q3_1, q3_2, q3_3, q3_4, q3_5, q3_6, q3_7, q3_8⟩ := z9 hx3.1
       have hB := hx3.2.2
       have hlt3 := hx3.2.1
       go_wp2_with fail
       refine (HHh.out _ hB).mono ?_
       rintro e w4 ⟨rfl, hb4⟩
       have hx4 := boxed_next hx3 hb4 hx3.2.2.size
       obtain ⟨q4_0, q4_1, q4_2, q4_3, q4_4, q4_5, q4_6, q4_7, q4_8⟩ := z9 hx4.1
       have hB := hx4.2.2
       have hlt4 := hx4.2.1
       go_wp2_with fail
       go_ret
       exact ⟨D.ret_bool HF.out.symm, hB⟩
theorem method_hf (ms : List Mth) (hs : ∀ m ∈ ms, szM m) (ok : Nat -> Prop) (w : World) (hg : Glob w) : ∀ x ∈ ms, ∀ vs w', mP ok w' vs x -> Below w.heap.size w w' -> Calls Tryz.prog 159 #[.agg vs.toArray] w' fun e w'' => e = .returned (.bool (mthB x)) /\ Below w'.heap.size w' w'' := by
 intro x hx vs w' hv hb
 obtain ⟨vp, vc, vh, rfl, h1, h2, h3⟩ := hv
 obtain ⟨pp, cp, rfl, -⟩ := h1.len
 obtain ⟨pc, cc, rfl, -⟩ := h2.len
 obtain ⟨ph, ch, rfl, -⟩ := h3.len
 exact formedMethod_any x ok _ _ _ _ _ _ _ _ _ w' (hs x hx) (hg.below hb (Nat.le_refl _)) h1 h2 h3
theorem formedClass_any (c : Cls) (ok : Nat -> Prop) (pi pf pm : Option Addr) (ni nf nm ci cf cm : Nat) (w : World) (hz : szC c) (hg : Glob w) (hi : RdX 1 (sP strC) ok w (.slice pi ni ci) c.ifaces) (hf : RdX 4 (sP fldC) ok w (.slice pf nf cf) c.fields) (hm : RdX 9 mP ok w (.slice pm nm cm) c.methods) :
  Calls Tryz.prog 112 #[.agg #[.string c.name, .string c.super, .slice pi ni ci, .int .i64 c.kind, .slice pf nf cf, .slice pm nm cm]] w fun e w' => e = .returned (.bool (clsB c)) /\ Below w.heap.size w w' := by
 obtain ⟨z1, z2, z3, z4, z5⟩ := hz
 have HI : ∀ w', Below w.heap.size w w' -> Calls Tryz.prog 155 #[.slice pi ni ci, .int .i64 20, .func (.func 154) #[] #[]] w' fun e w2 => e = .returned (.bool (allB 20 nameB c.ifaces)) /\ Below w'.heap.size w' w2 := fun w' hW => all_str nameB 20 ok _ _ w' (hi.any (sP.grow _) hW) (by decide) (fun x hx w2 _ => name_hf x w2 (z3 x hx))
 have HF0 : ∀ w', Below w.heap.size w w' -> Calls Tryz.prog 156 #[.slice pf nf cf, .int .i64 100, .func (.func 157) #[] #[]] w' fun e w2 => e = .returned (.bool (allB 100 fldB c.fields)) /\ Below w'.heap.size w' w2 := fun w' hW => all_fld fldB 100 ok _ _ w' (hf.any (sP.grow _) hW) (by decide) (field_hf _ z4 ok w')
 have HM : ∀ w', Below w.heap.size w w' -> Calls Tryz.prog 158 #[.slice pm nm cm, .int .i64 100, .func (.func 159) #[] #[]] w' fun e w2 => e = .returned (.bool (allB 100 mthB c.methods)) /\ Below w'.heap.size w' w2 := fun w' hW => all_mth mthB 100 ok _ _ w' (hm.any mP.grow hW) (by decide) (method_hf _ z5 ok w' (hg.below hW (Nat.le_refl _)))
 have HIh := hid HI
 have HFh := hid HF0
 have HMh := hid HM
 have hA : Below w.heap.size w (w.alloc (.cells #[.string c.name, .string c.super, .slice pi ni ci, .int .i64 c.kind, .slice pf nf cf, .slice pm nm cm] 52)) := (Below.refl _ w).alloc (Nat.le_refl _) _
 clear HI HF0 HM hi hf hm z3 z4 z5
 cases h0 : nameB c.name with
 | false =>
  have HF : Hid (clsB c = false) := hid (by unfold clsB; simp [h0])
  go_enter Tryz.func112, Tryz.ntmps112
  go_wp2_with fail
  refine (name_any c.name _ (max_of z1)).mono ?_
  rintro e w' ⟨rfl, rfl⟩
  go_wp2_with fail
  go_ret
  exact ⟨D.ret_bool HF.out.symm, (Below.refl _ _).alloc (Nat.le_refl _) _⟩
 | true =>
  cases h1 : nameB c.super with
  | false =>
   have HF : Hid (clsB c = false) := hid (by unfold clsB; simp [h1])
   go_enter Tryz.func112, Tryz.ntmps112
   go_wp2_with fail
   refine (name_any c.name _ (max_of z1)).mono ?_
   rintro e w' ⟨rfl, rfl⟩
   go_wp2_with fail
   refine (name_any c.super _ (max_of z2)).mono ?_
   rintro e w' ⟨rfl, rfl⟩
   go_wp2_with fail
   go_ret
   exact ⟨D.ret_bool HF.out.symm, (Below.refl _ _).alloc (Nat.le_refl _) _⟩
  | true =>
   cases h2 : allB 20 nameB c.ifaces with
   | false =>
    have HF : Hid (clsB c = false) := hid (by unfold clsB; simp [h2])
    go_enter Tryz.func112, Tryz.ntmps112
    go_wp2_with fail
    refine (name_any c.name _ (max_of z1)).mono ?_
    rintro e w' ⟨rfl, rfl⟩
    go_wp2_with fail
    refine (name_any c.super _ (max_of z2)).mono ?_
    rintro e w' ⟨rfl, rfl⟩
    go_wp2_with fail
    refine (HIh.out _ hA).mono ?_
    rintro e w1 ⟨rfl, hb1⟩
    have hx1 := boxed (vs := [.string c.name, .string c.super, .slice pi ni ci, .int .i64 c.kind, .slice pf nf cf, .slice pm nm cm]) hb1
    obtain ⟨q1_0, q1_1, q1_2, q1_3, q1_4, q1_5⟩ := z6 hx1.1
    have hB := hx1.2.2
    have hlt1 := hx1.2.1
    go_wp2_with fail
    go_ret
    exact ⟨D.ret_bool HF.out.symm, hB⟩
   | true =>
    cases h3 : decide (1 <= c.kind) with
    | false =>
     have HF : Hid (clsB c = false) := hid (by unfold clsB; simp [h3])
     go_enter Tryz.func112, Tryz.ntmps112
     go_wp2_with fail
     refine (name_any c.name _ (max_of z1)).mono ?_
     rintro e w' ⟨rfl, rfl⟩
     go_wp2_with fail
     refine (name_any c.super _ (max_of z2)).mono ?_
     rintro e w' ⟨rfl, rfl⟩
     go_wp2_with fail
     refine (HIh.out _ hA).mono ?_
     rintro e w1 ⟨rfl, hb1⟩
     have hx1 := boxed (vs := [.string c.name, .string c.super, .slice pi ni ci, .int .i64 c.kind, .slice pf nf cf, .slice pm nm cm]) hb1
     obtain ⟨q1_0, q1_1, q1_2, q1_3, q1_4, q1_5⟩ := z6 hx1.1
     have hB := hx1.2.2
     have hlt1 := hx1.2.1
     go_wp2_with fail
     go_ret
     exact ⟨D.ret_bool HF.out.symm, hB⟩
    | true =>
     cases h4 : decide (c.kind <= 4) with
     | false =>
      have HF : Hid (clsB c = false) := hid (by unfold clsB; simp [h4])
      go_enter Tryz.func112, Tryz.ntmps112
      go_wp2_with fail
      refine (name_any c.name _ (max_of z1)).mono ?_
      rintro e w' ⟨rfl, rfl⟩
      go_wp2_with fail
      refine (name_any c.super _ (max_of z2)).mono ?_
      rintro e w' ⟨rfl, rfl⟩
      go_wp2_with fail
      refine (HIh.out _ hA).mono ?_
      rintro e w1 ⟨rfl, hb1⟩
      have hx1 := boxed (vs := [.string c.name, .string c.super, .slice pi ni ci, .int .i64 c.kind, .slice pf nf cf, .slice pm nm cm]) hb1
      obtain ⟨q1_0, q1_1, q1_2, q1_3, q1_4, q1_5⟩ := z6 hx1.1
      have hB := hx1.2.2
      have hlt1 := hx1.2.1
      go_wp2_with fail
      go_ret
      exact ⟨D.ret_bool HF.out.symm, hB⟩
     | true =>
      cases h5 : allB 100 fldB c.fields with
      | false =>
       have HF : Hid (clsB c = false) := hid (by unfold clsB; simp [h5])
       go_enter Tryz.func112, Tryz.ntmps112
       go_wp2_with fail
       refine (name_any c.name _ (max_of z1)).mono ?_
       rintro e w' ⟨rfl, rfl⟩
       go_wp2_with fail
       refine (name_any c.super _ (max_of z2)).mono ?_
       rintro e w' ⟨rfl, rfl⟩
       go_wp2_with fail
       refine (HIh.out _ hA).mono ?_
       rintro e w1 ⟨rfl, hb1⟩
       have hx1 := boxed (vs := [.string c.name, .string c.super, .slice pi ni ci, .int .i64 c.kind, .slice pf nf cf, .slice pm nm cm]) hb1
       obtain ⟨q1_0, q1_1, q1_2, q1_3, q1_4, q1_5⟩ := z6 hx1.1
       have hB := hx1.2.2
       have hlt1 := hx1.2.1
       go_wp2_with fail
       refine (HFh.out _ hB).mono ?_
       rintro e w2 ⟨rfl, hb2⟩
       have hx2 := boxed_next hx1 hb2 hx1.2.2.size
       obtain ⟨q2_0, q2_1, q2_2, q2_3, q2_4, q2_5⟩ := z6 hx2.1
       have hB := hx2.2.2
       have hlt2 := hx2.2.1
       go_wp2_with fail
       go_ret
       exact ⟨D.ret_bool HF.out.symm, hB⟩
      | true =>
       cases h6 : allB 100 mthB c.methods with
       | false =>
        have HF : Hid (clsB c = false) := hid (by unfold clsB; simp [h6])
        go_enter Tryz.func112, Tryz.ntmps112
        go_wp2_with fail
        refine (name_any c.name _ (max_of z1)).mono ?_
        rintro e w' ⟨rfl, rfl⟩
        go_wp2_with fail
        refine (name_any c.super _ (max_of z2)).mono ?_
        rintro e w' ⟨rfl, rfl⟩
        go_wp2_with fail
        refine (HIh.out _ hA).mono ?_
        rintro e w1 ⟨rfl, hb1⟩
        have hx1 := boxed (vs := [.string c.name, .string c.super, .slice pi ni ci, .int .i64 c.kind, .slice pf nf cf, .slice pm nm cm]) hb1
        obtain ⟨q1_0, q1_1, q1_2, q1_3, q1_4, q1_5⟩ := z6 hx1.1
        have hB := hx1.2.2
        have hlt1 := hx1.2.1
        go_wp2_with fail
        refine (HFh.out _ hB).mono ?_
        rintro e w2 ⟨rfl, hb2⟩
        have hx2 := boxed_next hx1 hb2 hx1.2.2.size
        obtain ⟨q2_0, q2_1, q2_2, q2_3, q2_4, q2_5⟩ := z6 hx2.1
        have hB := hx2.2.2
        have hlt2 := hx2.2.1
        go_wp2_with fail
        refine (HMh.out _ hB).mono ?_
        rintro e w3 ⟨rfl, hb3⟩
        have hx3 := boxed_next hx2 hb3 hx2.2.2.size
        obtain ⟨q3_0, q3_1, q3_2, q3_3, q3_4, q3_5⟩ := z6 hx3.1
        have hB := hx3.2.2
        have hlt3 := hx3.2.1
        go_wp2_with fail
        go_ret
        exact ⟨D.ret_bool HF.out.symm, hB⟩
       | true =>
        have HF : Hid (clsB c = true) := hid (by unfold clsB; simp [h0, h1, h2, h3, h4, h5, h6])
        go_enter Tryz.func112, Tryz.ntmps112
        go_wp2_with fail
        refine (name_any c.name _ (max_of z1)).mono ?_
        rintro e w' ⟨rfl, rfl⟩
        go_wp2_with fail
        refine (name_any c.super _ (max_of z2)).mono ?_
        rintro e w' ⟨rfl, rfl⟩
        go_wp2_with fail
        refine (HIh.out _ hA).mono ?_
        rintro e w1 ⟨rfl, hb1⟩
        have hx1 := boxed (vs := [.string c.name, .string c.super, .slice pi ni ci, .int .i64 c.kind, .slice pf nf cf, .slice pm nm cm]) hb1
        obtain ⟨q1_0, q1_1, q1_2, q1_3, q1_4, q1_5⟩ := z6 hx1.1
        have hB := hx1.2.2
        have hlt1 := hx1.2.1
        go_wp2_with fail
        refine (HFh.out _ hB).mono ?_
        rintro e w2 ⟨rfl, hb2⟩
        have hx2 := boxed_next hx1 hb2 hx1.2.2.size
        obtain ⟨q2_0, q2_1, q2_2, q2_3, q2_4, q2_5⟩ := z6 hx2.1
        have hB := hx2.2.2
        have hlt2 := hx2.2.1
        go_wp2_with fail
        refine (HMh.out _ hB).mono ?_
        rintro e w3 ⟨rfl, hb3⟩
        have hx3 := boxed_next hx2 hb3 hx2.2.2.size
        obtain ⟨q3_0, q3_1, q3_2, q3_3, q3_4, q3_5⟩ := z6 hx3.1
        have hB := hx3.2.2
        have hlt3 := hx3.2.1
        go_wp2_with fail
        go_ret
        exact ⟨D.ret_bool HF.out.symm, hB⟩
theorem class_hf (cs : List Cls) (hs : ∀ c ∈ cs, szC c) (ok : Nat -> Prop) (w : World) (hg : Glob w) : ∀ x ∈ cs, ∀ vs w', cP ok w' vs x -> Below w.heap.size w w' -> Calls Tryz.prog 112 #[.agg vs.toArray] w' fun e w'' => e = .returned (.bool (clsB x)) /\ Below w'.heap.size w' w'' := by
 intro x hx vs w' hv hb
 obtain ⟨vp, vc, vh, rfl, h1, h2, h3⟩ := hv
 obtain ⟨pp, cp, rfl, -⟩ := h1.len
 obtain ⟨pc, cc, rfl, -⟩ := h2.len
 obtain ⟨ph, ch, rfl, -⟩ := h3.len
 exact formedClass_any x ok _ _ _ _ _ _ _ _ _ w' (hs x hx) (hg.below hb (Nat.le_refl _)) h1 h2 h3
theorem formed_any (a : Arch) (ok : Nat -> Prop) (p : Option Addr) (n cap : Nat) (w : World) (hz : szA a) (hg : Glob w) (hr : RdA ok w (.slice p n cap) a) :
  Calls Tryz.prog 69 #[.agg #[.slice p n cap]] w fun e w' => e = .returned (.bool (formedB a)) /\ Below w.heap.size w w' := by
 have hA : Below w.heap.size w (w.alloc (.cells #[.slice p n cap] 24)) := (Below.refl _ w).alloc (Nat.le_refl _) _
 have hr1 := hr.any cP.grow hA
 have hg1 := hg.below hA (Nat.le_refl _)
 have HR := hid hr1
 clear hr hr1
 go_enter Tryz.func69, Tryz.ntmps69
 go_wp2_with fail
 refine (all_cls clsB 400 ok _ _ _ HR.out (by decide) (class_hf _ hz ok _ hg1)).mono ?_
 rintro e w1 ⟨rfl, hb1⟩
 have hx1 := boxed (vs := [.slice p n cap]) hb1
 go_wp2_with fail
 go_ret
 exact ⟨D.ret_bool rfl, hx1.2.2⟩
end Go.Proofs.YtijnimjmimeefaaGreat.A
namespace Go.Proofs.YtijnimjmimeefaaGreat.A
open Go.RowKit Go.Proofs.YtijnimjmimeefaaGreat.D Go.Proofs.YtijnimjmimeefaaGreat.O
def Fr (ok : Nat -> Prop) (w w' : World) : Prop := Below 0 w w' /\ Keeps ok w w'
theorem Fr.size {ok : Nat -> Prop} {w w' : World} (h : Fr ok w w') : w.heap.size <= w'.heap.size := h.1.size
theorem Fr.refl (ok : Nat -> Prop) (w : World) : Fr ok w w := ⟨Below.refl _ _, fun _ _ _ => rfl⟩
theorem Fr.trans {ok : Nat -> Prop} {a b c : World} (h : Fr ok a b) (k : Fr ok b c) : Fr ok a c :=
 ⟨h.1.trans k.1, fun x hx hl => (k.2 x hx (Nat.lt_of_lt_of_le hl h.size)).trans (h.2 x hx hl)⟩
theorem Fr.drew (ok : Nat -> Prop) (w : World) : Fr ok w w.drew := ⟨(Below.refl _ _).drew, fun _ _ _ => rfl⟩
theorem Fr.mono {ok ok' : Nat -> Prop} {a b : World} (h : Fr ok a b) (ho : ∀ x, ok' x -> x < a.heap.size -> ok x) : Fr ok' a b := ⟨h.1, fun x hx hl => h.2 x (ho x hx hl) hl⟩
theorem Fr.of_below {ok : Nat -> Prop} {w w' : World} (h : Below w.heap.size w w') : Fr ok w w' := ⟨h.mono (Nat.zero_le _), .of_below h⟩
theorem Fr.of_kpt {ok : Nat -> Prop} {S : List Nat} {w w' : World} (h : Kpt S w w') (hS : ∀ b, ok b -> b ∉ S) : Fr ok w w' := ⟨h.1, .of_kpt h hS⟩
theorem Fr.of_grown {ok : Nat -> Prop} {w w' : World} {r : Option Nat} (h : w.grownBy w' r) (hr : ∀ b, ok b -> r ≠ some b) : Fr ok w w' :=
 ⟨⟨h.os, h.tape, h.output, h.size, fun k hk => absurd hk (Nat.not_lt_zero k)⟩, .of_grown h hr⟩
theorem Fr.set {ok : Nat -> Prop} (w : World) (b j : Nat) (u : Value) (hb : ¬ ok b) : Fr ok w (w.setCell ⟨b, j, none⟩ u) := .of_grown (grown_set w b j u) (fun x hx e => by cases e; exact hb hx)
theorem Fr.below {ok : Nat -> Prop} {B : Nat} {w w' : World} (h : Fr ok w w') (hok : ∀ b, b < B -> ok b) (hB : B <= w.heap.size) : Below B w w' :=
 ⟨h.1.os, h.1.tape, h.1.output, h.1.size, fun k hk => h.2 k (hok k hk) (Nat.lt_of_lt_of_le hk hB)⟩
theorem Fr.step {α : Type} {sz : Nat} {P : Pv α} (hP : MonoG P) {ok : Nat -> Prop} {w w' : World} {v : Value} {xs : List α} (h : RdX sz P ok w v xs) (hf : Fr ok w w') : RdX sz P ok w' v xs := h.step hP (fun _ h _ => h) hf.2 hf.size
theorem Fr.cells {ok : Nat -> Prop} {w w' : World} {b o : Nat} {vs : List Value} (h : CellsAt w b o vs) (hf : Fr ok w w') (hb : ok b) : CellsAt w' b o vs := fun j u hu => cell_keeps (h j u hu) hf.2 hb
theorem run_appB (w : World) (B : Nat) (v : Value) (l : List UInt8) (hown : Own w B v l) (vx : Value) (m : List UInt8) (hr : Rd w vx m) (hb : l.length + m.length <= 10000000000) (hbase : B <= w.heap.size) (ty : TypeId) :
  ∃ v' w', (Builtin.append_ #[26, 26] ty #[v, vx]).run Tryz.prog w = .ok v' w' /\ Own w' B v' (l ++ m) /\ w.grownBy w' v.ownBlock /\ (v'.ownBlock = v.ownBlock ∨ v'.ownBlock = some w.heap.size) := by
 obtain ⟨i0, hi, hz0, hz1, hz2⟩ := info_parts Tryz.infoB
 obtain ⟨p, cap, rfl, h1, h2, h3⟩ := hr
 cases p with
 | none =>
  have hc := h2 rfl
  have hm : m = [] := List.eq_nil_of_length_eq_zero (by omega)
  subst hm hc
  refine ⟨v, w, run_append_owned_none w B 26 ty 5 i0 1 Tryz.underlying26 hi v l.length (l.map u8) hown, by rw [List.append_nil]; exact hown, ⟨rfl, rfl, rfl, Nat.le_refl _, fun _ _ _ => rfl⟩, .inl rfl⟩
 | some a =>
  obtain ⟨v', w', hrun, g1, g2, _, g4⟩ := run_append_own_at (P := Tryz.prog) w B 26 ty 5 i0 (.int .u8 0) 1 1 Tryz.underlying26 hi hz0 hz1 hz2 rfl (by decide) v l.length (l.map u8) hown a m.length cap (m.map u8) (by simp)
   (fun j u hj => by
    rw [List.getElem?_map, Option.map_eq_some_iff] at hj
    obtain ⟨b, hb1, rfl⟩ := hj
    exact h3 a rfl j b hb1) (u8_one m) (by unfold maxLen; omega) (by omega) hbase
  refine ⟨v', w', hrun, ?_, g2, g4⟩
  unfold Own
  rw [List.length_append, List.map_append]
  exact g1
theorem step_appB {w : World} {ops : Array Oper} {o : Oper} {a : Act} {K : Act -> World -> Prop} {Q : Exit -> Act -> World -> Prop} {E : Prop} (hw : Region.wanted o (yielded ops a.tmps) = true) (s x : Operand)
  (ho : o.op = .call { callee := .builtin .append, args := #[s, x], argTypes := #[26, 26] })
  (B : Nat) (v : Value) (l : List UInt8) (hs : a.eval s = v) (hown : Own w B v l) (vx : Value) (m : List UInt8) (hx : a.eval x = vx) (hr : Rd w vx m)
  (hb : l.length + m.length <= 10000000000) (hbase : B <= w.heap.size)
  (h : ∀ v' w', Own w' B v' (l ++ m) -> w.grownBy w' v.ownBlock -> (v'.ownBlock = v.ownBlock ∨ v'.ownBlock = some w.heap.size) -> K (a.put o.dst v') w') :
  if Region.wanted o (yielded ops a.tmps) = true then Oper.wp Tryz.prog o a w K Q else E := by
 rw [if_pos hw]
 obtain ⟨v', w', hrun, g1, g2, g4⟩ := run_appB w B v l hown vx m hr hb hbase o.type
 unfold Oper.wp execOp
 simp only [ho, resolve, invoke, builtin, Sem.run_bind, Sem.run_pure, Result.andThen_ok, List.map_toArray, List.map_cons, List.map_nil, hs, hx, hrun]
 exact h v' w' g1 g2 g4
def WtP (w : World) (ok : Nat -> Prop) (wb pb mb : Nat) (sl bv : Value) (L : List ByteArray) (b : List UInt8) : Prop :=
 w.heap[wb]? = some (.cells #[.pointer (some ⟨pb, 0, none⟩), bv] 97 (0, 0)) /\ Pl w 0 pb mb sl L /\ Own w 0 bv b /\ bv.ownBlock ≠ some wb /\
 (∀ x ∈ fp pb mb sl, x ≠ wb /\ bv.ownBlock ≠ some x /\ ¬ ok x) /\ ¬ ok wb /\ ∀ g, bv.ownBlock = some g -> ¬ ok g
def Wt (w : World) (ok : Nat -> Prop) (wb pb mb : Nat) (st : WS) : Prop := ∃ sl bv, WtP w ok wb pb mb sl bv st.1 st.2
theorem WtP.lt {w : World} {ok : Nat -> Prop} {wb pb mb : Nat} {sl bv : Value} {L : List ByteArray} {b : List UInt8} (h : WtP w ok wb pb mb sl bv L b) : wb < w.heap.size := (Array.getElem?_eq_some_iff.1 h.1).1
theorem WtP.cells {w : World} {ok : Nat -> Prop} {wb pb mb : Nat} {sl bv : Value} {L : List ByteArray} {b : List UInt8} (h : WtP w ok wb pb mb sl bv L b) :
  wb < w.heap.size /\ w.cell? ⟨wb, 0, none⟩ = some (.pointer (some ⟨pb, 0, none⟩)) /\ w.cell? ⟨wb, 1, none⟩ = some bv /\ w.frozen? ⟨wb, 1, none⟩ = false := by
 refine ⟨h.lt, ?_, ?_, ?_⟩
 ·simp [World.cell?, h.1]
 ·simp [World.cell?, h.1]
 ·simp [World.frozen?, h.1]
theorem WtP.kpt {w w' : World} {ok ok' : Nat -> Prop} {S : List Nat} {wb pb mb : Nat} {sl bv : Value} {L : List ByteArray} {b : List UInt8} (h : WtP w ok wb pb mb sl bv L b) (hk : Kpt S w w') (hS : ∀ x, x < w.heap.size -> x ∉ S) (ho : ∀ x, ok' x -> ok x ∨ w.heap.size <= x) : WtP w' ok' wb pb mb sl bv L b := by
 have hlt := h.lt
 obtain ⟨h1, h2, h3, h4, h5, h6, h7⟩ := h
 have hpl := h2.lt
 refine ⟨?_, h2.kpt hk (fun x hx => hS x (hpl x hx).2), h3.kpt hk (fun g hg => hS g (h3.lt g hg).2), h4, fun x hx => ⟨(h5 x hx).1, (h5 x hx).2.1, fun hx' => ?_⟩, fun hx' => ?_, fun g hg hx' => ?_⟩
 ·rw [hk.2 wb hlt (hS wb hlt)]; exact h1
 ·rcases ho x hx' with e | e
  ·exact (h5 x hx).2.2 e
  ·have := (hpl x hx).2; omega
 ·rcases ho wb hx' with e | e
  ·exact h6 e
  ·omega
 ·rcases ho g hx' with e | e
  ·exact h7 g hg e
  ·have := (h3.lt g hg).2; omega
theorem Wt.below {w w' : World} {ok ok' : Nat -> Prop} {wb pb mb : Nat} {st : WS} (h : Wt w ok wb pb mb st) (hb : Below w.heap.size w w') (ho : ∀ x, ok' x -> ok x ∨ w.heap.size <= x) : Wt w' ok' wb pb mb st := by
 obtain ⟨sl, bv, h⟩ := h
 exact ⟨sl, bv, h.kpt (.of_below hb : Kpt [] w w') (fun _ _ => by simp) ho⟩
theorem Wt.weak {w : World} {ok ok' : Nat -> Prop} {wb pb mb : Nat} {st : WS} (h : Wt w ok wb pb mb st) (ho : ∀ x, ok' x -> ok x) : Wt w ok' wb pb mb st := h.below (Below.refl _ _) (fun x hx => .inl (ho x hx))
theorem WtP.pool {w w' : World} {ok : Nat -> Prop} {wb pb mb : Nat} {sl sl' bv : Value} {L L' : List ByteArray} {b : List UInt8} (h : WtP w ok wb pb mb sl bv L b) (ho : On w w' 0 pb mb sl sl' L') (hok : ∀ x, ok x -> x < w.heap.size) :
  WtP w' ok wb pb mb sl' bv L' b /\ Fr ok w w' := by
 have hlt := h.lt
 obtain ⟨h1, h2, h3, h4, h5, h6, h7⟩ := h
 have hfr := ho.fresh
 obtain ⟨g1, g2, g3⟩ := ho
 refine ⟨⟨?_, g1, h3.kpt g2 (fun g hg hx => (h5 g hx).2.1 hg), h4, fun x hx => ?_, h6, h7⟩, .of_kpt g2 (fun x hx hx' => (h5 x hx').2.2 hx)⟩
 ·rw [g2.2 wb hlt (fun hx => (h5 wb hx).1 rfl)]; exact h1
 ·rcases hfr x hx with e | e
  ·exact h5 x e
  ·refine ⟨by omega, fun hb => ?_, fun hx' => ?_⟩
   ·have := (h3.lt x hb).2; omega
   ·have := hok x hx'; omega
theorem WtP.put {w w1 : World} {ok : Nat -> Prop} {wb pb mb : Nat} {sl bv v' : Value} {L : List ByteArray} {b m : List UInt8} (h : WtP w ok wb pb mb sl bv L b) (ho : Own w1 0 v' (b ++ m)) (hg : w.grownBy w1 bv.ownBlock)
  (hl : v'.ownBlock = bv.ownBlock ∨ v'.ownBlock = some w.heap.size) (hok : ∀ x, ok x -> x < w.heap.size) :
  w1.cell? ⟨wb, 1, none⟩ = some bv /\ w1.frozen? ⟨wb, 1, none⟩ = false /\ WtP (w1.setCell ⟨wb, 1, none⟩ v') ok wb pb mb sl v' L (b ++ m) /\ Fr ok w (w1.setCell ⟨wb, 1, none⟩ v') := by
 have hlt := h.lt
 obtain ⟨h1, h2, h3, h4, h5, h6, h7⟩ := h
 have hpl := h2.lt
 have hne : v'.ownBlock ≠ some wb := by
  rcases hl with e | e
  ·rw [e]; exact h4
  ·rw [e]; simp only [ne_eq, Option.some.injEq]; omega
 have hw1 : w1.heap[wb]? = some (.cells #[.pointer (some ⟨pb, 0, none⟩), bv] 97 (0, 0)) := by rw [hg.block wb hlt (fun e => h4 e.symm)]; exact h1
 have k1 : Kpt bv.ownBlock.toList w w1 := .of_grown hg (fun g e => .inl (by rw [e]; simp))
 have k2 : Kpt [wb] w1 (w1.setCell ⟨wb, 1, none⟩ v') := Kpt.set _ _ _ _ _ (by simp)
 have hdis : ∀ x ∈ fp pb mb sl, v'.ownBlock ≠ some x := fun x hx e => by
  rcases hl with e' | e'
  ·exact (h5 x hx).2.1 (e' ▸ e)
  ·rw [e'] at e
   cases e
   have := (hpl _ hx).2
   omega
 have hno : ∀ g, v'.ownBlock = some g -> ¬ ok g := fun g e hg' => by
  rcases hl with e' | e'
  ·exact h7 g (e' ▸ e) hg'
  ·rw [e'] at e
   cases e
   have := hok _ hg'
   omega
 refine ⟨by simp [World.cell?, hw1], by simp [World.frozen?, hw1], ⟨?_, ?_, ho.kpt k2 (fun g e => ?_), hne, fun x hx => ⟨(h5 x hx).1, hdis x hx, (h5 x hx).2.2⟩, h6, hno⟩, (Fr.of_grown hg (fun x hx e => h7 x e hx)).trans (.set w1 wb 1 v' h6)⟩
 ·rw [heap_setCell_same w1 wb 1 _ _ _ hw1]; rfl
 ·refine (h2.kpt k1 (fun x hx hx' => ?_)).kpt k2 (fun x hx hx' => (h5 x hx).1 (List.mem_singleton.1 hx'))
  exact (h5 x hx).2.1 (by simpa using hx')
 ·rw [List.mem_singleton]
  exact fun e' => hne (e' ▸ e)
def Room (st : WS) (n : Nat) : Prop := st.1.length + n <= 9000000 /\ st.2.length + 30 * n <= 1000000000
theorem Room.next {st : WS} {n a b : Nat} {f : WS -> WS} (h : Room st n) (hf : Ext f a) (hn : a + b <= n) : Room (f st) b := by
 obtain ⟨M, bs, e, l1, l2, _⟩ := hf st
 unfold Room at h ⊢
 rw [e]
 simp only [List.length_append]
 omega
theorem Room.le {st : WS} {n m : Nat} (h : Room st n) (hn : m <= n) : Room st m := by unfold Room at h ⊢; omega
theorem own_slice {w : World} {B : Nat} {v : Value} {l : List UInt8} (h : Own w B v l) : ∃ a n c, v = .slice a n c := by
 obtain ⟨a, c, e, _⟩ := h.len
 exact ⟨a, _, c, e⟩
theorem two_len (n : Int) : (two n).length = 2 := rfl
def Wrote (ok : Nat -> Prop) (wb pb mb : Nat) (st : WS) (w : World) (e : Ending) (w' : World) : Prop := e = .returned (.tuple #[]) /\ Wt w' ok wb pb mb st /\ Fr ok w w'
theorem text_w (ok : Nat -> Prop) (wb pb mb : Nat) (st : WS) (s : ByteArray) (w : World) (h : Wt w ok wb pb mb st) (hok : ∀ x, ok x -> x < w.heap.size) (hs : s.size <= 1000) (hr : Room st 1) :
  Calls Tryz.prog 115 #[.pointer (some ⟨wb, 0, none⟩), .string s] w (Wrote ok wb pb mb (wText s st) w) := by
 obtain ⟨sl, bv, hw⟩ := h
 obtain ⟨a0, n0, c0', hsl⟩ := own_slice hw.2.2.1
 subst hsl
 unfold Room at hr
 have hL : st.1.length <= 10000000 := by omega
 have hwD : WtP w.drew ok wb pb mb sl (.slice a0 n0 c0') st.1 st.2 := hw
 obtain ⟨hlt, c0, c1, f1⟩ := hwD.cells
 have hpos := pos_le st.1 s
 go_enter Tryz.func115, Tryz.ntmps115
 go_region_law (first
  | (refine step_appB (by rfl) _ _ (by rfl) 0 _ st.2 (by rfl) hw2.2.2.1 _ _ (by rfl) ho2.rd (by rw [List.nil_append, two_len]; omega) (by omega) ?_; intro v3 w3 ho3 hg3 hl3; obtain ⟨a3, n3, c3, hv3⟩ := own_slice ho3; subst hv3; obtain ⟨d0, d1, hfin, hfr⟩ := hw2.put ho3 hg3 hl3 hok2)
  | (rw [if_pos (by rfl)]; go_simp; go_at_call 161; refine (pput_any 0 pb mb sl st.1 s _ hwD.2.1 (by omega) (by omega) (by omega)).mono ?_; rintro e w1 ⟨sl1, rfl, hon⟩; obtain ⟨hw1, hf1⟩ := hwD.pool hon hok; have hok1 : ∀ x, ok x -> x < w1.heap.size := fun x hx => (by have := hok x hx; have := hf1.size; simp at this; omega); obtain ⟨hlt1, e0, e1, g1⟩ := hw1.cells)
  | (rw [if_pos (by rfl)]; go_simp; go_at_call 160; refine (two_any (.slice none 0 0) [] (pos st.1 s : Int) _ (rd_nil _) (.inl rfl) (by simp) (by omega) (by omega)).mono ?_; rintro e w2 ⟨v2, rfl, ho2, hb2⟩; have hw2 : WtP w2 ok wb pb mb sl1 (.slice a0 n0 c0') (putL st.1 s) st.2 := (hw1.kpt (.of_below hb2 : Kpt [] w1 w2) (fun _ _ => by simp) (fun x hx => .inl hx)); have hok2 : ∀ x, ok x -> x < w2.heap.size := fun x hx => (by have := hok1 x hx; have := hb2.size; omega); obtain ⟨hlt2, e0', e1', g1'⟩ := hw2.cells))
 all_goals
  go_wp2_with fail
  exact bodyPost_end (results_none rfl _ _ _) rfl ⟨rfl, ⟨_, _, hfin⟩, (((Fr.drew ok w).trans hf1).trans (.of_below hb2)).trans hfr⟩
theorem rdI_lit {w : World} {vs : List Value} {zs : List Int} (T : TypeId) (hv : vs = zs.map (Value.int .i64)) (hz : ∀ z ∈ zs, -9223372036854775808 <= z /\ z <= 9223372036854775807) :
  RdI (w.alloc (.cells vs.toArray T)) (.slice (some ⟨w.heap.size, 0, none⟩) zs.length zs.length) zs := by
 subst hv
 refine ⟨_, _, rfl, (fun a ha _ => by cases ha; rfl), (fun h => by cases h), fun i x hx => hz x (List.mem_of_getElem? hx), fun a ha i x hx => ?_⟩
 cases ha
 simp [hx]
theorem nums_w (ok : Nat -> Prop) (wb pb mb : Nat) (st : WS) (p : Option Addr) (n c : Nat) (zs : List Int) (m : Nat) (w : World) (h : Wt w ok wb pb mb st) (hok : ∀ x, ok x -> x < w.heap.size) (hz : ∀ z ∈ zs, z <= 9223372036854775807) (hl : zs.length <= 3 * m) (hm : m <= 100) (hr : Room st m)
  (hi : RdI w (.slice p n c) zs) (hp : ∀ g, (Value.slice p n c).ownBlock = some g -> g < w.heap.size) :
  Calls Tryz.prog 113 #[.pointer (some ⟨wb, 0, none⟩), .slice p n c] w (Wrote ok wb pb mb (wNums zs st) w) := by
 obtain ⟨sl, bv, hw⟩ := h
 obtain ⟨a0, n0, c0', hsl⟩ := own_slice hw.2.2.1
 subst hsl
 obtain ⟨M, bs, e, l1, l2, _⟩ := ext_nums hz hl st
 have hbs : (nums zs).length <= 30 * m := by
  have : st.2 ++ nums zs = st.2 ++ bs := (congrArg Prod.snd e : _)
  rw [List.append_cancel_left this]; exact l2
 clear e l1 l2
 unfold Room at hr
 have hwD : WtP w.drew ok wb pb mb sl (.slice a0 n0 c0') st.1 st.2 := hw
 have hiD : RdI w.drew (.slice p n c) zs := hi
 obtain ⟨hlt, c0, c1, f1⟩ := hwD.cells
 go_enter Tryz.func113, Tryz.ntmps113
 go_region_law (first
  | (refine step_appB (by rfl) _ _ (by rfl) 0 _ st.2 (by rfl) hw2.2.2.1 _ _ (by rfl) ho2.rd (by rw [List.nil_append]; omega) (by omega) ?_; intro v3 w3 ho3 hg3 hl3; obtain ⟨a3, n3, c3, hv3⟩ := own_slice ho3; subst hv3; obtain ⟨d0, d1, hfin, hfr⟩ := hw2.put ho3 hg3 hl3 hok2)
  | (rw [if_pos (by rfl)]; go_simp; go_at_call 82; refine (num_any (.slice none 0 0) _ [] zs _ (rd_nil _) (.inl rfl) (by simp) hiD (.inr hp) (by omega)).mono ?_; rintro e w2 ⟨v2, rfl, ho2, hb2⟩; have hw2 : WtP w2 ok wb pb mb sl (.slice a0 n0 c0') st.1 st.2 := (hwD.kpt (.of_below hb2 : Kpt [] w.drew w2) (fun _ _ => by simp) (fun x hx => .inl hx)); have hok2 : ∀ x, ok x -> x < w2.heap.size := fun x hx => (by have := hok x hx; have := hb2.size; simp at this; omega); obtain ⟨hlt2, e0', e1', g1'⟩ := hw2.cells))
 all_goals
  go_wp2_with fail
  exact bodyPost_end (results_none rfl _ _ _) rfl ⟨rfl, ⟨_, _, hfin⟩, ((Fr.drew ok w).trans (.of_below hb2)).trans hfr⟩
theorem bit_any (b : Bool) (n : Int) (w : World) : Calls Tryz.prog 165 #[.bool b, .int .i64 n] w fun e w' => e = .returned (.int .i64 (bitN b n)) /\ w = w' := by
 cases b
 all_goals
  go_enter Tryz.func165, Tryz.ntmps165
  go_wp2
  go_ret
  exact ⟨rfl, rfl⟩
end Go.Proofs.YtijnimjmimeefaaGreat.A
namespace Go.Proofs.YtijnimjmimeefaaGreat.A
open Go.RowKit Go.Proofs.YtijnimjmimeefaaGreat.D Go.Proofs.YtijnimjmimeefaaGreat.O
def OwnX {α : Type} (sz : Nat) (T : TypeId) (P : Pv α) (w : World) (B : Nat) (v : Value) (xs : List α) : Prop :=
 ∃ cs : List Value, w.ownsRow B T sz v xs.length cs /\ ∀ i x, xs[i]? = some x -> P (fun b => B <= b /\ v.ownBlock ≠ some b) w ((cs.drop (i * sz)).take sz) x
theorem OwnX.nil {α : Type} (sz : Nat) (T : TypeId) (P : Pv α) (w : World) (B : Nat) : OwnX sz T P w B (.slice none 0 0) ([] : List α) := ⟨[], ⟨by simp, .inl ⟨rfl, rfl⟩⟩, fun i x h => by simp at h⟩
theorem OwnX.lt {α : Type} {sz : Nat} {T : TypeId} {P : Pv α} {w : World} {B : Nat} {v : Value} {xs : List α} (h : OwnX sz T P w B v xs) : ∀ k, v.ownBlock = some k -> B <= k /\ k < w.heap.size := by
 obtain ⟨cs, h1, _⟩ := h
 exact World.ownsRow.lt h1
theorem OwnX.rd {α : Type} {sz : Nat} {T : TypeId} {P : Pv α} (hP : MonoG P) {w : World} {B : Nat} {v : Value} {xs : List α} (h : OwnX sz T P w B v xs) : RdX sz P (fun b => B <= b) w v xs := by
 obtain ⟨cs, h1, h2⟩ := h
 have hh := h1
 rcases h1.2 with ⟨rfl, hn⟩ | ⟨g, cap, cur, rfl, hb, hg, hle, _⟩
 ·have : xs = [] := List.eq_nil_of_length_eq_zero hn
  subst this
  exact RdX.nil _ _ _ _
 ·refine ⟨_, cap, rfl, hle, (fun h => by cases h), .inr ⟨g, 0, rfl, hb, (Array.getElem?_eq_some_iff.1 hg).1, fun i x hx => ⟨_, hP _ _ _ _ _ _ (h2 i x hx) (fun b hb _ => hb.1) (fun _ _ _ => rfl) (Nat.le_refl _), fun j u hu => ?_⟩⟩⟩
  have hj : j < sz := by
   have := (List.getElem?_eq_some_iff.1 hu).1
   rw [List.length_take] at this
   omega
  rw [List.getElem?_take_of_lt hj, List.getElem?_drop] at hu
  have := World.ownsRow.cells hh (g := g) rfl (i * sz + j) u hu
  rw [D.add0] at this
  rw [<- Nat.add_assoc] at this
  exact this
theorem OwnX.keeps {α : Type} {sz : Nat} {T : TypeId} {P : Pv α} (hP : MonoG P) {w w' : World} {B : Nat} {v : Value} {xs : List α} (h : OwnX sz T P w B v xs) (hk : Keeps (fun b => B <= b) w w') (hs : w.heap.size <= w'.heap.size) : OwnX sz T P w' B v xs := by
 obtain ⟨cs, h1, h2⟩ := h
 have hlt := World.ownsRow.lt h1
 refine ⟨cs, ⟨h1.1, ?_⟩, fun i x hx => hP _ _ _ _ _ _ (h2 i x hx) (fun b hb _ => hb) (hk.mono (fun b hb => hb.1)) hs⟩
 rcases h1.2 with hn | ⟨g, cap, cur, rfl, hb, hg, rest⟩
 ·exact .inl hn
 ·exact .inr ⟨g, cap, cur, rfl, hb, by rw [hk g hb (hlt g rfl).2]; exact hg, rest⟩
theorem OwnX.mono {α : Type} {sz : Nat} {T : TypeId} {P : Pv α} (hP : MonoG P) {w : World} {B B' : Nat} {v : Value} {xs : List α} (h : OwnX sz T P w B v xs) (hB : B' <= B) : OwnX sz T P w B' v xs := by
 obtain ⟨cs, h1, h2⟩ := h
 refine ⟨cs, ⟨h1.1, ?_⟩, fun i x hx => hP _ _ _ _ _ _ (h2 i x hx) (fun b hb _ => ⟨Nat.le_trans hB hb.1, hb.2⟩) (fun _ _ _ => rfl) (Nat.le_refl _)⟩
 rcases h1.2 with hn | ⟨g, cap, cur, e, hb, r⟩
 ·exact .inl hn
 ·exact .inr ⟨g, cap, cur, e, Nat.le_trans hB hb, r⟩
def Shape {α : Type} (P : Pv α) (sz : Nat) : Prop := ∀ (ok : Nat -> Prop) (w : World) (vs : List Value) (x : α), P ok w vs x -> vs.length = sz /\ ∀ u ∈ vs, u.oneCell' = true
theorem shape_str : Shape (sP strC) 1 := fun _ _ vs x h => by
 have : vs = strC x := h
 subst this
 exact ⟨rfl, by simp [strC, Value.oneCell']⟩
theorem shape_ins : Shape (sP insC) 7 := fun _ _ vs x h => by
 have : vs = insC x := h
 subst this
 exact ⟨rfl, by simp [insC, Value.oneCell']⟩
theorem shape_hnd : Shape (sP hndC) 4 := fun _ _ vs x h => by
 have : vs = hndC x := h
 subst this
 exact ⟨rfl, by simp [hndC, Value.oneCell']⟩
theorem shape_fld : Shape (sP fldC) 4 := fun _ _ vs x h => by
 have : vs = fldC x := h
 subst this
 exact ⟨rfl, by simp [fldC, Value.oneCell']⟩
theorem shape_mth : Shape mP 9 := fun _ _ vs x h => by
 obtain ⟨vp, vc, vh, rfl, h1, h2, h3⟩ := h
 obtain ⟨pp, cp, rfl, -⟩ := h1.len
 obtain ⟨pc, cc, rfl, -⟩ := h2.len
 obtain ⟨ph, ch, rfl, -⟩ := h3.len
 exact ⟨rfl, by simp [Value.oneCell']⟩
theorem shape_cls : Shape cP 6 := fun _ _ vs x h => by
 obtain ⟨vp, vc, vh, rfl, h1, h2, h3⟩ := h
 obtain ⟨pp, cp, rfl, -⟩ := h1.len
 obtain ⟨pc, cc, rfl, -⟩ := h2.len
 obtain ⟨ph, ch, rfl, -⟩ := h3.len
 exact ⟨rfl, by simp [Value.oneCell']⟩
def Inf (T TS : TypeId) (sz bytes : Nat) (z : Value) : Prop := (Tryz.prog.info? T).map (fun i => (i.zero, i.size, i.bytes)) = some (some z, sz, bytes) /\ Tryz.prog.underlying TS = some (.slice T) /\ z.cells.size = sz /\ 0 < sz /\ bytes <= 1000
theorem adadd (x : Addr) (a b : Nat) : (x.add a).add b = x.add (a + b) := by
 obtain ⟨g, o, s⟩ := x
 unfold Addr.add
 by_cases ha : a = 0
 ·subst ha; simp
 ·by_cases hb : b = 0
  ·subst hb; simp
  ·rw [if_neg ha, if_neg hb, if_neg (by omega)]
   simp [Nat.add_assoc]
theorem run_appX {α : Type} {sz bytes : Nat} {T TS : TypeId} {z : Value} (hI : Inf T TS sz bytes z) {P : Pv α} (hP : MonoG P) (hS : Shape P sz) (w : World) (B : Nat) (v : Value) (xs ys : List α) (hown : OwnX sz T P w B v xs) (ad : Addr) (c : Nat)
  (hsrc : ∀ (i : Nat) y, ys[i]? = some y -> ∃ vs, P (fun b => B <= b /\ v.ownBlock ≠ some b) w vs y /\ ∀ j u, vs[j]? = some u -> w.cell? (ad.add (i * sz + j)) = some u)
  (hb : xs.length + ys.length <= 1000000) (hbase : B <= w.heap.size) (ty : TypeId) :
  ∃ v' w', (Builtin.append_ #[TS, TS] ty #[v, .slice (some ad) ys.length c]).run Tryz.prog w = .ok v' w' /\ OwnX sz T P w' B v' (xs ++ ys) /\ w.grownBy w' v.ownBlock /\ (v'.ownBlock = v.ownBlock ∨ v'.ownBlock = some w.heap.size) := by
 obtain ⟨hi0, hund, hzs, hsz, hby⟩ := hI
 obtain ⟨i0, hi, hz0, hz1, hz2⟩ := info_parts hi0
 obtain ⟨cs, h1, h2⟩ := hown
 have hex : ∃ news : List Value, news.length = ys.length * sz /\ (∀ j u, news[j]? = some u -> w.cell? (ad.add j) = some u) /\ (∀ u ∈ news, u.oneCell' = true) /\ ∀ (i : Nat) y, ys[i]? = some y -> P (fun b => B <= b /\ v.ownBlock ≠ some b) w ((news.drop (i * sz)).take sz) y := by
  clear hb
  revert ad
  induction ys with
  | nil => exact fun ad _ => ⟨[], by simp, by simp, by simp, by simp⟩
  | cons y ys ih =>
   intro ad hsrc
   obtain ⟨vs, hv, hc⟩ := hsrc 0 y rfl
   obtain ⟨hl, ho⟩ := hS _ _ _ _ hv
   obtain ⟨news, n1, n2, n3, n4⟩ := ih (ad.add sz) (fun i x hx => by
    obtain ⟨vs, hv, hc⟩ := hsrc (i + 1) x (by simpa using hx)
    refine ⟨vs, hv, fun j u hu => ?_⟩
    have := hc j u hu
    rw [Nat.succ_mul, show i * sz + sz + j = sz + (i * sz + j) by omega] at this
    rw [adadd]
    exact this)
   refine ⟨vs ++ news, by rw [List.length_append, n1, hl, List.length_cons, Nat.succ_mul, Nat.add_comm], fun j u hu => ?_, fun u hu => ?_, fun i x hx => ?_⟩
   ·by_cases hj : j < vs.length
    ·rw [List.getElem?_append_left hj] at hu
     have := hc j u hu
     rwa [Nat.zero_mul, Nat.zero_add] at this
    ·rw [List.getElem?_append_right (by omega)] at hu
     have := n2 _ u hu
     rw [adadd, show sz + (j - vs.length) = j by omega] at this
     exact this
   ·rcases List.mem_append.1 hu with h | h
    ·exact ho u h
    ·exact n3 u h
   ·cases i with
    | zero =>
     simp only [List.getElem?_cons_zero, Option.some.injEq] at hx
     subst hx
     rw [Nat.zero_mul, List.drop_zero, List.take_append_of_le_length (by omega), List.take_of_length_le (by omega)]
     exact hv
    | succ i =>
     have := n4 i x (by simpa using hx)
     rw [Nat.succ_mul, Nat.add_comm, <- List.drop_drop, <- hl, List.drop_left, hl]
     exact this
 obtain ⟨news, n1, n2, n3, n4⟩ := hex
 have hbb : (xs.length + ys.length) * bytes <= 140737488355328 := Nat.le_trans (Nat.mul_le_mul hb hby) (by decide)
 obtain ⟨v', w', hrun, g1, g2, _, g4⟩ := run_append_own_at (P := Tryz.prog) w B TS ty T i0 z sz bytes hund hi hz0 hz1 hz2 hzs hsz v xs.length cs h1 ad ys.length c news n1 n2 n3 (by unfold maxLen; omega) hbb hbase
 have hok' : ∀ b, (B <= b /\ v.ownBlock ≠ some b) -> b < w.heap.size -> B <= b /\ v'.ownBlock ≠ some b := fun b hb hlt => ⟨hb.1, by
  rcases g4 with e | e
  ·rw [e]; exact hb.2
  ·rw [e]; simp only [ne_eq, Option.some.injEq]; omega⟩
 have hkeep : Keeps (fun b => B <= b /\ v.ownBlock ≠ some b) w w' := .of_grown g2 (fun b hb => hb.2)
 refine ⟨v', w', hrun, ⟨cs ++ news, by rw [List.length_append]; exact g1, fun i x hx => ?_⟩, g2, g4⟩
 have hcl : cs.length = xs.length * sz := h1.1
 by_cases hlt : i < xs.length
 ·rw [List.getElem?_append_left hlt] at hx
  have hle : i * sz + sz <= xs.length * sz := by rw [<- Nat.succ_mul]; exact Nat.mul_le_mul_right _ hlt
  rw [List.drop_append_of_le_length (by omega), List.take_append_of_le_length (by rw [List.length_drop]; omega)]
  exact hP _ _ _ _ _ _ (h2 i x hx) (fun b hb hl => hok' b hb hl) hkeep g2.size
 ·rw [List.getElem?_append_right (by omega)] at hx
  obtain ⟨k, rfl⟩ : ∃ k, i = xs.length + k := ⟨i - xs.length, by omega⟩
  rw [Nat.add_sub_cancel_left] at hx
  rw [Nat.add_mul, <- hcl, <- List.drop_drop, List.drop_left]
  exact hP _ _ _ _ _ _ (n4 k x hx) (fun b hb hl => hok' b hb hl) hkeep g2.size
end Go.Proofs.YtijnimjmimeefaaGreat.A
namespace Go.Proofs.YtijnimjmimeefaaGreat.A
open Go.RowKit Go.Proofs.YtijnimjmimeefaaGreat.D Go.Proofs.YtijnimjmimeefaaGreat.O
structure Cx where
 B : Nat
 rb : Nat
 sb : Nat
 pb : Nat
 mb : Nat
 sl : Value
 L : List ByteArray
 bs : List UInt8
 top : Nat
def Stands (bs : List UInt8) (k e : Nat) (bey : Bool) : St -> Prop
 | .ok l => e = 0 /\ bey = false /\ l = bs.drop k
 | .error x => (bey = true /\ x = 22) ∨ (bey = false /\ e = x /\ x ≠ 0)
def Src (w : World) (C : Cx) (s : St) : Prop :=
 (∃ k e bey, Rdr w C.B C.rb C.bs k e /\ e < 100 /\ w.heap[C.sb]? = some (.cells #[.pointer (some ⟨C.rb, 0, none⟩), .pointer (some ⟨C.pb, 0, none⟩), .bool bey] 119 (0, 0)) /\ Stands C.bs k e bey s) /\
 Pl w 0 C.pb C.mb C.sl C.L /\ C.rb < C.sb /\ C.sb < C.top /\ (∀ x ∈ fp C.pb C.mb C.sl, x ≠ C.rb /\ x ≠ C.sb /\ x < C.top) /\ C.bs.length <= 30000000 /\ C.L.length <= 10000 /\ (∀ t ∈ C.L, t.size <= 1000) /\ C.top <= w.heap.size
def errN : St -> Int
 | .ok _ => 0
 | .error x => x
theorem Src.kpt {w w' : World} {C : Cx} {s : St} (h : Src w C s) {S : List Nat} (hk : Kpt S w w') (hS : ∀ x, x < C.top -> x ∉ S) : Src w' C s := by
 obtain ⟨⟨k, e, bey, h1, h2, h3, h4⟩, h5, h6, h7, h8, h9, h10, h11, h12⟩ := h
 refine ⟨⟨k, e, bey, h1.kpt hk (fun g _ hg => hS g (by omega)), h2, ?_, h4⟩, h5.kpt hk (fun x hx => hS x (h8 x hx).2.2), h6, h7, h8, h9, h10, h11, Nat.le_trans h12 hk.size⟩
 rw [hk.2 C.sb (by omega) (hS _ h7)]
 exact h3
theorem Src.below {w w' : World} {C : Cx} {s : St} (h : Src w C s) (hb : Below w.heap.size w w') : Src w' C s := h.kpt (.of_below hb : Kpt [] w w') (fun _ _ => by simp)
theorem Src.top {w : World} {C : Cx} {s : St} (h : Src w C s) : C.top <= w.heap.size := h.2.2.2.2.2.2.2.2
theorem Src.drew {w : World} {C : Cx} {s : St} (h : Src w C s) : Src w.drew C s := h.below (Below.refl _ _).drew
theorem Src.cells {w : World} {C : Cx} {s : St} (h : Src w C s) : C.sb < w.heap.size /\ C.rb < w.heap.size /\ w.cell? ⟨C.sb, 0, none⟩ = some (.pointer (some ⟨C.rb, 0, none⟩)) /\ w.cell? ⟨C.sb, 1, none⟩ = some (.pointer (some ⟨C.pb, 0, none⟩)) /\ w.frozen? ⟨C.sb, 2, none⟩ = false := by
 obtain ⟨⟨k, e, bey, h1, h2, h3, h4⟩, h5, h6, h7, h8, h9, h10, h11, h12⟩ := h
 refine ⟨by omega, by omega, ?_, ?_, ?_⟩
 ·simp [World.cell?, h3]
 ·simp [World.cell?, h3]
 ·simp [World.frozen?, h3]
def Fs (C : Cx) (w w' : World) : Prop := Kpt [C.rb, C.sb] w w'
theorem Fs.trans {C : Cx} {a b c : World} (h : Fs C a b) (k : Fs C b c) : Fs C a c := Kpt.trans h k (fun _ hx => .inl hx)
theorem Fs.of_below {C : Cx} {a b : World} (h : Below a.heap.size a b) : Fs C a b := (Kpt.of_below h : Kpt [C.rb, C.sb] a b)
theorem Fs.size {C : Cx} {a b : World} (h : Fs C a b) : a.heap.size <= b.heap.size := Kpt.size h
theorem Fs.keeps {C : Cx} {a b : World} {s : St} (h : Fs C a b) (hs : Src a C s) : Keeps (fun x => C.top <= x) a b := .of_kpt h (fun x hx => by
 obtain ⟨_, _, h6, h7, _⟩ := hs
 simp
 omega)
theorem Fs.drew (C : Cx) (w : World) : Fs C w w.drew := .of_below (Below.refl _ _).drew
theorem err_s (C : Cx) (s : St) (w : World) (h : Src w C s) : Calls Tryz.prog 55 #[.pointer (some ⟨C.sb, 0, none⟩)] w fun e w' => e = .returned (.int .i64 (errN s)) /\ w = w' := by
 obtain ⟨q1, q2, c0, c1, f2⟩ := h.cells
 obtain ⟨⟨k, e, bey, h1, h2, h3, h4⟩, _⟩ := h
 have c2 : w.cell? ⟨C.sb, 2, none⟩ = some (.bool bey) := by simp [World.cell?, h3]
 have HE : Hid (errN s = if bey then 22 else (e : Int)) := hid (by
  cases s with
  | ok l =>
   obtain ⟨rfl, rfl, _⟩ := h4
   rfl
  | error x =>
   rcases h4 with ⟨rfl, rfl⟩ | ⟨rfl, rfl, _⟩ <;> rfl)
 clear h3 h4
 cases bey with
 | true =>
  go_enter Tryz.func55, Tryz.ntmps55
  go_wp2_with fail
  go_ret
  exact ⟨ret_i64 HE.out.symm, rfl⟩
 | false =>
  go_enter Tryz.func55, Tryz.ntmps55
  go_wp2_with fail
  refine (rerr_any C.B C.rb C.bs k e _ h1).mono ?_
  rintro r w' ⟨rfl, rfl⟩
  go_wp2_with fail
  go_ret
  exact ⟨ret_i64 HE.out.symm, rfl⟩
theorem stands_next {C : Cx} {w w' : World} {s : St} {k e k' e' : Nat} {bey : Bool} {α : Type} {p : Ps α} {x : α}
  (hsrc : Src w C s) (hcell : w.heap[C.sb]? = some (.cells #[.pointer (some ⟨C.rb, 0, none⟩), .pointer (some ⟨C.pb, 0, none⟩), .bool bey] 119 (0, 0))) (hst : Stands C.bs k e bey s)
  (hg : Gone w w' C.B C.rb C.bs k' e') (he : e' < 100) (hkeep : e ≠ 0 -> e' = e) (hp : e = 0 -> (e' = 0 -> p (C.bs.drop k) = .ok (x, C.bs.drop k')) /\ (e' ≠ 0 -> p (C.bs.drop k) = .error e')) :
  ∃ s', Took (adv p s) x s' /\ Src w' C s' /\ Fs C w w' := by
 have hk : Kpt [C.rb] w w' := .gone hg (by simp)
 have hf : Fs C w w' := hk.mono (fun x hx _ => by simp at hx; simp [hx])
 obtain ⟨_, h5, h6, h7, h8, h9, h10, h11, h12⟩ := hsrc
 have hc' : w'.heap[C.sb]? = some (.cells #[.pointer (some ⟨C.rb, 0, none⟩), .pointer (some ⟨C.pb, 0, none⟩), .bool bey] 119 (0, 0)) := by
  rw [hk.2 C.sb (by omega) (by simp; omega)]; exact hcell
 have fin : ∀ s', Stands C.bs k' e' bey s' -> Src w' C s' := fun s' hs' =>
  ⟨⟨k', e', bey, hg.1, he, hc', hs'⟩, h5.kpt hk (fun x hx => by have := (h8 x hx).1; simpa using this), h6, h7, h8, h9, h10, h11, Nat.le_trans h12 hk.size⟩
 cases s with
 | ok l =>
  obtain ⟨rfl, rfl, rfl⟩ := hst
  obtain ⟨p1, p2⟩ := hp rfl
  by_cases h0 : e' = 0
  ·exact ⟨.ok (C.bs.drop k'), by simp [adv, p1 h0, Took], fin _ ⟨h0, rfl, rfl⟩, hf⟩
  ·exact ⟨.error e', by simp [adv, p2 h0, Took], fin _ (.inr ⟨rfl, rfl, h0⟩), hf⟩
 | error y =>
  refine ⟨.error y, by simp [adv, Took], fin _ ?_, hf⟩
  rcases hst with ⟨rfl, rfl⟩ | ⟨rfl, rfl, hy⟩
  ·exact .inl ⟨rfl, rfl⟩
  ·exact .inr ⟨rfl, hkeep hy, hy⟩
theorem numR_err {bs : List UInt8} {k e m v k' e' : Nat} (h : numR bs k e m = (v, k', e')) (he : e ≠ 0) : e' = e := by
 unfold numR lookR at h
 rw [if_neg he] at h
 simp only [he, if_false, Prod.mk.injEq] at h
 exact h.2.2.symm
theorem twoR_err {bs : List UInt8} {k e m v k' e' : Nat} (h : rtwoR bs k e m = (v, k', e')) (he : e ≠ 0) : e' = e := by
 unfold rtwoR lookTwoR at h
 rw [if_neg he] at h
 simp only [he, if_false, Prod.mk.injEq] at h
 exact h.2.2.symm
def TookNum (C : Cx) (s : St) (m : Nat) (w : World) (r : Ending) (w' : World) : Prop := ∃ v s', r = .returned (.int .i64 ((v : Nat) : Int)) /\ v <= m /\ Took (adv (pNum m) s) v s' /\ Src w' C s' /\ Fs C w w'
theorem num_s (C : Cx) (s : St) (m : Nat) (z : Int) (w : World) (h : Src w C s) (hz : z = (m : Int)) (hm : m <= 1000000) : Calls Tryz.prog 94 #[.pointer (some ⟨C.rb, 0, none⟩), .int .i64 z] w (TookNum C s m w) := by
 subst hz
 have hh := h
 obtain ⟨⟨k, e, bey, h1, h2, h3, h4⟩, _, _, _, _, h9, _⟩ := h
 rcases hN : numR C.bs k e m with ⟨v, k', e'⟩
 have hle := numR_le h1.2.1 h2 hN
 refine (rnum_at (most := (m : Int)) (show numR C.bs k e (cnt (m : Int)) = (v, k', e') by rw [cnt_nat, hN]) h1 h2 (by omega) (by omega) (by omega)).mono ?_
 rintro r w' ⟨rfl, hg⟩
 obtain ⟨s', t1, t2, t3⟩ := stands_next (p := pNum m) (x := v) hh h3 h4 hg hle.2.2 (numR_err hN) (fun he => by subst he; exact pNum_of hN)
 exact ⟨v, s', rfl, hle.1, t1, t2, t3⟩
def TookInt (C : Cx) (s : St) (w : World) (r : Ending) (w' : World) : Prop := ∃ z s', r = .returned (.int .i32 z) /\ (-2147483648 <= z /\ z <= 2147483647) /\ Took (adv pInt s) z s' /\ Src w' C s' /\ Fs C w w'
theorem int_s (C : Cx) (s : St) (w : World) (h : Src w C s) : Calls Tryz.prog 183 #[.pointer (some ⟨C.rb, 0, none⟩)] w (TookInt C s w) := by
 have hh := h
 obtain ⟨⟨k, e, bey, h1, h2, h3, h4⟩, _, _, _, _, h9, _⟩ := h
 rcases hN : numR C.bs k e 4294967295 with ⟨v, k', e'⟩
 have hle := numR_le h1.2.1 h2 hN
 refine (rint_at hN h1 h2 (by omega)).mono ?_
 rintro r w' ⟨rfl, hg⟩
 obtain ⟨s', t1, t2, t3⟩ := stands_next (p := pNum 4294967295) (x := v) hh h3 h4 hg hle.2.2 (numR_err hN) (fun he => by subst he; exact pNum_of hN)
 refine ⟨unfoldN v, s', rfl, ?_, took_map t1, t2, t3⟩
 have := hle.1
 unfold unfoldN
 split <;> omega
def TookText (C : Cx) (s : St) (w : World) (r : Ending) (w' : World) : Prop := ∃ t s', r = .returned (.string t) /\ t.size <= 1000 /\ Took (adv (pText C.L) s) t s' /\ Src w' C s' /\ Fs C w w'
theorem two_at (C : Cx) (s : St) (w : World) (h : Src w C s) :
  Calls Tryz.prog 140 #[.pointer (some ⟨C.rb, 0, none⟩), .int .i64 ((C.L.length : Int) - 1)] w fun r w' => ∃ (n : Nat) (t : ByteArray) (known : Bool) (k' e' : Nat) (bey : Bool),
   r = .returned (.int .i64 (n : Int)) /\ t.size <= 1000 /\ e' < 100 /\ Fs C w w' /\ Pl w' 0 C.pb C.mb C.sl C.L /\ Rdr w' C.B C.rb C.bs k' e' /\
   w'.heap[C.sb]? = some (.cells #[.pointer (some ⟨C.rb, 0, none⟩), .pointer (some ⟨C.pb, 0, none⟩), .bool bey] 119 (0, 0)) /\
   Hid (if n < C.L.length then known = true /\ C.L.getD n ⟨#[]⟩ = t else known = false /\ t = ⟨#[]⟩) /\
   Hid ((known = true ∨ e' ≠ 0 -> ∃ s', Took (adv (pText C.L) s) t s' /\ Src w' C s') /\
    (known = false /\ e' = 0 -> ∃ s', Took (adv (pText C.L) s) t s' /\ ∀ w2, Kpt [C.sb] w' w2 -> w2.heap[C.sb]? = some (.cells #[.pointer (some ⟨C.rb, 0, none⟩), .pointer (some ⟨C.pb, 0, none⟩), .bool true] 119 (0, 0)) -> Src w2 C s')) := by
 have hh := h
 obtain ⟨⟨k, e, bey, h1, h2, h3, h4⟩, h5, h6, h7, h8, h9, h10, h11, h12⟩ := h
 rcases hN : rtwoR C.bs k e (C.L.length - 1) with ⟨n, k', e'⟩
 have he' : e' < 100 := by
  by_cases h0 : e = 0
  ·subst h0
   unfold rtwoR at hN
   have : (lookTwoR C.bs k 0 (C.L.length - 1)).2 < 100 := by
    unfold lookTwoR
    split
    ·split
     ·split <;> simp
     ·simp
    ·simp
   split at hN
   ·simp only [Prod.mk.injEq] at hN; omega
   ·simp only [Prod.mk.injEq] at hN; omega
  ·rw [twoR_err hN h0]; exact h2
 refine (rtwo_at (most := (C.L.length : Int) - 1) (show rtwoR C.bs k e (cnt ((C.L.length : Int) - 1)) = (n, k', e') by rw [cnt_pred, hN]) h1 h2 (by omega) (by omega) (by omega)).mono ?_
 rintro r w' ⟨rfl, hg⟩
 have hk : Kpt [C.rb] w w' := .gone hg (by simp)
 have hf : Fs C w w' := hk.mono (fun x hx _ => by simp at hx; simp [hx])
 have hc' : w'.heap[C.sb]? = some (.cells #[.pointer (some ⟨C.rb, 0, none⟩), .pointer (some ⟨C.pb, 0, none⟩), .bool bey] 119 (0, 0)) := by
  rw [hk.2 C.sb (by omega) (by simp; omega)]; exact h3
 have hp' : Pl w' 0 C.pb C.mb C.sl C.L := h5.kpt hk (fun x hx => by have := (h8 x hx).1; simpa using this)
 have hts : ∀ n, (C.L.getD n ⟨#[]⟩).size <= 1000 := fun n => by
  rw [List.getD_eq_getElem?_getD]
  cases hh : C.L[n]? with
  | none => show (0 : Nat) <= 1000; decide
  | some t => exact h11 t (List.mem_of_getElem? hh)
 have hpt : e = 0 -> (e' = 0 -> if n < C.L.length then pText C.L (C.bs.drop k) = .ok (C.L.getD n ⟨#[]⟩, C.bs.drop k') else pText C.L (C.bs.drop k) = .error 22) /\ (e' ≠ 0 -> pText C.L (C.bs.drop k) = .error e') := fun h0 => by
  subst h0
  exact pText_of hN (by omega)
 by_cases hn : n < C.L.length
 ·refine ⟨n, C.L.getD n ⟨#[]⟩, true, k', e', bey, rfl, hts n, he', hf, hp', hg.1, hc', hid (by rw [if_pos hn]; exact ⟨rfl, rfl⟩), hid ⟨fun _ => ?_, fun h => by cases h.1⟩⟩
  obtain ⟨s', t1, t2, t3⟩ := stands_next (p := pText C.L) (x := C.L.getD n ⟨#[]⟩) hh h3 h4 hg he' (twoR_err hN) (fun h0 => ⟨fun h1 => by have := (hpt h0).1 h1; rwa [if_pos hn] at this, (hpt h0).2⟩)
  exact ⟨s', t1, t2⟩
 ·refine ⟨n, ⟨#[]⟩, false, k', e', bey, rfl, by show (0 : Nat) <= 1000; decide, he', hf, hp', hg.1, hc', hid (by rw [if_neg hn]; exact ⟨rfl, rfl⟩), hid ⟨fun h => ?_, fun h => ?_⟩⟩
  ·have he0 : e' ≠ 0 := by
    rcases h with h | h
    ·cases h
    ·exact h
   obtain ⟨s', t1, t2, t3⟩ := stands_next (p := pText C.L) (x := ⟨#[]⟩) hh h3 h4 hg he' (twoR_err hN) (fun h0 => ⟨fun h1 => absurd h1 he0, (hpt h0).2⟩)
   exact ⟨s', t1, t2⟩
  ·have he0 : e' = 0 := h.2
   have hz : e = 0 := by
    by_cases hz : e = 0
    ·exact hz
    ·have := twoR_err hN hz; omega
   have hlast := (hpt hz).1 he0
   rw [if_neg hn] at hlast
   refine ⟨.error 22, ?_, fun w2 hk2 hc2 => ⟨⟨k', e', true, hg.1.kpt hk2 (fun g _ hg => by simp; omega), he', hc2, .inl ⟨rfl, rfl⟩⟩, hp'.kpt hk2 (fun x hx => by have := (h8 x hx).2.1; simpa using this), h6, h7, h8, h9, h10, h11, Nat.le_trans h12 (Nat.le_trans hk.size hk2.size)⟩⟩
   cases s with
   | ok l =>
    obtain ⟨-, -, rfl⟩ := h4
    simp [adv, hlast, Took]
   | error y =>
    rcases h4 with ⟨hb, rfl⟩ | ⟨hb, hy, hy0⟩
    ·simp [adv, Took]
    ·omega
end Go.Proofs.YtijnimjmimeefaaGreat.A
namespace Go.Proofs.YtijnimjmimeefaaGreat.A
open Go.RowKit Go.Proofs.YtijnimjmimeefaaGreat.D Go.Proofs.YtijnimjmimeefaaGreat.O
theorem at_c {B pb mb : Nat} {sl : Value} {L : List ByteArray} {n : Nat} {t : ByteArray} {known : Bool} {w : World} (h : Pl w B pb mb sl L) (hn : Hid (if n < L.length then known = true /\ L.getD n ⟨#[]⟩ = t else known = false /\ t = ⟨#[]⟩)) :
  Calls Tryz.prog 139 #[.pointer (some ⟨pb, 0, none⟩), .int .i64 (n : Int)] w fun e w' => e = .returned (.tuple #[.string t, .bool known]) /\ w = w' := by
 have hh := hn.out
 by_cases hl : n < L.length
 ·rw [if_pos hl] at hh
  obtain ⟨rfl, h2⟩ := hh
  rw [List.getD_eq_getElem?_getD, List.getElem?_eq_getElem hl] at h2
  simp only [Option.getD_some] at h2
  subst h2
  exact pat_in B pb mb sl L n w h hl
 ·rw [if_neg hl] at hh
  obtain ⟨rfl, rfl⟩ := hh
  exact pat_out B pb mb sl L n w h (.inr (by omega))
theorem cells3 {w : World} {b : Nat} {x y z : Value} {T : TypeId} (h : w.heap[b]? = some (.cells #[x, y, z] T (0, 0))) : b < w.heap.size /\ w.cell? ⟨b, 0, none⟩ = some x /\ w.cell? ⟨b, 1, none⟩ = some y /\ w.cell? ⟨b, 2, none⟩ = some z /\ w.frozen? ⟨b, 2, none⟩ = false := by
 refine ⟨(Array.getElem?_eq_some_iff.1 h).1, ?_, ?_, ?_, ?_⟩
 ·simp [World.cell?, h]
 ·simp [World.cell?, h]
 ·simp [World.cell?, h]
 ·simp [World.frozen?, h]
theorem text_s (C : Cx) (s : St) (w : World) (h : Src w C s) : Calls Tryz.prog 98 #[.pointer (some ⟨C.sb, 0, none⟩)] w (TookText C s w) := by
 have hD := h.drew
 obtain ⟨q1, q2, c0, c1, f2⟩ := hD.cells
 have hl : C.L.length <= 10000 := h.2.2.2.2.2.2.1
 have hsr : C.rb < C.sb := h.2.2.1
 have hp := hD.2.1
 have hwr : IntKind.i64.wrap ((C.L.length : Int) - 1) = (C.L.length : Int) - 1 := IntWalk.i64_in _ (by omega)
 go_enter Tryz.func98, Tryz.ntmps98
 have hcc := And.intro c0 c1
 go_wp2_with fail
 refine wp_region_held_drew (S := (fun w' => w'.cell? ⟨C.sb, 0, none⟩ = some (.pointer (some ⟨C.rb, 0, none⟩)) /\ w'.cell? ⟨C.sb, 1, none⟩ = some (.pointer (some ⟨C.pb, 0, none⟩)))) (by kernel_rfl) hcc (fun hh => ?_)
 refine tkA 0 _ hh ?_
 try go_frame
 refine tkA 1 _ hh ?_
 try go_frame
 refine tkA 2 _ hh ?_
 try go_frame
 refine tkB 3 _ hh ?_
 try go_frame
 refine tkA 4 _ hh ?_
 try go_frame
 refine tkA 5 _ hh ?_
 try go_frame
 refine tkA 6 _ hh ?_
 try go_frame
 refine tkB 7 _ hh ?_
 try go_frame
 refine tkA 8 _ hh ?_
 try go_frame
 refine tkA 9 _ hh ?_
 try go_frame
 refine tkA 10 _ hh ?_
 try go_frame
 refine tkB 11 _ hh ?_
 try go_frame
 refine rdH [12] ?_
 refine rcH (fun K hK => ?_) AllReadyH.nil
 clear hh
 go_simp
 refine (plen_any 0 C.pb C.mb C.sl C.L _ hp).mono ?_
 rintro e w' ⟨rfl, rfl⟩
 refine hK.out _ _ hcc (fun hh => ?_)
 clear hK K
 try go_frame
 refine tkA 13 _ hh ?_
 try go_frame
 refine rdH [14] ?_
 refine rcH (fun K hK => ?_) AllReadyH.nil
 clear hh
 go_simp
 refine (two_at C s _ hD).mono ?_
 rintro e w1 ⟨n, t, known, k', e', bey, rfl, hts, he', hf1, hp1, hr1, hc1, HN, HS⟩
 obtain ⟨d0, d1, d2, d3, d4⟩ := cells3 hc1
 refine hK.out _ _ ⟨d1, d2⟩ (fun hh => ?_)
 clear hK K
 try go_frame
 refine rdH [15] ?_
 refine rcH (fun K hK => ?_) AllReadyH.nil
 clear hh
 go_simp
 refine (at_c hp1 HN).mono ?_
 rintro e w' ⟨rfl, rfl⟩
 refine hK.out _ _ ⟨d1, d2⟩ (fun hh => ?_)
 clear hK K
 try go_frame
 refine tkA 16 _ hh ?_
 try go_frame
 refine tkA 17 _ hh ?_
 try go_frame
 refine tkA 18 _ hh ?_
 try go_frame
 refine tkA 19 _ hh ?_
 try go_frame
 refine tkA 20 _ hh ?_
 try go_frame
 refine wpAnyH_done (by kernel_rfl) ?_ _
 all_goals
  have hfw : Fs C w w1 := (Fs.drew C w).trans hf1
  cases known with
  | true =>
   obtain ⟨s', t1, t2⟩ := HS.out.1 (.inl rfl)
   have HT := hid t1
   clear t1
   go_wp2_with fail
   go_ret
   exact ⟨t, s', rfl, hts, HT.out, t2, hfw⟩
  | false =>
   by_cases he0 : e' = 0
   ·subst he0
    obtain ⟨s', t1, t2⟩ := HS.out.2 ⟨rfl, rfl⟩
    have HT := hid t1
    have HT2 := hid t2
    clear t1 t2
    go_wp2_with fail
    refine (rerr_any C.B C.rb C.bs k' 0 _ hr1).mono ?_
    rintro r w' ⟨rfl, rfl⟩
    go_wp2_with fail
    go_ret
    have hk2 : Kpt [C.sb] w1 (w1.setCell ⟨C.sb, 2, none⟩ (.bool true)) := Kpt.set _ _ _ _ _ (by simp)
    refine ⟨t, s', rfl, hts, HT.out, HT2.out _ hk2 ?_, hfw.trans (hk2.mono (fun x hx _ => by simp at hx; simp [hx]))⟩
    rw [heap_setCell_same w1 C.sb 2 _ _ _ hc1]; rfl
   ·obtain ⟨s', t1, t2⟩ := HS.out.1 (.inr he0)
    have HT := hid t1
    have hen : ((e' : Int) == 0) = false := beq_eq_false_iff_ne.2 (by omega)
    clear t1
    go_wp2_with fail
    refine (rerr_any C.B C.rb C.bs k' e' _ hr1).mono ?_
    rintro r w' ⟨rfl, rfl⟩
    go_wp2_with fail
    go_ret
    exact ⟨t, s', rfl, hts, HT.out, t2, hfw⟩
end Go.Proofs.YtijnimjmimeefaaGreat.A
