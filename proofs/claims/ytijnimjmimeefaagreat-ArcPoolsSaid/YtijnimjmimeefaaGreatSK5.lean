/- Texts that the proof is made of, joined. No condition. -/
import Derived.Test.YtijnimjmimeefaaGreatSK4
import Derived.Deep.RegionHeld3
import Derived.Outline
set_option linter.unusedVariables false
set_option linter.unusedSimpArgs false
namespace Go.Proofs.YtijnimjmimeefaaGreat.A
open Go.RowKit Go.Proofs.YtijnimjmimeefaaGreat.D Go.Proofs.YtijnimjmimeefaaGreat.O
def Keeps (ok : Nat → Prop) (w w' : World) : Prop := ∀ b, ok b → b < w.heap.size → w'.heap[b]? = w.heap[b]?
theorem Keeps.of_below {ok : Nat → Prop} {w w' : World} (h : Below w.heap.size w w') : Keeps ok w w' := fun b _ hb => h.block b hb
theorem Keeps.mono {ok ok' : Nat → Prop} {w w' : World} (h : Keeps ok w w') (ho : ∀ b, ok' b → ok b) : Keeps ok' w w' := fun b hb hl => h b (ho b hb) hl
theorem Keeps.of_kpt {ok : Nat → Prop} {S : List Nat} {w w' : World} (h : Kpt S w w') (hS : ∀ b, ok b → b ∉ S) : Keeps ok w w' := fun b hb hl => h.2 b hl (hS b hb)
theorem Keeps.of_grown {ok : Nat → Prop} {w w' : World} {r : Option Nat} (h : w.grownBy w' r) (hr : ∀ b, ok b → r ≠ some b) : Keeps ok w w' := fun b hb hl => h.block b hl (fun e => hr b hb e.symm)
theorem cell_keeps {ok : Nat → Prop} {w w' : World} {b o : Nat} {u : Value} (h : w.cell? ⟨b, o, none⟩ = some u) (hk : Keeps ok w w') (hb : ok b) : w'.cell? ⟨b, o, none⟩ = some u := by
 have hlt := World.block_lt_of_cell? _ _ h
 rw [World.cell?_of_block (w := w) (a := ⟨b, o, none⟩) (hk b hb hlt)]
 exact h
abbrev Pv (α : Type) : Type := (Nat → Prop) → World → List Value → α → Prop
def RdX {α : Type} (sz : Nat) (P : Pv α) (ok : Nat → Prop) (w : World) (v : Value) (xs : List α) : Prop :=
 ∃ (p : Option Addr) (cap : Nat), v = .slice p xs.length cap ∧ xs.length ≤ cap ∧ (p = none → cap = 0) ∧
  (xs = [] ∨ ∃ b off, p = some ⟨b, off, none⟩ ∧ ok b ∧ b < w.heap.size ∧ ∀ i x, xs[i]? = some x → ∃ vs, P ok w vs x ∧ ∀ j u, vs[j]? = some u → w.cell? ⟨b, off + i * sz + j, none⟩ = some u)
theorem RdX.nil {α : Type} (sz : Nat) (P : Pv α) (ok : Nat → Prop) (w : World) : RdX sz P ok w (.slice none 0 0) ([] : List α) := ⟨none, 0, rfl, by simp, fun _ => rfl, .inl rfl⟩
theorem RdX.len {α : Type} {sz : Nat} {P : Pv α} {ok : Nat → Prop} {w : World} {v : Value} {xs : List α} (h : RdX sz P ok w v xs) : ∃ p cap, v = .slice p xs.length cap ∧ xs.length ≤ cap := by
 obtain ⟨p, cap, h, h1, _⟩ := h
 exact ⟨p, cap, h, h1⟩
def sP {α : Type} (c : α → List Value) : Pv α := fun _ _ vs x => vs = c x
def strC (s : ByteArray) : List Value := [.string s]
def tyC (t : Ty) : List Value := [.int .i64 t.1, .string t.2]
def insC (x : Ins) : List Value := [.int .i64 x.1, .int .i32 x.2.1, .int .i64 x.2.2.1, .string x.2.2.2.1, .string x.2.2.2.2.1, .string x.2.2.2.2.2.1, .string x.2.2.2.2.2.2]
def fldC (f : Fld) : List Value := [.string f.1, .int .i64 f.2.1.1, .string f.2.1.2, .bool f.2.2]
def hndC (h : Hnd) : List Value := [.int .i64 h.1, .int .i64 h.2.1, .int .i64 h.2.2.1, .string h.2.2.2]
def mP : Pv Mth := fun ok w vs m => ∃ vp vc vh, vs = [.string m.name, vp, .int .i64 m.ret.1, .string m.ret.2, .bool m.st, .bool m.ab, .int .i64 m.locals, vc, vh] ∧
 RdX 2 (sP tyC) ok w vp m.params ∧ RdX 7 (sP insC) ok w vc m.code ∧ RdX 4 (sP hndC) ok w vh m.hs
def cP : Pv Cls := fun ok w vs c => ∃ vi vf vm, vs = [.string c.name, .string c.super, vi, .int .i64 c.kind, vf, vm] ∧
 RdX 1 (sP strC) ok w vi c.ifaces ∧ RdX 4 (sP fldC) ok w vf c.fields ∧ RdX 9 mP ok w vm c.methods
def MonoG {α : Type} (P : Pv α) : Prop := ∀ (ok ok' : Nat → Prop) (w w' : World) (vs : List Value) (x : α), P ok w vs x → (∀ b, ok b → b < w.heap.size → ok' b) → Keeps ok w w' → w.heap.size ≤ w'.heap.size → P ok' w' vs x
theorem RdX.step {α : Type} {sz : Nat} {P : Pv α} (hP : MonoG P) {ok ok' : Nat → Prop} {w w' : World} {v : Value} {xs : List α} (h : RdX sz P ok w v xs) (ho : ∀ b, ok b → b < w.heap.size → ok' b) (hk : Keeps ok w w') (hs : w.heap.size ≤ w'.heap.size) : RdX sz P ok' w' v xs := by
 obtain ⟨p, cap, rfl, h1, h2, h3⟩ := h
 refine ⟨p, cap, rfl, h1, h2, ?_⟩
 rcases h3 with h3 | ⟨b, off, rfl, hb, hlt, h3⟩
 ·exact .inl h3
 ·refine .inr ⟨b, off, rfl, ho b hb hlt, by omega, fun i x hx => ?_⟩
  obtain ⟨vs, hv, hc⟩ := h3 i x hx
  exact ⟨vs, hP _ _ _ _ _ _ hv ho hk hs, fun j u hu => cell_keeps (hc j u hu) hk hb⟩
theorem sP.grow {α : Type} (c : α → List Value) : MonoG (sP c) := fun _ _ _ _ _ _ h _ _ _ => h
theorem mP.grow : MonoG mP := by
 intro ok ok' w w' vs m h ho hk hs
 obtain ⟨vp, vc, vh, e, h1, h2, h3⟩ := h
 exact ⟨vp, vc, vh, e, h1.step (sP.grow _) ho hk hs, h2.step (sP.grow _) ho hk hs, h3.step (sP.grow _) ho hk hs⟩
theorem cP.grow : MonoG cP := by
 intro ok ok' w w' vs c h ho hk hs
 obtain ⟨vi, vf, vm, e, h1, h2, h3⟩ := h
 exact ⟨vi, vf, vm, e, h1.step (sP.grow _) ho hk hs, h2.step (sP.grow _) ho hk hs, h3.step mP.grow ho hk hs⟩
abbrev anyB : Nat → Prop := fun _ => True
theorem RdX.any {α : Type} {sz : Nat} {P : Pv α} (hP : MonoG P) {ok : Nat → Prop} {w w' : World} {v : Value} {xs : List α} (h : RdX sz P ok w v xs) (hb : Below w.heap.size w w') : RdX sz P ok w' v xs := h.step hP (fun _ h _ => h) (.of_below hb) hb.size
abbrev RdA (ok : Nat → Prop) (w : World) (v : Value) (a : Arch) : Prop := RdX 6 cP ok w v a
theorem RdX.at {α : Type} {sz : Nat} {P : Pv α} {ok : Nat → Prop} {w : World} {p : Option Addr} {n cap : Nat} {xs : List α} (h : RdX sz P ok w (.slice p n cap) xs) (hn : xs ≠ []) :
  ∃ b off, p = some ⟨b, off, none⟩ ∧ n = xs.length ∧ n ≤ cap ∧ ok b ∧ b < w.heap.size ∧ ∀ i x, xs[i]? = some x → ∃ vs, P ok w vs x ∧ ∀ j u, vs[j]? = some u → w.cell? ⟨b, off + i * sz + j, none⟩ = some u := by
 obtain ⟨p', cap', e, h1, h2, h3⟩ := h
 simp only [Value.slice.injEq] at e
 obtain ⟨rfl, rfl, rfl⟩ := e
 rcases h3 with h3 | ⟨b, off, rfl, hb, hlt, h3⟩
 ·exact absurd h3 hn
 ·exact ⟨b, off, rfl, rfl, h1, hb, hlt, h3⟩
def CellsAt (w : World) (b o : Nat) (vs : List Value) : Prop := ∀ j u, vs[j]? = some u → w.cell? ⟨b, o + j, none⟩ = some u
theorem CellsAt.below {w w' : World} {b o : Nat} {vs : List Value} (h : CellsAt w b o vs) {B : Nat} (hb : Below B w w') (hlt : b < B) : CellsAt w' b o vs := fun j u hu =>
 (hb.cell (p := ⟨b, o + j, none⟩) hlt).trans (h j u hu)
theorem CellsAt.one {w : World} {b o : Nat} {v0 : Value} (h : CellsAt w b o [v0]) : w.cell? ⟨b, o, none⟩ = some v0 := h 0 _ rfl
theorem CellsAt.two {w : World} {b o : Nat} {v0 v1 : Value} (h : CellsAt w b o [v0, v1]) : w.cell? ⟨b, o, none⟩ = some v0 ∧ w.cell? ⟨b, o + 1, none⟩ = some v1 := ⟨h 0 _ rfl, h 1 _ rfl⟩
theorem CellsAt.four {w : World} {b o : Nat} {v0 v1 v2 v3 : Value} (h : CellsAt w b o [v0, v1, v2, v3]) : w.cell? ⟨b, o, none⟩ = some v0 ∧ w.cell? ⟨b, o + 1, none⟩ = some v1 ∧ w.cell? ⟨b, o + 2, none⟩ = some v2 ∧ w.cell? ⟨b, o + 3, none⟩ = some v3 :=
 ⟨h 0 _ rfl, h 1 _ rfl, h 2 _ rfl, h 3 _ rfl⟩
theorem CellsAt.six {w : World} {b o : Nat} {v0 v1 v2 v3 v4 v5 : Value} (h : CellsAt w b o [v0, v1, v2, v3, v4, v5]) : w.cell? ⟨b, o, none⟩ = some v0 ∧ w.cell? ⟨b, o + 1, none⟩ = some v1 ∧ w.cell? ⟨b, o + 2, none⟩ = some v2 ∧ w.cell? ⟨b, o + 3, none⟩ = some v3 ∧ w.cell? ⟨b, o + 4, none⟩ = some v4 ∧ w.cell? ⟨b, o + 5, none⟩ = some v5 :=
 ⟨h 0 _ rfl, h 1 _ rfl, h 2 _ rfl, h 3 _ rfl, h 4 _ rfl, h 5 _ rfl⟩
theorem CellsAt.seven {w : World} {b o : Nat} {v0 v1 v2 v3 v4 v5 v6 : Value} (h : CellsAt w b o [v0, v1, v2, v3, v4, v5, v6]) : w.cell? ⟨b, o, none⟩ = some v0 ∧ w.cell? ⟨b, o + 1, none⟩ = some v1 ∧ w.cell? ⟨b, o + 2, none⟩ = some v2 ∧ w.cell? ⟨b, o + 3, none⟩ = some v3 ∧ w.cell? ⟨b, o + 4, none⟩ = some v4 ∧ w.cell? ⟨b, o + 5, none⟩ = some v5 ∧ w.cell? ⟨b, o + 6, none⟩ = some v6 :=
 ⟨h 0 _ rfl, h 1 _ rfl, h 2 _ rfl, h 3 _ rfl, h 4 _ rfl, h 5 _ rfl, h 6 _ rfl⟩
theorem CellsAt.nine {w : World} {b o : Nat} {v0 v1 v2 v3 v4 v5 v6 v7 v8 : Value} (h : CellsAt w b o [v0, v1, v2, v3, v4, v5, v6, v7, v8]) : w.cell? ⟨b, o, none⟩ = some v0 ∧ w.cell? ⟨b, o + 1, none⟩ = some v1 ∧ w.cell? ⟨b, o + 2, none⟩ = some v2 ∧ w.cell? ⟨b, o + 3, none⟩ = some v3 ∧ w.cell? ⟨b, o + 4, none⟩ = some v4 ∧ w.cell? ⟨b, o + 5, none⟩ = some v5 ∧ w.cell? ⟨b, o + 6, none⟩ = some v6 ∧ w.cell? ⟨b, o + 7, none⟩ = some v7 ∧ w.cell? ⟨b, o + 8, none⟩ = some v8 :=
 ⟨h 0 _ rfl, h 1 _ rfl, h 2 _ rfl, h 3 _ rfl, h 4 _ rfl, h 5 _ rfl, h 6 _ rfl, h 7 _ rfl, h 8 _ rfl⟩
theorem RdX.place {α : Type} {sz : Nat} {P : Pv α} {ok : Nat → Prop} {w : World} {p : Option Addr} {n cap : Nat} {xs : List α} (h : RdX sz P ok w (.slice p n cap) xs) (hn : xs ≠ []) :
  ∃ b off, p = some ⟨b, off, none⟩ ∧ n = xs.length ∧ n ≤ cap ∧ ok b ∧ b < w.heap.size ∧ ∀ i x, xs[i]? = some x → ∃ vs, P ok w vs x ∧ CellsAt w b (off + i * sz) vs := h.at hn
theorem RdX.tail {α : Type} {sz : Nat} {P : Pv α} {ok : Nat → Prop} {w : World} {b off cap : Nat} {x : α} {xs : List α} (h : RdX sz P ok w (.slice (some ⟨b, off, none⟩) (x :: xs).length cap) (x :: xs)) :
  RdX sz P ok w (.slice (some ⟨b, off + sz, none⟩) xs.length (cap - 1)) xs := by
 obtain ⟨b', off', e, _, hle, hb, hlt, hc⟩ := h.place (by simp)
 simp only [Option.some.injEq, Addr.mk.injEq, and_true] at e
 obtain ⟨rfl, rfl⟩ := e
 refine ⟨_, _, rfl, by simp at hle; omega, (fun h => by cases h), .inr ⟨b, off + sz, rfl, hb, hlt, fun i y hy => ?_⟩⟩
 obtain ⟨vs, hv, hcells⟩ := hc (i + 1) y (by simpa using hy)
 refine ⟨vs, hv, fun j u hu => ?_⟩
 have := hcells j u hu
 rw [show off + (i + 1) * sz + j = off + sz + i * sz + j by rw [Nat.succ_mul]; omega] at this
 exact this
theorem RdX.empty {α : Type} {sz : Nat} {P : Pv α} {ok : Nat → Prop} {w : World} {a : Addr} {cap : Nat} : RdX sz P ok w (.slice (some a) 0 cap) ([] : List α) := ⟨_, _, rfl, by simp, (fun h => by cases h), .inl rfl⟩
end Go.Proofs.YtijnimjmimeefaaGreat.A
namespace Go.Proofs.YtijnimjmimeefaaGreat.A
open Go.RowKit Go.Proofs.YtijnimjmimeefaaGreat.D Go.Proofs.YtijnimjmimeefaaGreat.O
theorem allB_len {α : Type} {m : Nat} {f : α → Bool} {l : List α} (h : ¬ l.length ≤ m) : allB m f l = false := by unfold allB; simp [h]
theorem allB_no {α : Type} {m : Nat} {f : α → Bool} {l : List α} {i : Nat} {x : α} (h : l[i]? = some x) (hx : f x = false) : allB m f l = false := by
 unfold allB
 rw [Bool.and_eq_false_iff]
 right
 rw [List.all_eq_false]
 exact ⟨x, List.mem_of_getElem? h, by simp [hx]⟩
theorem allB_yes {α : Type} {m : Nat} {f : α → Bool} {l : List α} (h : l.length ≤ m) (hx : ∀ i x, i < l.length → l[i]? = some x → f x = true) : allB m f l = true := by
 rw [allB_iff]
 refine ⟨h, fun x hm => ?_⟩
 obtain ⟨i, hi, rfl⟩ := List.getElem_of_mem hm
 exact hx i _ hi (List.getElem?_eq_getElem hi)
theorem allB_nil {α : Type} {m : Nat} {f : α → Bool} : allB m f ([] : List α) = true := by unfold allB; simp
theorem sP_at {α : Type} {c : α → List Value} {ok : Nat → Prop} {w : World} {b o : Nat} {x : α} (h : ∃ vs, sP c ok w vs x ∧ CellsAt w b o vs) : CellsAt w b o (c x) := by
 obtain ⟨vs, rfl, h⟩ := h
 exact h
set_option maxHeartbeats 1000000 in
set_option maxRecDepth 100000 in
theorem all_str (f : ByteArray → Bool) (m : Nat) (ok : Nat → Prop) (v : Value) (xs : List ByteArray) (w : World) (hr : RdX 1 (sP strC) ok w v xs) (hm : m ≤ 100000)
  (hf : ∀ x ∈ xs, ∀ w', Below w.heap.size w w' → Calls Tryz.prog 154 #[.string x] w' fun e w'' => e = .returned (.bool (f x)) ∧ Below w'.heap.size w' w'') :
  Calls Tryz.prog 155 #[v, .int .i64 m, .func (.func 154) #[] #[]] w fun e w' => e = .returned (.bool (allB m f xs)) ∧ Below w.heap.size w w' := by
 have HFF := Lib.hid hf
 clear hf
 obtain ⟨p, cap, rfl, hcap⟩ := hr.len
 by_cases hl : xs.length ≤ m
 ·by_cases h0 : xs = []
  ·subst h0
   clear hl hcap hr
   go_enter Tryz.func155, Tryz.ntmps155
   go_wp2_with fail
   go_loop [15] (fun i => i = .int .i64 0) (fun _ => 0)
   case atStart => exact rfl
   case round =>
    obtain rfl := hrel
    go_wp2_with fail
    go_ret
    exact ⟨D.ret_bool allB_nil.symm, Below.refl _ _⟩
  ·obtain ⟨b, off, rfl, -, -, hok, hlt, hc⟩ := hr.place h0
   have HC := Lib.hid hc
   have HL := Lib.hid hl
   have HR0 := Lib.hid hr
   have hm2 : xs.length ≤ 100000 := by omega
   have hd : decide (m < xs.length) = false := by simp; omega
   clear hc hr hcap h0
   go_enter Tryz.func155, Tryz.ntmps155
   go_wp2_with fail
   go_loopw [15] (fun i wr => ∃ k : Nat, k ≤ xs.length ∧ i = .int .i64 k ∧ (∀ j x, j < k → xs[j]? = some x → f x = true) ∧ Below w.heap.size w wr) (fun i _ => xs.length - (intOf i).toNat)
   case atStart => exact ⟨0, Nat.zero_le _, rfl, fun j x h => absurd h (Nat.not_lt_zero _), Below.refl _ _⟩
   case round =>
    obtain ⟨k, hk, rfl, hr, hbl⟩ := hrel
    have HR := Lib.hid hr
    have hsz := hbl.size
    clear hr
    by_cases hlt2 : k < xs.length
    ·obtain ⟨x, hx⟩ : ∃ x, xs[k]? = some x := ⟨_, List.getElem?_eq_getElem hlt2⟩
     have hmem := Lib.hid (List.mem_of_getElem? hx)
     have hcl := (sP_at (HC.out k x hx)).below hbl hlt
     have hc0 := hcl.one
     rw [Nat.mul_one] at hc0
     have HX := Lib.hid hx
     clear hx hcl
     go_wp2_with fail
     refine (HFF.out x hmem.out _ hbl).mono ?_
     rintro e w1 ⟨rfl, hb1⟩
     have hB : Below w.heap.size w w1 := hbl.trans (hb1.mono hsz)
     cases hfx : f x with
     | false =>
      have HF := Lib.hid (allB_no (m := m) HX.out hfx)
      go_wp2_with fail
      go_ret
      exact ⟨D.ret_bool HF.out.symm, hB⟩
     | true =>
      have HS : Hid (∀ j x, j < k + 1 → xs[j]? = some x → f x = true) := Lib.hid (by
       intro j y hj hy
       by_cases ej : j = k
       ·subst ej
        rw [HX.out] at hy
        cases hy
        exact hfx
       ·exact HR.out j y (by omega) hy)
      go_wp2_with fail
      go_roundw
      case rel => exact ⟨k + 1, by omega, by go_num, HS.out, hB⟩
      case measure => simp [intOf]; omega
    ·have HF : Hid (allB m f xs = true) := Lib.hid (allB_yes HL.out (fun i x hi hx => HR.out i x (by omega) hx))
     go_wp2_with fail
     go_ret
     exact ⟨D.ret_bool HF.out.symm, hbl⟩
 ·have HF := Lib.hid (allB_len (f := f) hl)
  have hd : decide (m < xs.length) = true := by simp; omega
  clear hr hcap
  go_enter Tryz.func155, Tryz.ntmps155
  go_wp2_with fail
  go_ret
  exact ⟨D.ret_bool HF.out.symm, Below.refl _ _⟩
set_option maxHeartbeats 1000000 in
set_option maxRecDepth 100000 in
theorem all_ty (f : Ty → Bool) (m : Nat) (ok : Nat → Prop) (v : Value) (xs : List Ty) (w : World) (hr : RdX 2 (sP tyC) ok w v xs) (hm : m ≤ 100000)
  (hf : ∀ x ∈ xs, ∀ vs w', (sP tyC) ok w' vs x → Below w.heap.size w w' → Calls Tryz.prog 188 #[.agg vs.toArray] w' fun e w'' => e = .returned (.bool (f x)) ∧ Below w'.heap.size w' w'') :
  Calls Tryz.prog 189 #[v, .int .i64 m, .func (.func 188) #[] #[]] w fun e w' => e = .returned (.bool (allB m f xs)) ∧ Below w.heap.size w w' := by
 have HFF := Lib.hid hf
 clear hf
 obtain ⟨p, cap, rfl, hcap⟩ := hr.len
 by_cases hl : xs.length ≤ m
 ·by_cases h0 : xs = []
  ·subst h0
   clear hl hcap hr
   go_enter Tryz.func189, Tryz.ntmps189
   go_wp2_with fail
   go_loop [15] (fun i => i = .int .i64 0) (fun _ => 0)
   case atStart => exact rfl
   case round =>
    obtain rfl := hrel
    go_wp2_with fail
    go_ret
    exact ⟨D.ret_bool allB_nil.symm, Below.refl _ _⟩
  ·obtain ⟨b, off, rfl, -, -, hok, hlt, hc⟩ := hr.place h0
   have HC := Lib.hid hc
   have HL := Lib.hid hl
   have HR0 := Lib.hid hr
   have hm2 : xs.length ≤ 100000 := by omega
   have hd : decide (m < xs.length) = false := by simp; omega
   clear hc hr hcap h0
   go_enter Tryz.func189, Tryz.ntmps189
   go_wp2_with fail
   go_loopw [15] (fun i wr => ∃ k : Nat, k ≤ xs.length ∧ i = .int .i64 k ∧ (∀ j x, j < k → xs[j]? = some x → f x = true) ∧ Below w.heap.size w wr) (fun i _ => xs.length - (intOf i).toNat)
   case atStart => exact ⟨0, Nat.zero_le _, rfl, fun j x h => absurd h (Nat.not_lt_zero _), Below.refl _ _⟩
   case round =>
    obtain ⟨k, hk, rfl, hr, hbl⟩ := hrel
    have HR := Lib.hid hr
    have hsz := hbl.size
    clear hr
    by_cases hlt2 : k < xs.length
    ·obtain ⟨x, hx⟩ : ∃ x, xs[k]? = some x := ⟨_, List.getElem?_eq_getElem hlt2⟩
     have hmem := Lib.hid (List.mem_of_getElem? hx)
     have hcl := (sP_at (HC.out k x hx)).below hbl hlt
     obtain ⟨s0, s1⟩ := x
     obtain ⟨hc0, hc1⟩ := CellsAt.two hcl
     have HX := Lib.hid hx
     clear hx hcl
     go_wp2_with fail
     refine (HFF.out _ hmem.out _ _ rfl (hbl.alloc hsz _)).mono ?_
     rintro e w1 ⟨rfl, hb1⟩
     have hB : Below w.heap.size w w1 := (hbl.alloc hsz _).trans (hb1.mono (by simp; omega))
     cases hfx : f (s0, s1) with
     | false =>
      have HF := Lib.hid (allB_no (m := m) HX.out hfx)
      go_wp2_with fail
      go_ret
      exact ⟨D.ret_bool HF.out.symm, hB⟩
     | true =>
      have HS : Hid (∀ j x, j < k + 1 → xs[j]? = some x → f x = true) := Lib.hid (by
       intro j y hj hy
       by_cases ej : j = k
       ·subst ej
        rw [HX.out] at hy
        cases hy
        exact hfx
       ·exact HR.out j y (by omega) hy)
      go_wp2_with fail
      go_roundw
      case rel => exact ⟨k + 1, by omega, by go_num, HS.out, hB⟩
      case measure => simp [intOf]; omega
    ·have HF : Hid (allB m f xs = true) := Lib.hid (allB_yes HL.out (fun i x hi hx => HR.out i x (by omega) hx))
     go_wp2_with fail
     go_ret
     exact ⟨D.ret_bool HF.out.symm, hbl⟩
 ·have HF := Lib.hid (allB_len (f := f) hl)
  have hd : decide (m < xs.length) = true := by simp; omega
  clear hr hcap
  go_enter Tryz.func189, Tryz.ntmps189
  go_wp2_with fail
  go_ret
  exact ⟨D.ret_bool HF.out.symm, Below.refl _ _⟩
set_option maxHeartbeats 1000000 in
set_option maxRecDepth 100000 in
theorem all_ins (f : Ins → Bool) (m : Nat) (ok : Nat → Prop) (v : Value) (xs : List Ins) (w : World) (hr : RdX 7 (sP insC) ok w v xs) (hm : m ≤ 100000)
  (hf : ∀ x ∈ xs, ∀ vs w', (sP insC) ok w' vs x → Below w.heap.size w w' → Calls Tryz.prog 193 #[.agg vs.toArray] w' fun e w'' => e = .returned (.bool (f x)) ∧ Below w'.heap.size w' w'') :
  Calls Tryz.prog 192 #[v, .int .i64 m, .func (.func 193) #[] #[]] w fun e w' => e = .returned (.bool (allB m f xs)) ∧ Below w.heap.size w w' := by
 have HFF := Lib.hid hf
 clear hf
 obtain ⟨p, cap, rfl, hcap⟩ := hr.len
 by_cases hl : xs.length ≤ m
 ·by_cases h0 : xs = []
  ·subst h0
   clear hl hcap hr
   go_enter Tryz.func192, Tryz.ntmps192
   go_wp2_with fail
   go_loop [15] (fun i => i = .int .i64 0) (fun _ => 0)
   case atStart => exact rfl
   case round =>
    obtain rfl := hrel
    go_wp2_with fail
    go_ret
    exact ⟨D.ret_bool allB_nil.symm, Below.refl _ _⟩
  ·obtain ⟨b, off, rfl, -, -, hok, hlt, hc⟩ := hr.place h0
   have HC := Lib.hid hc
   have HL := Lib.hid hl
   have HR0 := Lib.hid hr
   have hm2 : xs.length ≤ 100000 := by omega
   have hd : decide (m < xs.length) = false := by simp; omega
   clear hc hr hcap h0
   go_enter Tryz.func192, Tryz.ntmps192
   go_wp2_with fail
   go_loopw [15] (fun i wr => ∃ k : Nat, k ≤ xs.length ∧ i = .int .i64 k ∧ (∀ j x, j < k → xs[j]? = some x → f x = true) ∧ Below w.heap.size w wr) (fun i _ => xs.length - (intOf i).toNat)
   case atStart => exact ⟨0, Nat.zero_le _, rfl, fun j x h => absurd h (Nat.not_lt_zero _), Below.refl _ _⟩
   case round =>
    obtain ⟨k, hk, rfl, hr, hbl⟩ := hrel
    have HR := Lib.hid hr
    have hsz := hbl.size
    clear hr
    by_cases hlt2 : k < xs.length
    ·obtain ⟨x, hx⟩ : ∃ x, xs[k]? = some x := ⟨_, List.getElem?_eq_getElem hlt2⟩
     have hmem := Lib.hid (List.mem_of_getElem? hx)
     have hcl := (sP_at (HC.out k x hx)).below hbl hlt
     obtain ⟨s0, s1, s2, s3, s4, s5, s6⟩ := x
     obtain ⟨hc0, hc1, hc2, hc3, hc4, hc5, hc6⟩ := CellsAt.seven hcl
     have HX := Lib.hid hx
     clear hx hcl
     go_wp2_with fail
     refine (HFF.out _ hmem.out _ _ rfl (hbl.alloc hsz _)).mono ?_
     rintro e w1 ⟨rfl, hb1⟩
     have hB : Below w.heap.size w w1 := (hbl.alloc hsz _).trans (hb1.mono (by simp; omega))
     cases hfx : f (s0, s1, s2, s3, s4, s5, s6) with
     | false =>
      have HF := Lib.hid (allB_no (m := m) HX.out hfx)
      go_wp2_with fail
      go_ret
      exact ⟨D.ret_bool HF.out.symm, hB⟩
     | true =>
      have HS : Hid (∀ j x, j < k + 1 → xs[j]? = some x → f x = true) := Lib.hid (by
       intro j y hj hy
       by_cases ej : j = k
       ·subst ej
        rw [HX.out] at hy
        cases hy
        exact hfx
       ·exact HR.out j y (by omega) hy)
      go_wp2_with fail
      go_roundw
      case rel => exact ⟨k + 1, by omega, by go_num, HS.out, hB⟩
      case measure => simp [intOf]; omega
    ·have HF : Hid (allB m f xs = true) := Lib.hid (allB_yes HL.out (fun i x hi hx => HR.out i x (by omega) hx))
     go_wp2_with fail
     go_ret
     exact ⟨D.ret_bool HF.out.symm, hbl⟩
 ·have HF := Lib.hid (allB_len (f := f) hl)
  have hd : decide (m < xs.length) = true := by simp; omega
  clear hr hcap
  go_enter Tryz.func192, Tryz.ntmps192
  go_wp2_with fail
  go_ret
  exact ⟨D.ret_bool HF.out.symm, Below.refl _ _⟩
set_option maxHeartbeats 1000000 in
set_option maxRecDepth 100000 in
theorem all_hnd (f : Hnd → Bool) (m : Nat) (ok : Nat → Prop) (v : Value) (xs : List Hnd) (w : World) (hr : RdX 4 (sP hndC) ok w v xs) (hm : m ≤ 100000)
  (hf : ∀ x ∈ xs, ∀ vs w', (sP hndC) ok w' vs x → Below w.heap.size w w' → Calls Tryz.prog 195 #[.agg vs.toArray] w' fun e w'' => e = .returned (.bool (f x)) ∧ Below w'.heap.size w' w'') :
  Calls Tryz.prog 194 #[v, .int .i64 m, .func (.func 195) #[] #[]] w fun e w' => e = .returned (.bool (allB m f xs)) ∧ Below w.heap.size w w' := by
 have HFF := Lib.hid hf
 clear hf
 obtain ⟨p, cap, rfl, hcap⟩ := hr.len
 by_cases hl : xs.length ≤ m
 ·by_cases h0 : xs = []
  ·subst h0
   clear hl hcap hr
   go_enter Tryz.func194, Tryz.ntmps194
   go_wp2_with fail
   go_loop [15] (fun i => i = .int .i64 0) (fun _ => 0)
   case atStart => exact rfl
   case round =>
    obtain rfl := hrel
    go_wp2_with fail
    go_ret
    exact ⟨D.ret_bool allB_nil.symm, Below.refl _ _⟩
  ·obtain ⟨b, off, rfl, -, -, hok, hlt, hc⟩ := hr.place h0
   have HC := Lib.hid hc
   have HL := Lib.hid hl
   have HR0 := Lib.hid hr
   have hm2 : xs.length ≤ 100000 := by omega
   have hd : decide (m < xs.length) = false := by simp; omega
   clear hc hr hcap h0
   go_enter Tryz.func194, Tryz.ntmps194
   go_wp2_with fail
   go_loopw [15] (fun i wr => ∃ k : Nat, k ≤ xs.length ∧ i = .int .i64 k ∧ (∀ j x, j < k → xs[j]? = some x → f x = true) ∧ Below w.heap.size w wr) (fun i _ => xs.length - (intOf i).toNat)
   case atStart => exact ⟨0, Nat.zero_le _, rfl, fun j x h => absurd h (Nat.not_lt_zero _), Below.refl _ _⟩
   case round =>
    obtain ⟨k, hk, rfl, hr, hbl⟩ := hrel
    have HR := Lib.hid hr
    have hsz := hbl.size
    clear hr
    by_cases hlt2 : k < xs.length
    ·obtain ⟨x, hx⟩ : ∃ x, xs[k]? = some x := ⟨_, List.getElem?_eq_getElem hlt2⟩
     have hmem := Lib.hid (List.mem_of_getElem? hx)
     have hcl := (sP_at (HC.out k x hx)).below hbl hlt
     obtain ⟨s0, s1, s2, s3⟩ := x
     obtain ⟨hc0, hc1, hc2, hc3⟩ := CellsAt.four hcl
     have HX := Lib.hid hx
     clear hx hcl
     go_wp2_with fail
     refine (HFF.out _ hmem.out _ _ rfl (hbl.alloc hsz _)).mono ?_
     rintro e w1 ⟨rfl, hb1⟩
     have hB : Below w.heap.size w w1 := (hbl.alloc hsz _).trans (hb1.mono (by simp; omega))
     cases hfx : f (s0, s1, s2, s3) with
     | false =>
      have HF := Lib.hid (allB_no (m := m) HX.out hfx)
      go_wp2_with fail
      go_ret
      exact ⟨D.ret_bool HF.out.symm, hB⟩
     | true =>
      have HS : Hid (∀ j x, j < k + 1 → xs[j]? = some x → f x = true) := Lib.hid (by
       intro j y hj hy
       by_cases ej : j = k
       ·subst ej
        rw [HX.out] at hy
        cases hy
        exact hfx
       ·exact HR.out j y (by omega) hy)
      go_wp2_with fail
      go_roundw
      case rel => exact ⟨k + 1, by omega, by go_num, HS.out, hB⟩
      case measure => simp [intOf]; omega
    ·have HF : Hid (allB m f xs = true) := Lib.hid (allB_yes HL.out (fun i x hi hx => HR.out i x (by omega) hx))
     go_wp2_with fail
     go_ret
     exact ⟨D.ret_bool HF.out.symm, hbl⟩
 ·have HF := Lib.hid (allB_len (f := f) hl)
  have hd : decide (m < xs.length) = true := by simp; omega
  clear hr hcap
  go_enter Tryz.func194, Tryz.ntmps194
  go_wp2_with fail
  go_ret
  exact ⟨D.ret_bool HF.out.symm, Below.refl _ _⟩
set_option maxHeartbeats 1000000 in
set_option maxRecDepth 100000 in
theorem all_fld (f : Fld → Bool) (m : Nat) (ok : Nat → Prop) (v : Value) (xs : List Fld) (w : World) (hr : RdX 4 (sP fldC) ok w v xs) (hm : m ≤ 100000)
  (hf : ∀ x ∈ xs, ∀ vs w', (sP fldC) ok w' vs x → Below w.heap.size w w' → Calls Tryz.prog 157 #[.agg vs.toArray] w' fun e w'' => e = .returned (.bool (f x)) ∧ Below w'.heap.size w' w'') :
  Calls Tryz.prog 156 #[v, .int .i64 m, .func (.func 157) #[] #[]] w fun e w' => e = .returned (.bool (allB m f xs)) ∧ Below w.heap.size w w' := by
 have HFF := Lib.hid hf
 clear hf
 obtain ⟨p, cap, rfl, hcap⟩ := hr.len
 by_cases hl : xs.length ≤ m
 ·by_cases h0 : xs = []
  ·subst h0
   clear hl hcap hr
   go_enter Tryz.func156, Tryz.ntmps156
   go_wp2_with fail
   go_loop [15] (fun i => i = .int .i64 0) (fun _ => 0)
   case atStart => exact rfl
   case round =>
    obtain rfl := hrel
    go_wp2_with fail
    go_ret
    exact ⟨D.ret_bool allB_nil.symm, Below.refl _ _⟩
  ·obtain ⟨b, off, rfl, -, -, hok, hlt, hc⟩ := hr.place h0
   have HC := Lib.hid hc
   have HL := Lib.hid hl
   have HR0 := Lib.hid hr
   have hm2 : xs.length ≤ 100000 := by omega
   have hd : decide (m < xs.length) = false := by simp; omega
   clear hc hr hcap h0
   go_enter Tryz.func156, Tryz.ntmps156
   go_wp2_with fail
   go_loopw [15] (fun i wr => ∃ k : Nat, k ≤ xs.length ∧ i = .int .i64 k ∧ (∀ j x, j < k → xs[j]? = some x → f x = true) ∧ Below w.heap.size w wr) (fun i _ => xs.length - (intOf i).toNat)
   case atStart => exact ⟨0, Nat.zero_le _, rfl, fun j x h => absurd h (Nat.not_lt_zero _), Below.refl _ _⟩
   case round =>
    obtain ⟨k, hk, rfl, hr, hbl⟩ := hrel
    have HR := Lib.hid hr
    have hsz := hbl.size
    clear hr
    by_cases hlt2 : k < xs.length
    ·obtain ⟨x, hx⟩ : ∃ x, xs[k]? = some x := ⟨_, List.getElem?_eq_getElem hlt2⟩
     have hmem := Lib.hid (List.mem_of_getElem? hx)
     have hcl := (sP_at (HC.out k x hx)).below hbl hlt
     obtain ⟨s0, ⟨s1, s2⟩, s3⟩ := x
     obtain ⟨hc0, hc1, hc2, hc3⟩ := CellsAt.four hcl
     have HX := Lib.hid hx
     clear hx hcl
     go_wp2_with fail
     refine (HFF.out _ hmem.out _ _ rfl (hbl.alloc hsz _)).mono ?_
     rintro e w1 ⟨rfl, hb1⟩
     have hB : Below w.heap.size w w1 := (hbl.alloc hsz _).trans (hb1.mono (by simp; omega))
     cases hfx : f (s0, (s1, s2), s3) with
     | false =>
      have HF := Lib.hid (allB_no (m := m) HX.out hfx)
      go_wp2_with fail
      go_ret
      exact ⟨D.ret_bool HF.out.symm, hB⟩
     | true =>
      have HS : Hid (∀ j x, j < k + 1 → xs[j]? = some x → f x = true) := Lib.hid (by
       intro j y hj hy
       by_cases ej : j = k
       ·subst ej
        rw [HX.out] at hy
        cases hy
        exact hfx
       ·exact HR.out j y (by omega) hy)
      go_wp2_with fail
      go_roundw
      case rel => exact ⟨k + 1, by omega, by go_num, HS.out, hB⟩
      case measure => simp [intOf]; omega
    ·have HF : Hid (allB m f xs = true) := Lib.hid (allB_yes HL.out (fun i x hi hx => HR.out i x (by omega) hx))
     go_wp2_with fail
     go_ret
     exact ⟨D.ret_bool HF.out.symm, hbl⟩
 ·have HF := Lib.hid (allB_len (f := f) hl)
  have hd : decide (m < xs.length) = true := by simp; omega
  clear hr hcap
  go_enter Tryz.func156, Tryz.ntmps156
  go_wp2_with fail
  go_ret
  exact ⟨D.ret_bool HF.out.symm, Below.refl _ _⟩
set_option maxHeartbeats 1000000 in
set_option maxRecDepth 100000 in
theorem all_mth (f : Mth → Bool) (m : Nat) (ok : Nat → Prop) (v : Value) (xs : List Mth) (w : World) (hr : RdX 9 mP ok w v xs) (hm : m ≤ 100000)
  (hf : ∀ x ∈ xs, ∀ vs w', mP ok w' vs x → Below w.heap.size w w' → Calls Tryz.prog 159 #[.agg vs.toArray] w' fun e w'' => e = .returned (.bool (f x)) ∧ Below w'.heap.size w' w'') :
  Calls Tryz.prog 158 #[v, .int .i64 m, .func (.func 159) #[] #[]] w fun e w' => e = .returned (.bool (allB m f xs)) ∧ Below w.heap.size w w' := by
 have HFF := Lib.hid hf
 clear hf
 obtain ⟨p, cap, rfl, hcap⟩ := hr.len
 by_cases hl : xs.length ≤ m
 ·by_cases h0 : xs = []
  ·subst h0
   clear hl hcap hr
   go_enter Tryz.func158, Tryz.ntmps158
   go_wp2_with fail
   go_loop [15] (fun i => i = .int .i64 0) (fun _ => 0)
   case atStart => exact rfl
   case round =>
    obtain rfl := hrel
    go_wp2_with fail
    go_ret
    exact ⟨D.ret_bool allB_nil.symm, Below.refl _ _⟩
  ·obtain ⟨b, off, rfl, -, -, hok, hlt, hc⟩ := hr.place h0
   have HC := Lib.hid hc
   have HL := Lib.hid hl
   have HR0 := Lib.hid hr
   have hm2 : xs.length ≤ 100000 := by omega
   have hd : decide (m < xs.length) = false := by simp; omega
   clear hc hr hcap h0
   go_enter Tryz.func158, Tryz.ntmps158
   go_wp2_with fail
   go_loopw [15] (fun i wr => ∃ k : Nat, k ≤ xs.length ∧ i = .int .i64 k ∧ (∀ j x, j < k → xs[j]? = some x → f x = true) ∧ Below w.heap.size w wr) (fun i _ => xs.length - (intOf i).toNat)
   case atStart => exact ⟨0, Nat.zero_le _, rfl, fun j x h => absurd h (Nat.not_lt_zero _), Below.refl _ _⟩
   case round =>
    obtain ⟨k, hk, rfl, hr, hbl⟩ := hrel
    have HR := Lib.hid hr
    have hsz := hbl.size
    clear hr
    by_cases hlt2 : k < xs.length
    ·obtain ⟨x, hx⟩ : ∃ x, xs[k]? = some x := ⟨_, List.getElem?_eq_getElem hlt2⟩
     have hmem := Lib.hid (List.mem_of_getElem? hx)
     obtain ⟨vs, hv, hcl⟩ := HC.out k x hx
     have hv' := hv
     obtain ⟨vp, vc, vh, rfl, hd0, hd1, hd2⟩ := hv'
     have hcl2 := CellsAt.nine (hcl.below hbl hlt)
     obtain ⟨hc0, hc1, hc2, hc3, hc4, hc5, hc6, hc7, hc8⟩ := hcl2
     obtain ⟨pvp, cvp, rfl, -⟩ := hd0.len
     obtain ⟨pvc, cvc, rfl, -⟩ := hd1.len
     obtain ⟨pvh, cvh, rfl, -⟩ := hd2.len
     have HV := Lib.hid hv
     have HX := Lib.hid hx
     clear hx hcl hv hd0 hd1 hd2
     go_wp2_with fail
     refine (HFF.out x hmem.out _ _ (mP.grow _ _ _ _ _ _ HV.out (fun _ h _ => h) (.of_below (hbl.trans ((Below.refl _ _).alloc hsz _))) (by simp; omega)) (hbl.alloc hsz _)).mono ?_
     rintro e w1 ⟨rfl, hb1⟩
     have hB : Below w.heap.size w w1 := (hbl.alloc hsz _).trans (hb1.mono (by simp; omega))
     cases hfx : f x with
     | false =>
      have HF := Lib.hid (allB_no (m := m) HX.out hfx)
      go_wp2_with fail
      go_ret
      exact ⟨D.ret_bool HF.out.symm, hB⟩
     | true =>
      have HS : Hid (∀ j x, j < k + 1 → xs[j]? = some x → f x = true) := Lib.hid (by
       intro j y hj hy
       by_cases ej : j = k
       ·subst ej
        rw [HX.out] at hy
        cases hy
        exact hfx
       ·exact HR.out j y (by omega) hy)
      go_wp2_with fail
      go_roundw
      case rel => exact ⟨k + 1, by omega, by go_num, HS.out, hB⟩
      case measure => simp [intOf]; omega
    ·have HF : Hid (allB m f xs = true) := Lib.hid (allB_yes HL.out (fun i x hi hx => HR.out i x (by omega) hx))
     go_wp2_with fail
     go_ret
     exact ⟨D.ret_bool HF.out.symm, hbl⟩
 ·have HF := Lib.hid (allB_len (f := f) hl)
  have hd : decide (m < xs.length) = true := by simp; omega
  clear hr hcap
  go_enter Tryz.func158, Tryz.ntmps158
  go_wp2_with fail
  go_ret
  exact ⟨D.ret_bool HF.out.symm, Below.refl _ _⟩
set_option maxHeartbeats 1000000 in
set_option maxRecDepth 100000 in
theorem all_cls (f : Cls → Bool) (m : Nat) (ok : Nat → Prop) (v : Value) (xs : List Cls) (w : World) (hr : RdX 6 cP ok w v xs) (hm : m ≤ 100000)
  (hf : ∀ x ∈ xs, ∀ vs w', cP ok w' vs x → Below w.heap.size w w' → Calls Tryz.prog 112 #[.agg vs.toArray] w' fun e w'' => e = .returned (.bool (f x)) ∧ Below w'.heap.size w' w'') :
  Calls Tryz.prog 111 #[v, .int .i64 m, .func (.func 112) #[] #[]] w fun e w' => e = .returned (.bool (allB m f xs)) ∧ Below w.heap.size w w' := by
 have HFF := Lib.hid hf
 clear hf
 obtain ⟨p, cap, rfl, hcap⟩ := hr.len
 by_cases hl : xs.length ≤ m
 ·by_cases h0 : xs = []
  ·subst h0
   clear hl hcap hr
   go_enter Tryz.func111, Tryz.ntmps111
   go_wp2_with fail
   go_loop [15] (fun i => i = .int .i64 0) (fun _ => 0)
   case atStart => exact rfl
   case round =>
    obtain rfl := hrel
    go_wp2_with fail
    go_ret
    exact ⟨D.ret_bool allB_nil.symm, Below.refl _ _⟩
  ·obtain ⟨b, off, rfl, -, -, hok, hlt, hc⟩ := hr.place h0
   have HC := Lib.hid hc
   have HL := Lib.hid hl
   have HR0 := Lib.hid hr
   have hm2 : xs.length ≤ 100000 := by omega
   have hd : decide (m < xs.length) = false := by simp; omega
   clear hc hr hcap h0
   go_enter Tryz.func111, Tryz.ntmps111
   go_wp2_with fail
   go_loopw [15] (fun i wr => ∃ k : Nat, k ≤ xs.length ∧ i = .int .i64 k ∧ (∀ j x, j < k → xs[j]? = some x → f x = true) ∧ Below w.heap.size w wr) (fun i _ => xs.length - (intOf i).toNat)
   case atStart => exact ⟨0, Nat.zero_le _, rfl, fun j x h => absurd h (Nat.not_lt_zero _), Below.refl _ _⟩
   case round =>
    obtain ⟨k, hk, rfl, hr, hbl⟩ := hrel
    have HR := Lib.hid hr
    have hsz := hbl.size
    clear hr
    by_cases hlt2 : k < xs.length
    ·obtain ⟨x, hx⟩ : ∃ x, xs[k]? = some x := ⟨_, List.getElem?_eq_getElem hlt2⟩
     have hmem := Lib.hid (List.mem_of_getElem? hx)
     obtain ⟨vs, hv, hcl⟩ := HC.out k x hx
     have hv' := hv
     obtain ⟨vi, vf, vm, rfl, hd0, hd1, hd2⟩ := hv'
     have hcl2 := CellsAt.six (hcl.below hbl hlt)
     obtain ⟨hc0, hc1, hc2, hc3, hc4, hc5⟩ := hcl2
     obtain ⟨pvi, cvi, rfl, -⟩ := hd0.len
     obtain ⟨pvf, cvf, rfl, -⟩ := hd1.len
     obtain ⟨pvm, cvm, rfl, -⟩ := hd2.len
     have HV := Lib.hid hv
     have HX := Lib.hid hx
     clear hx hcl hv hd0 hd1 hd2
     go_wp2_with fail
     refine (HFF.out x hmem.out _ _ (cP.grow _ _ _ _ _ _ HV.out (fun _ h _ => h) (.of_below (hbl.trans ((Below.refl _ _).alloc hsz _))) (by simp; omega)) (hbl.alloc hsz _)).mono ?_
     rintro e w1 ⟨rfl, hb1⟩
     have hB : Below w.heap.size w w1 := (hbl.alloc hsz _).trans (hb1.mono (by simp; omega))
     cases hfx : f x with
     | false =>
      have HF := Lib.hid (allB_no (m := m) HX.out hfx)
      go_wp2_with fail
      go_ret
      exact ⟨D.ret_bool HF.out.symm, hB⟩
     | true =>
      have HS : Hid (∀ j x, j < k + 1 → xs[j]? = some x → f x = true) := Lib.hid (by
       intro j y hj hy
       by_cases ej : j = k
       ·subst ej
        rw [HX.out] at hy
        cases hy
        exact hfx
       ·exact HR.out j y (by omega) hy)
      go_wp2_with fail
      go_roundw
      case rel => exact ⟨k + 1, by omega, by go_num, HS.out, hB⟩
      case measure => simp [intOf]; omega
    ·have HF : Hid (allB m f xs = true) := Lib.hid (allB_yes HL.out (fun i x hi hx => HR.out i x (by omega) hx))
     go_wp2_with fail
     go_ret
     exact ⟨D.ret_bool HF.out.symm, hbl⟩
 ·have HF := Lib.hid (allB_len (f := f) hl)
  have hd : decide (m < xs.length) = true := by simp; omega
  clear hr hcap
  go_enter Tryz.func111, Tryz.ntmps111
  go_wp2_with fail
  go_ret
  exact ⟨D.ret_bool HF.out.symm, Below.refl _ _⟩
end Go.Proofs.YtijnimjmimeefaaGreat.A
namespace Go.Proofs.YtijnimjmimeefaaGreat.A
open Go.RowKit Go.Proofs.YtijnimjmimeefaaGreat.D Go.Proofs.YtijnimjmimeefaaGreat.O
def szI (x : Ins) : Prop := x.2.2.2.1.size ≤ 100000 ∧ x.2.2.2.2.1.size ≤ 100000 ∧ x.2.2.2.2.2.1.size ≤ 100000 ∧ x.2.2.2.2.2.2.size ≤ 100000
def szM (m : Mth) : Prop := m.name.size ≤ 100000 ∧ (∀ t ∈ m.params, t.2.size ≤ 100000) ∧ m.ret.2.size ≤ 100000 ∧ (∀ x ∈ m.code, szI x) ∧ ∀ h ∈ m.hs, h.2.2.2.size ≤ 100000
def szC (c : Cls) : Prop := c.name.size ≤ 100000 ∧ c.super.size ≤ 100000 ∧ (∀ s ∈ c.ifaces, s.size ≤ 100000) ∧ (∀ f ∈ c.fields, f.1.size ≤ 100000 ∧ f.2.1.2.size ≤ 100000) ∧ ∀ m ∈ c.methods, szM m
def szA (a : Arch) : Prop := ∀ c ∈ a, szC c
theorem max_of {n : Nat} (h : n ≤ 100000) : n ≤ maxLen := by unfold maxLen; omega
theorem name_hf (s : ByteArray) (w : World) (hs : s.size ≤ 100000) : Calls Tryz.prog 154 #[.string s] w fun e w' => e = .returned (.bool (nameB s)) ∧ Below w.heap.size w w' :=
 (name_any s w (max_of hs)).mono fun _ _ ⟨he, hw⟩ => ⟨he, hw ▸ Below.refl _ _⟩
theorem boxed {w w1 : World} {vs : List Value} {T : TypeId} (hb : Below (w.alloc (.cells vs.toArray T)).heap.size (w.alloc (.cells vs.toArray T)) w1) :
  CellsAt w1 w.heap.size 0 vs ∧ w.heap.size < w1.heap.size ∧ Below w.heap.size w w1 := by
 have hs := hb.size
 simp at hs
 refine ⟨fun j u hu => ?_, by omega, ((Below.refl _ w).alloc (Nat.le_refl _) _).trans (hb.mono (by simp))⟩
 rw [hb.cell (p := ⟨w.heap.size, 0 + j, none⟩) (by simp), Nat.zero_add]
 simp [hu]
theorem boxed_next {w w1 w2 : World} {b : Nat} {vs : List Value} (h : CellsAt w1 b 0 vs ∧ b < w1.heap.size ∧ Below w.heap.size w w1) (hb : Below w1.heap.size w1 w2) (hw : w.heap.size ≤ w1.heap.size) :
  CellsAt w2 b 0 vs ∧ b < w2.heap.size ∧ Below w.heap.size w w2 := ⟨h.1.below hb h.2.1, Nat.lt_of_lt_of_le h.2.1 hb.size, h.2.2.trans (hb.mono hw)⟩
theorem z2 {w : World} {b : Nat} {v0 v1 : Value} (h : CellsAt w b 0 [v0, v1]) : w.cell? ⟨b, 0, none⟩ = some v0 ∧ w.cell? ⟨b, 1, none⟩ = some v1 := h.two
theorem z4 {w : World} {b : Nat} {v0 v1 v2 v3 : Value} (h : CellsAt w b 0 [v0, v1, v2, v3]) : w.cell? ⟨b, 0, none⟩ = some v0 ∧ w.cell? ⟨b, 1, none⟩ = some v1 ∧ w.cell? ⟨b, 2, none⟩ = some v2 ∧ w.cell? ⟨b, 3, none⟩ = some v3 := h.four
theorem z6 {w : World} {b : Nat} {v0 v1 v2 v3 v4 v5 : Value} (h : CellsAt w b 0 [v0, v1, v2, v3, v4, v5]) : w.cell? ⟨b, 0, none⟩ = some v0 ∧ w.cell? ⟨b, 1, none⟩ = some v1 ∧ w.cell? ⟨b, 2, none⟩ = some v2 ∧ w.cell? ⟨b, 3, none⟩ = some v3 ∧ w.cell? ⟨b, 4, none⟩ = some v4 ∧ w.cell? ⟨b, 5, none⟩ = some v5 := h.six
theorem z9 {w : World} {b : Nat} {v0 v1 v2 v3 v4 v5 v6 v7 v8 : Value} (h : CellsAt w b 0 [v0, v1, v2, v3, v4, v5, v6, v7, v8]) : w.cell? ⟨b, 0, none⟩ = some v0 ∧ w.cell? ⟨b, 1, none⟩ = some v1 ∧ w.cell? ⟨b, 2, none⟩ = some v2 ∧ w.cell? ⟨b, 3, none⟩ = some v3 ∧ w.cell? ⟨b, 4, none⟩ = some v4 ∧ w.cell? ⟨b, 5, none⟩ = some v5 ∧ w.cell? ⟨b, 6, none⟩ = some v6 ∧ w.cell? ⟨b, 7, none⟩ = some v7 ∧ w.cell? ⟨b, 8, none⟩ = some v8 := h.nine
theorem upTo_any (n m : Int) (w : World) : Calls Tryz.prog 191 #[.int .i64 n, .int .i64 m] w fun e w' => e = .returned (.bool (upToB n m)) ∧ w = w' := by
 go_enter Tryz.func191, Tryz.ntmps191
 go_wp2
 all_goals go_ret
 all_goals refine ⟨D.ret_bool ?_, rfl⟩
 all_goals (rw [Bool.eq_iff_iff]; simp [upToB]; try omega)
set_option maxHeartbeats 1000000 in
set_option maxRecDepth 100000 in
theorem holds_any (k : Int) (c : ByteArray) (w : World) (hc : c.size ≤ 100000) :
  Calls Tryz.prog 188 #[.agg #[.int .i64 k, .string c]] w fun e w' => e = .returned (.bool (holdsB (k, c))) ∧ Below w.heap.size w w' := by
 cases h0 : rightB k c with
 | false =>
  have HF : Hid (holdsB (k, c) = false) := Lib.hid (by show (rightB k c && (k != 5)) = _; simp [h0])
  go_enter Tryz.func188, Tryz.ntmps188
  go_wp2_with fail
  refine (D.right_any k c _ (by omega)).mono ?_
  rintro e w1 ⟨rfl, hb1⟩
  have hx1 := boxed (vs := [.int .i64 k, .string c]) hb1
  obtain ⟨q1_0, q1_1⟩ := z2 hx1.1
  have hB := hx1.2.2
  have hlt1 := hx1.2.1
  go_wp2_with fail
  go_ret
  exact ⟨D.ret_bool HF.out.symm, hB⟩
 | true =>
  cases h1 : k != 5 with
  | false =>
   have HF : Hid (holdsB (k, c) = false) := Lib.hid (by show (rightB k c && (k != 5)) = _; simp [h1])
   go_enter Tryz.func188, Tryz.ntmps188
   go_wp2_with fail
   refine (D.right_any k c _ (by omega)).mono ?_
   rintro e w1 ⟨rfl, hb1⟩
   have hx1 := boxed (vs := [.int .i64 k, .string c]) hb1
   obtain ⟨q1_0, q1_1⟩ := z2 hx1.1
   have hB := hx1.2.2
   have hlt1 := hx1.2.1
   go_wp2_with fail
   go_ret
   exact ⟨D.ret_bool HF.out.symm, hB⟩
  | true =>
   have HF : Hid (holdsB (k, c) = true) := Lib.hid (by show (rightB k c && (k != 5)) = _; simp [h0, h1])
   go_enter Tryz.func188, Tryz.ntmps188
   go_wp2_with fail
   refine (D.right_any k c _ (by omega)).mono ?_
   rintro e w1 ⟨rfl, hb1⟩
   have hx1 := boxed (vs := [.int .i64 k, .string c]) hb1
   obtain ⟨q1_0, q1_1⟩ := z2 hx1.1
   have hB := hx1.2.2
   have hlt1 := hx1.2.1
   go_wp2_with fail
   go_ret
   exact ⟨D.ret_bool HF.out.symm, hB⟩
set_option maxHeartbeats 1000000 in
set_option maxRecDepth 100000 in
theorem formedField_any (n : ByteArray) (k : Int) (c : ByteArray) (s : Bool) (w : World) (hn : n.size ≤ 100000) (hc : c.size ≤ 100000) :
  Calls Tryz.prog 157 #[.agg #[.string n, .int .i64 k, .string c, .bool s]] w fun e w' => e = .returned (.bool (fldB (n, (k, c), s))) ∧ Below w.heap.size w w' := by
 cases h0 : nameB n with
 | false =>
  have HF : Hid (fldB (n, (k, c), s) = false) := Lib.hid (by unfold fldB; simp [h0])
  go_enter Tryz.func157, Tryz.ntmps157
  go_wp2_with fail
  refine (name_any n _ (max_of hn)).mono ?_
  rintro e w' ⟨rfl, rfl⟩
  go_wp2_with fail
  go_ret
  exact ⟨D.ret_bool HF.out.symm, (Below.refl _ _).alloc (Nat.le_refl _) _⟩
 | true =>
  cases h1 : holdsB (k, c) with
  | false =>
   have HF : Hid (fldB (n, (k, c), s) = false) := Lib.hid (by unfold fldB; simp [h1])
   go_enter Tryz.func157, Tryz.ntmps157
   go_wp2_with fail
   refine (name_any n _ (max_of hn)).mono ?_
   rintro e w' ⟨rfl, rfl⟩
   go_wp2_with fail
   refine (holds_any k c _ hc).mono ?_
   rintro e w1 ⟨rfl, hb1⟩
   have hx1 := boxed (vs := [.string n, .int .i64 k, .string c, .bool s]) hb1
   obtain ⟨q1_0, q1_1, q1_2, q1_3⟩ := z4 hx1.1
   have hB := hx1.2.2
   have hlt1 := hx1.2.1
   go_wp2_with fail
   go_ret
   exact ⟨D.ret_bool HF.out.symm, hB⟩
  | true =>
   have HF : Hid (fldB (n, (k, c), s) = true) := Lib.hid (by unfold fldB; simp [h0, h1])
   go_enter Tryz.func157, Tryz.ntmps157
   go_wp2_with fail
   refine (name_any n _ (max_of hn)).mono ?_
   rintro e w' ⟨rfl, rfl⟩
   go_wp2_with fail
   refine (holds_any k c _ hc).mono ?_
   rintro e w1 ⟨rfl, hb1⟩
   have hx1 := boxed (vs := [.string n, .int .i64 k, .string c, .bool s]) hb1
   obtain ⟨q1_0, q1_1, q1_2, q1_3⟩ := z4 hx1.1
   have hB := hx1.2.2
   have hlt1 := hx1.2.1
   go_wp2_with fail
   go_ret
   exact ⟨D.ret_bool HF.out.symm, hB⟩
set_option maxHeartbeats 1000000 in
set_option maxRecDepth 100000 in
theorem formedHandler_any (f t a : Int) (c : ByteArray) (w : World) (hc : c.size ≤ 100000) :
  Calls Tryz.prog 195 #[.agg #[.int .i64 f, .int .i64 t, .int .i64 a, .string c]] w fun e w' => e = .returned (.bool (hndB (f, t, a, c))) ∧ Below w.heap.size w w' := by
 cases h0 : upToB f 2000 with
 | false =>
  have HF : Hid (hndB (f, t, a, c) = false) := Lib.hid (by unfold hndB; simp [h0])
  go_enter Tryz.func195, Tryz.ntmps195
  go_wp2_with fail
  refine (upTo_any f 2000 _).mono ?_
  rintro e w' ⟨rfl, rfl⟩
  go_wp2_with fail
  go_ret
  exact ⟨D.ret_bool HF.out.symm, (Below.refl _ _).alloc (Nat.le_refl _) _⟩
 | true =>
  cases h1 : upToB t 2000 with
  | false =>
   have HF : Hid (hndB (f, t, a, c) = false) := Lib.hid (by unfold hndB; simp [h1])
   go_enter Tryz.func195, Tryz.ntmps195
   go_wp2_with fail
   refine (upTo_any f 2000 _).mono ?_
   rintro e w' ⟨rfl, rfl⟩
   go_wp2_with fail
   refine (upTo_any t 2000 _).mono ?_
   rintro e w' ⟨rfl, rfl⟩
   go_wp2_with fail
   go_ret
   exact ⟨D.ret_bool HF.out.symm, (Below.refl _ _).alloc (Nat.le_refl _) _⟩
  | true =>
   cases h2 : upToB a 2000 with
   | false =>
    have HF : Hid (hndB (f, t, a, c) = false) := Lib.hid (by unfold hndB; simp [h2])
    go_enter Tryz.func195, Tryz.ntmps195
    go_wp2_with fail
    refine (upTo_any f 2000 _).mono ?_
    rintro e w' ⟨rfl, rfl⟩
    go_wp2_with fail
    refine (upTo_any t 2000 _).mono ?_
    rintro e w' ⟨rfl, rfl⟩
    go_wp2_with fail
    refine (upTo_any a 2000 _).mono ?_
    rintro e w' ⟨rfl, rfl⟩
    go_wp2_with fail
    go_ret
    exact ⟨D.ret_bool HF.out.symm, (Below.refl _ _).alloc (Nat.le_refl _) _⟩
   | true =>
    cases h3 : nameB c with
    | false =>
     have HF : Hid (hndB (f, t, a, c) = false) := Lib.hid (by unfold hndB; simp [h3])
     go_enter Tryz.func195, Tryz.ntmps195
     go_wp2_with fail
     refine (upTo_any f 2000 _).mono ?_
     rintro e w' ⟨rfl, rfl⟩
     go_wp2_with fail
     refine (upTo_any t 2000 _).mono ?_
     rintro e w' ⟨rfl, rfl⟩
     go_wp2_with fail
     refine (upTo_any a 2000 _).mono ?_
     rintro e w' ⟨rfl, rfl⟩
     go_wp2_with fail
     refine (name_any c _ (max_of hc)).mono ?_
     rintro e w' ⟨rfl, rfl⟩
     go_wp2_with fail
     go_ret
     exact ⟨D.ret_bool HF.out.symm, (Below.refl _ _).alloc (Nat.le_refl _) _⟩
    | true =>
     have HF : Hid (hndB (f, t, a, c) = true) := Lib.hid (by unfold hndB; simp [h0, h1, h2, h3])
     go_enter Tryz.func195, Tryz.ntmps195
     go_wp2_with fail
     refine (upTo_any f 2000 _).mono ?_
     rintro e w' ⟨rfl, rfl⟩
     go_wp2_with fail
     refine (upTo_any t 2000 _).mono ?_
     rintro e w' ⟨rfl, rfl⟩
     go_wp2_with fail
     refine (upTo_any a 2000 _).mono ?_
     rintro e w' ⟨rfl, rfl⟩
     go_wp2_with fail
     refine (name_any c _ (max_of hc)).mono ?_
     rintro e w' ⟨rfl, rfl⟩
     go_wp2_with fail
     go_ret
     exact ⟨D.ret_bool HF.out.symm, (Below.refl _ _).alloc (Nat.le_refl _) _⟩
theorem holds_hf (ts : List Ty) (hs : ∀ t ∈ ts, t.2.size ≤ 100000) (ok : Nat → Prop) (w : World) : ∀ x ∈ ts, ∀ vs w', (sP tyC) ok w' vs x → Below w.heap.size w w' → Calls Tryz.prog 188 #[.agg vs.toArray] w' fun e w'' => e = .returned (.bool (holdsB x)) ∧ Below w'.heap.size w' w'' := by
 intro x hx vs w' hv _
 have : vs = tyC x := hv
 subst this
 exact holds_any x.1 x.2 w' (hs x hx)
theorem field_hf (ts : List Fld) (hs : ∀ f ∈ ts, f.1.size ≤ 100000 ∧ f.2.1.2.size ≤ 100000) (ok : Nat → Prop) (w : World) : ∀ x ∈ ts, ∀ vs w', (sP fldC) ok w' vs x → Below w.heap.size w w' → Calls Tryz.prog 157 #[.agg vs.toArray] w' fun e w'' => e = .returned (.bool (fldB x)) ∧ Below w'.heap.size w' w'' := by
 intro x hx vs w' hv _
 have : vs = fldC x := hv
 subst this
 exact formedField_any x.1 x.2.1.1 x.2.1.2 x.2.2 w' (hs x hx).1 (hs x hx).2
theorem handler_hf (ts : List Hnd) (hs : ∀ h ∈ ts, h.2.2.2.size ≤ 100000) (ok : Nat → Prop) (w : World) : ∀ x ∈ ts, ∀ vs w', (sP hndC) ok w' vs x → Below w.heap.size w w' → Calls Tryz.prog 195 #[.agg vs.toArray] w' fun e w'' => e = .returned (.bool (hndB x)) ∧ Below w'.heap.size w' w'' := by
 intro x hx vs w' hv _
 have : vs = hndC x := hv
 subst this
 exact formedHandler_any x.1 x.2.1 x.2.2.1 x.2.2.2 w' (hs x hx)
theorem ins_hf (ts : List Ins) (hs : ∀ x ∈ ts, szI x) (ok : Nat → Prop) (w : World) (hg : Glob w) : ∀ x ∈ ts, ∀ vs w', (sP insC) ok w' vs x → Below w.heap.size w w' → Calls Tryz.prog 193 #[.agg vs.toArray] w' fun e w'' => e = .returned (.bool (rightI x)) ∧ Below w'.heap.size w' w'' := by
 intro x hx vs w' hv hb
 have : vs = insC x := hv
 subst this
 obtain ⟨h1, h2, h3, h4⟩ := hs x hx
 exact O.right_any x.1 x.2.1 x.2.2.1 x.2.2.2.1 x.2.2.2.2.1 x.2.2.2.2.2.1 x.2.2.2.2.2.2 w' (hg.below hb (Nat.le_refl _)) (max_of h2) (max_of h3) (by omega)
set_option maxHeartbeats 1000000 in
set_option maxRecDepth 100000 in
theorem formedMethod_any (m : Mth) (ok : Nat → Prop) (pp pc ph : Option Addr) (np nc nh cp cc ch : Nat) (w : World) (hz : szM m) (hg : Glob w) (hp : RdX 2 (sP tyC) ok w (.slice pp np cp) m.params) (hc : RdX 7 (sP insC) ok w (.slice pc nc cc) m.code) (hh : RdX 4 (sP hndC) ok w (.slice ph nh ch) m.hs) :
  Calls Tryz.prog 159 #[.agg #[.string m.name, .slice pp np cp, .int .i64 m.ret.1, .string m.ret.2, .bool m.st, .bool m.ab, .int .i64 m.locals, .slice pc nc cc, .slice ph nh ch]] w fun e w' => e = .returned (.bool (mthB m)) ∧ Below w.heap.size w w' := by
 obtain ⟨z1, z2, z3, z4, z5⟩ := hz
 have HP : ∀ w', Below w.heap.size w w' → Calls Tryz.prog 189 #[.slice pp np cp, .int .i64 8, .func (.func 188) #[] #[]] w' fun e w2 => e = .returned (.bool (allB 8 holdsB m.params)) ∧ Below w'.heap.size w' w2 := fun w' hW => all_ty holdsB 8 ok _ _ w' (hp.any (sP.grow _) hW) (by decide) (holds_hf _ z2 ok w')
 have HC : ∀ w', Below w.heap.size w w' → Calls Tryz.prog 192 #[.slice pc nc cc, .int .i64 2000, .func (.func 193) #[] #[]] w' fun e w2 => e = .returned (.bool (allB 2000 rightI m.code)) ∧ Below w'.heap.size w' w2 := fun w' hW => all_ins rightI 2000 ok _ _ w' (hc.any (sP.grow _) hW) (by decide) (ins_hf _ z4 ok w' (hg.below hW (Nat.le_refl _)))
 have HH : ∀ w', Below w.heap.size w w' → Calls Tryz.prog 194 #[.slice ph nh ch, .int .i64 50, .func (.func 195) #[] #[]] w' fun e w2 => e = .returned (.bool (allB 50 hndB m.hs)) ∧ Below w'.heap.size w' w2 := fun w' hW => all_hnd hndB 50 ok _ _ w' (hh.any (sP.grow _) hW) (by decide) (handler_hf _ z5 ok w')
 have HPh := Lib.hid HP
 have HCh := Lib.hid HC
 have HHh := Lib.hid HH
 have hA : Below w.heap.size w (w.alloc (.cells #[.string m.name, .slice pp np cp, .int .i64 m.ret.1, .string m.ret.2, .bool m.st, .bool m.ab, .int .i64 m.locals, .slice pc nc cc, .slice ph nh ch] 59)) := (Below.refl _ w).alloc (Nat.le_refl _) _
 clear HP HC HH hp hc hh z2 z4 z5
 cases h0 : nameB m.name with
 | false =>
  have HF : Hid (mthB m = false) := Lib.hid (by unfold mthB; simp [h0])
  go_enter Tryz.func159, Tryz.ntmps159
  go_wp2_with fail
  refine (name_any m.name _ (max_of z1)).mono ?_
  rintro e w' ⟨rfl, rfl⟩
  go_wp2_with fail
  go_ret
  exact ⟨D.ret_bool HF.out.symm, (Below.refl _ _).alloc (Nat.le_refl _) _⟩
 | true =>
  cases h1 : allB 8 holdsB m.params with
  | false =>
   have HF : Hid (mthB m = false) := Lib.hid (by unfold mthB; simp [h1])
   go_enter Tryz.func159, Tryz.ntmps159
   go_wp2_with fail
   refine (name_any m.name _ (max_of z1)).mono ?_
   rintro e w' ⟨rfl, rfl⟩
   go_wp2_with fail
   refine (HPh.out _ hA).mono ?_
   rintro e w1 ⟨rfl, hb1⟩
   have hx1 := boxed (vs := [.string m.name, .slice pp np cp, .int .i64 m.ret.1, .string m.ret.2, .bool m.st, .bool m.ab, .int .i64 m.locals, .slice pc nc cc, .slice ph nh ch]) hb1
   obtain ⟨q1_0, q1_1, q1_2, q1_3, q1_4, q1_5, q1_6, q1_7, q1_8⟩ := z9 hx1.1
   have hB := hx1.2.2
   have hlt1 := hx1.2.1
   go_wp2_with fail
   go_ret
   exact ⟨D.ret_bool HF.out.symm, hB⟩
  | true =>
   cases h2 : rightB m.ret.1 m.ret.2 with
   | false =>
    have HF : Hid (mthB m = false) := Lib.hid (by unfold mthB; simp [h2])
    go_enter Tryz.func159, Tryz.ntmps159
    go_wp2_with fail
    refine (name_any m.name _ (max_of z1)).mono ?_
    rintro e w' ⟨rfl, rfl⟩
    go_wp2_with fail
    refine (HPh.out _ hA).mono ?_
    rintro e w1 ⟨rfl, hb1⟩
    have hx1 := boxed (vs := [.string m.name, .slice pp np cp, .int .i64 m.ret.1, .string m.ret.2, .bool m.st, .bool m.ab, .int .i64 m.locals, .slice pc nc cc, .slice ph nh ch]) hb1
    obtain ⟨q1_0, q1_1, q1_2, q1_3, q1_4, q1_5, q1_6, q1_7, q1_8⟩ := z9 hx1.1
    have hB := hx1.2.2
    have hlt1 := hx1.2.1
    go_wp2_with fail
    refine (D.right_any m.ret.1 m.ret.2 _ (by omega)).mono ?_
    rintro e w2 ⟨rfl, hb2⟩
    have hx2 := boxed_next hx1 hb2 hx1.2.2.size
    obtain ⟨q2_0, q2_1, q2_2, q2_3, q2_4, q2_5, q2_6, q2_7, q2_8⟩ := z9 hx2.1
    have hB := hx2.2.2
    have hlt2 := hx2.2.1
    go_wp2_with fail
    go_ret
    exact ⟨D.ret_bool HF.out.symm, hB⟩
   | true =>
    cases h3 : upToB m.locals 200 with
    | false =>
     have HF : Hid (mthB m = false) := Lib.hid (by unfold mthB; simp [h3])
     go_enter Tryz.func159, Tryz.ntmps159
     go_wp2_with fail
     refine (name_any m.name _ (max_of z1)).mono ?_
     rintro e w' ⟨rfl, rfl⟩
     go_wp2_with fail
     refine (HPh.out _ hA).mono ?_
     rintro e w1 ⟨rfl, hb1⟩
     have hx1 := boxed (vs := [.string m.name, .slice pp np cp, .int .i64 m.ret.1, .string m.ret.2, .bool m.st, .bool m.ab, .int .i64 m.locals, .slice pc nc cc, .slice ph nh ch]) hb1
     obtain ⟨q1_0, q1_1, q1_2, q1_3, q1_4, q1_5, q1_6, q1_7, q1_8⟩ := z9 hx1.1
     have hB := hx1.2.2
     have hlt1 := hx1.2.1
     go_wp2_with fail
     refine (D.right_any m.ret.1 m.ret.2 _ (by omega)).mono ?_
     rintro e w2 ⟨rfl, hb2⟩
     have hx2 := boxed_next hx1 hb2 hx1.2.2.size
     obtain ⟨q2_0, q2_1, q2_2, q2_3, q2_4, q2_5, q2_6, q2_7, q2_8⟩ := z9 hx2.1
     have hB := hx2.2.2
     have hlt2 := hx2.2.1
     go_wp2_with fail
     refine (upTo_any m.locals 200 _).mono ?_
     rintro e w' ⟨rfl, rfl⟩
     go_wp2_with fail
     go_ret
     exact ⟨D.ret_bool HF.out.symm, hB⟩
    | true =>
     cases h4 : allB 2000 rightI m.code with
     | false =>
      have HF : Hid (mthB m = false) := Lib.hid (by unfold mthB; simp [h4])
      go_enter Tryz.func159, Tryz.ntmps159
      go_wp2_with fail
      refine (name_any m.name _ (max_of z1)).mono ?_
      rintro e w' ⟨rfl, rfl⟩
      go_wp2_with fail
      refine (HPh.out _ hA).mono ?_
      rintro e w1 ⟨rfl, hb1⟩
      have hx1 := boxed (vs := [.string m.name, .slice pp np cp, .int .i64 m.ret.1, .string m.ret.2, .bool m.st, .bool m.ab, .int .i64 m.locals, .slice pc nc cc, .slice ph nh ch]) hb1
      obtain ⟨q1_0, q1_1, q1_2, q1_3, q1_4, q1_5, q1_6, q1_7, q1_8⟩ := z9 hx1.1
      have hB := hx1.2.2
      have hlt1 := hx1.2.1
      go_wp2_with fail
      refine (D.right_any m.ret.1 m.ret.2 _ (by omega)).mono ?_
      rintro e w2 ⟨rfl, hb2⟩
      have hx2 := boxed_next hx1 hb2 hx1.2.2.size
      obtain ⟨q2_0, q2_1, q2_2, q2_3, q2_4, q2_5, q2_6, q2_7, q2_8⟩ := z9 hx2.1
      have hB := hx2.2.2
      have hlt2 := hx2.2.1
      go_wp2_with fail
      refine (upTo_any m.locals 200 _).mono ?_
      rintro e w' ⟨rfl, rfl⟩
      go_wp2_with fail
      refine (HCh.out _ hB).mono ?_
      rintro e w3 ⟨rfl, hb3⟩
      have hx3 := boxed_next hx2 hb3 hx2.2.2.size
      obtain ⟨q3_0, q3_1, q3_2, q3_3, q3_4, q3_5, q3_6, q3_7, q3_8⟩ := z9 hx3.1
      have hB := hx3.2.2
      have hlt3 := hx3.2.1
      go_wp2_with fail
      go_ret
      exact ⟨D.ret_bool HF.out.symm, hB⟩
     | true =>
      cases h5 : allB 50 hndB m.hs with
      | false =>
       have HF : Hid (mthB m = false) := Lib.hid (by unfold mthB; simp [h5])
       go_enter Tryz.func159, Tryz.ntmps159
       go_wp2_with fail
       refine (name_any m.name _ (max_of z1)).mono ?_
       rintro e w' ⟨rfl, rfl⟩
       go_wp2_with fail
       refine (HPh.out _ hA).mono ?_
       rintro e w1 ⟨rfl, hb1⟩
       have hx1 := boxed (vs := [.string m.name, .slice pp np cp, .int .i64 m.ret.1, .string m.ret.2, .bool m.st, .bool m.ab, .int .i64 m.locals, .slice pc nc cc, .slice ph nh ch]) hb1
       obtain ⟨q1_0, q1_1, q1_2, q1_3, q1_4, q1_5, q1_6, q1_7, q1_8⟩ := z9 hx1.1
       have hB := hx1.2.2
       have hlt1 := hx1.2.1
       go_wp2_with fail
       refine (D.right_any m.ret.1 m.ret.2 _ (by omega)).mono ?_
       rintro e w2 ⟨rfl, hb2⟩
       have hx2 := boxed_next hx1 hb2 hx1.2.2.size
       obtain ⟨q2_0, q2_1, q2_2, q2_3, q2_4, q2_5, q2_6, q2_7, q2_8⟩ := z9 hx2.1
       have hB := hx2.2.2
       have hlt2 := hx2.2.1
       go_wp2_with fail
       refine (upTo_any m.locals 200 _).mono ?_
       rintro e w' ⟨rfl, rfl⟩
       go_wp2_with fail
       refine (HCh.out _ hB).mono ?_
       rintro e w3 ⟨rfl, hb3⟩
       have hx3 := boxed_next hx2 hb3 hx2.2.2.size
       obtain ⟨q3_0, q3_1, q3_2, q3_3, q3_4, q3_5, q3_6, q3_7, q3_8⟩ := z9 hx3.1
       have hB := hx3.2.2
       have hlt3 := hx3.2.1
       go_wp2_with fail
       refine (HHh.out _ hB).mono ?_
       rintro e w4 ⟨rfl, hb4⟩
       have hx4 := boxed_next hx3 hb4 hx3.2.2.size
       obtain ⟨q4_0, q4_1, q4_2, q4_3, q4_4, q4_5, q4_6, q4_7, q4_8⟩ := z9 hx4.1
       have hB := hx4.2.2
       have hlt4 := hx4.2.1
       go_wp2_with fail
       go_ret
       exact ⟨D.ret_bool HF.out.symm, hB⟩
      | true =>
       have HF : Hid (mthB m = true) := Lib.hid (by unfold mthB; simp [h0, h1, h2, h3, h4, h5])
       go_enter Tryz.func159, Tryz.ntmps159
       go_wp2_with fail
       refine (name_any m.name _ (max_of z1)).mono ?_
       rintro e w' ⟨rfl, rfl⟩
       go_wp2_with fail
       refine (HPh.out _ hA).mono ?_
       rintro e w1 ⟨rfl, hb1⟩
       have hx1 := boxed (vs := [.string m.name, .slice pp np cp, .int .i64 m.ret.1, .string m.ret.2, .bool m.st, .bool m.ab, .int .i64 m.locals, .slice pc nc cc, .slice ph nh ch]) hb1
       obtain ⟨q1_0, q1_1, q1_2, q1_3, q1_4, q1_5, q1_6, q1_7, q1_8⟩ := z9 hx1.1
       have hB := hx1.2.2
       have hlt1 := hx1.2.1
       go_wp2_with fail
       refine (D.right_any m.ret.1 m.ret.2 _ (by omega)).mono ?_
       rintro e w2 ⟨rfl, hb2⟩
       have hx2 := boxed_next hx1 hb2 hx1.2.2.size
       obtain ⟨q2_0, q2_1, q2_2, q2_3, q2_4, q2_5, q2_6, q2_7, q2_8⟩ := z9 hx2.1
       have hB := hx2.2.2
       have hlt2 := hx2.2.1
       go_wp2_with fail
       refine (upTo_any m.locals 200 _).mono ?_
       rintro e w' ⟨rfl, rfl⟩
       go_wp2_with fail
       refine (HCh.out _ hB).mono ?_
       rintro e w3 ⟨rfl, hb3⟩
       have hx3 := boxed_next hx2 hb3 hx2.2.2.size
       obtain ⟨q3_0, q3_1, q3_2, q3_3, q3_4, q3_5, q3_6, q3_7, q3_8⟩ := z9 hx3.1
       have hB := hx3.2.2
       have hlt3 := hx3.2.1
       go_wp2_with fail
       refine (HHh.out _ hB).mono ?_
       rintro e w4 ⟨rfl, hb4⟩
       have hx4 := boxed_next hx3 hb4 hx3.2.2.size
       obtain ⟨q4_0, q4_1, q4_2, q4_3, q4_4, q4_5, q4_6, q4_7, q4_8⟩ := z9 hx4.1
       have hB := hx4.2.2
       have hlt4 := hx4.2.1
       go_wp2_with fail
       go_ret
       exact ⟨D.ret_bool HF.out.symm, hB⟩
theorem method_hf (ms : List Mth) (hs : ∀ m ∈ ms, szM m) (ok : Nat → Prop) (w : World) (hg : Glob w) : ∀ x ∈ ms, ∀ vs w', mP ok w' vs x → Below w.heap.size w w' → Calls Tryz.prog 159 #[.agg vs.toArray] w' fun e w'' => e = .returned (.bool (mthB x)) ∧ Below w'.heap.size w' w'' := by
 intro x hx vs w' hv hb
 obtain ⟨vp, vc, vh, rfl, h1, h2, h3⟩ := hv
 obtain ⟨pp, cp, rfl, -⟩ := h1.len
 obtain ⟨pc, cc, rfl, -⟩ := h2.len
 obtain ⟨ph, ch, rfl, -⟩ := h3.len
 exact formedMethod_any x ok _ _ _ _ _ _ _ _ _ w' (hs x hx) (hg.below hb (Nat.le_refl _)) h1 h2 h3
set_option maxHeartbeats 1000000 in
set_option maxRecDepth 100000 in
theorem formedClass_any (c : Cls) (ok : Nat → Prop) (pi pf pm : Option Addr) (ni nf nm ci cf cm : Nat) (w : World) (hz : szC c) (hg : Glob w) (hi : RdX 1 (sP strC) ok w (.slice pi ni ci) c.ifaces) (hf : RdX 4 (sP fldC) ok w (.slice pf nf cf) c.fields) (hm : RdX 9 mP ok w (.slice pm nm cm) c.methods) :
  Calls Tryz.prog 112 #[.agg #[.string c.name, .string c.super, .slice pi ni ci, .int .i64 c.kind, .slice pf nf cf, .slice pm nm cm]] w fun e w' => e = .returned (.bool (clsB c)) ∧ Below w.heap.size w w' := by
 obtain ⟨z1, z2, z3, z4, z5⟩ := hz
 have HI : ∀ w', Below w.heap.size w w' → Calls Tryz.prog 155 #[.slice pi ni ci, .int .i64 20, .func (.func 154) #[] #[]] w' fun e w2 => e = .returned (.bool (allB 20 nameB c.ifaces)) ∧ Below w'.heap.size w' w2 := fun w' hW => all_str nameB 20 ok _ _ w' (hi.any (sP.grow _) hW) (by decide) (fun x hx w2 _ => name_hf x w2 (z3 x hx))
 have HF0 : ∀ w', Below w.heap.size w w' → Calls Tryz.prog 156 #[.slice pf nf cf, .int .i64 100, .func (.func 157) #[] #[]] w' fun e w2 => e = .returned (.bool (allB 100 fldB c.fields)) ∧ Below w'.heap.size w' w2 := fun w' hW => all_fld fldB 100 ok _ _ w' (hf.any (sP.grow _) hW) (by decide) (field_hf _ z4 ok w')
 have HM : ∀ w', Below w.heap.size w w' → Calls Tryz.prog 158 #[.slice pm nm cm, .int .i64 100, .func (.func 159) #[] #[]] w' fun e w2 => e = .returned (.bool (allB 100 mthB c.methods)) ∧ Below w'.heap.size w' w2 := fun w' hW => all_mth mthB 100 ok _ _ w' (hm.any mP.grow hW) (by decide) (method_hf _ z5 ok w' (hg.below hW (Nat.le_refl _)))
 have HIh := Lib.hid HI
 have HFh := Lib.hid HF0
 have HMh := Lib.hid HM
 have hA : Below w.heap.size w (w.alloc (.cells #[.string c.name, .string c.super, .slice pi ni ci, .int .i64 c.kind, .slice pf nf cf, .slice pm nm cm] 52)) := (Below.refl _ w).alloc (Nat.le_refl _) _
 clear HI HF0 HM hi hf hm z3 z4 z5
 cases h0 : nameB c.name with
 | false =>
  have HF : Hid (clsB c = false) := Lib.hid (by unfold clsB; simp [h0])
  go_enter Tryz.func112, Tryz.ntmps112
  go_wp2_with fail
  refine (name_any c.name _ (max_of z1)).mono ?_
  rintro e w' ⟨rfl, rfl⟩
  go_wp2_with fail
  go_ret
  exact ⟨D.ret_bool HF.out.symm, (Below.refl _ _).alloc (Nat.le_refl _) _⟩
 | true =>
  cases h1 : nameB c.super with
  | false =>
   have HF : Hid (clsB c = false) := Lib.hid (by unfold clsB; simp [h1])
   go_enter Tryz.func112, Tryz.ntmps112
   go_wp2_with fail
   refine (name_any c.name _ (max_of z1)).mono ?_
   rintro e w' ⟨rfl, rfl⟩
   go_wp2_with fail
   refine (name_any c.super _ (max_of z2)).mono ?_
   rintro e w' ⟨rfl, rfl⟩
   go_wp2_with fail
   go_ret
   exact ⟨D.ret_bool HF.out.symm, (Below.refl _ _).alloc (Nat.le_refl _) _⟩
  | true =>
   cases h2 : allB 20 nameB c.ifaces with
   | false =>
    have HF : Hid (clsB c = false) := Lib.hid (by unfold clsB; simp [h2])
    go_enter Tryz.func112, Tryz.ntmps112
    go_wp2_with fail
    refine (name_any c.name _ (max_of z1)).mono ?_
    rintro e w' ⟨rfl, rfl⟩
    go_wp2_with fail
    refine (name_any c.super _ (max_of z2)).mono ?_
    rintro e w' ⟨rfl, rfl⟩
    go_wp2_with fail
    refine (HIh.out _ hA).mono ?_
    rintro e w1 ⟨rfl, hb1⟩
    have hx1 := boxed (vs := [.string c.name, .string c.super, .slice pi ni ci, .int .i64 c.kind, .slice pf nf cf, .slice pm nm cm]) hb1
    obtain ⟨q1_0, q1_1, q1_2, q1_3, q1_4, q1_5⟩ := z6 hx1.1
    have hB := hx1.2.2
    have hlt1 := hx1.2.1
    go_wp2_with fail
    go_ret
    exact ⟨D.ret_bool HF.out.symm, hB⟩
   | true =>
    cases h3 : decide (1 ≤ c.kind) with
    | false =>
     have HF : Hid (clsB c = false) := Lib.hid (by unfold clsB; simp [h3])
     go_enter Tryz.func112, Tryz.ntmps112
     go_wp2_with fail
     refine (name_any c.name _ (max_of z1)).mono ?_
     rintro e w' ⟨rfl, rfl⟩
     go_wp2_with fail
     refine (name_any c.super _ (max_of z2)).mono ?_
     rintro e w' ⟨rfl, rfl⟩
     go_wp2_with fail
     refine (HIh.out _ hA).mono ?_
     rintro e w1 ⟨rfl, hb1⟩
     have hx1 := boxed (vs := [.string c.name, .string c.super, .slice pi ni ci, .int .i64 c.kind, .slice pf nf cf, .slice pm nm cm]) hb1
     obtain ⟨q1_0, q1_1, q1_2, q1_3, q1_4, q1_5⟩ := z6 hx1.1
     have hB := hx1.2.2
     have hlt1 := hx1.2.1
     go_wp2_with fail
     go_ret
     exact ⟨D.ret_bool HF.out.symm, hB⟩
    | true =>
     cases h4 : decide (c.kind ≤ 4) with
     | false =>
      have HF : Hid (clsB c = false) := Lib.hid (by unfold clsB; simp [h4])
      go_enter Tryz.func112, Tryz.ntmps112
      go_wp2_with fail
      refine (name_any c.name _ (max_of z1)).mono ?_
      rintro e w' ⟨rfl, rfl⟩
      go_wp2_with fail
      refine (name_any c.super _ (max_of z2)).mono ?_
      rintro e w' ⟨rfl, rfl⟩
      go_wp2_with fail
      refine (HIh.out _ hA).mono ?_
      rintro e w1 ⟨rfl, hb1⟩
      have hx1 := boxed (vs := [.string c.name, .string c.super, .slice pi ni ci, .int .i64 c.kind, .slice pf nf cf, .slice pm nm cm]) hb1
      obtain ⟨q1_0, q1_1, q1_2, q1_3, q1_4, q1_5⟩ := z6 hx1.1
      have hB := hx1.2.2
      have hlt1 := hx1.2.1
      go_wp2_with fail
      go_ret
      exact ⟨D.ret_bool HF.out.symm, hB⟩
     | true =>
      cases h5 : allB 100 fldB c.fields with
      | false =>
       have HF : Hid (clsB c = false) := Lib.hid (by unfold clsB; simp [h5])
       go_enter Tryz.func112, Tryz.ntmps112
       go_wp2_with fail
       refine (name_any c.name _ (max_of z1)).mono ?_
       rintro e w' ⟨rfl, rfl⟩
       go_wp2_with fail
       refine (name_any c.super _ (max_of z2)).mono ?_
       rintro e w' ⟨rfl, rfl⟩
       go_wp2_with fail
       refine (HIh.out _ hA).mono ?_
       rintro e w1 ⟨rfl, hb1⟩
       have hx1 := boxed (vs := [.string c.name, .string c.super, .slice pi ni ci, .int .i64 c.kind, .slice pf nf cf, .slice pm nm cm]) hb1
       obtain ⟨q1_0, q1_1, q1_2, q1_3, q1_4, q1_5⟩ := z6 hx1.1
       have hB := hx1.2.2
       have hlt1 := hx1.2.1
       go_wp2_with fail
       refine (HFh.out _ hB).mono ?_
       rintro e w2 ⟨rfl, hb2⟩
       have hx2 := boxed_next hx1 hb2 hx1.2.2.size
       obtain ⟨q2_0, q2_1, q2_2, q2_3, q2_4, q2_5⟩ := z6 hx2.1
       have hB := hx2.2.2
       have hlt2 := hx2.2.1
       go_wp2_with fail
       go_ret
       exact ⟨D.ret_bool HF.out.symm, hB⟩
      | true =>
       cases h6 : allB 100 mthB c.methods with
       | false =>
        have HF : Hid (clsB c = false) := Lib.hid (by unfold clsB; simp [h6])
        go_enter Tryz.func112, Tryz.ntmps112
        go_wp2_with fail
        refine (name_any c.name _ (max_of z1)).mono ?_
        rintro e w' ⟨rfl, rfl⟩
        go_wp2_with fail
        refine (name_any c.super _ (max_of z2)).mono ?_
        rintro e w' ⟨rfl, rfl⟩
        go_wp2_with fail
        refine (HIh.out _ hA).mono ?_
        rintro e w1 ⟨rfl, hb1⟩
        have hx1 := boxed (vs := [.string c.name, .string c.super, .slice pi ni ci, .int .i64 c.kind, .slice pf nf cf, .slice pm nm cm]) hb1
        obtain ⟨q1_0, q1_1, q1_2, q1_3, q1_4, q1_5⟩ := z6 hx1.1
        have hB := hx1.2.2
        have hlt1 := hx1.2.1
        go_wp2_with fail
        refine (HFh.out _ hB).mono ?_
        rintro e w2 ⟨rfl, hb2⟩
        have hx2 := boxed_next hx1 hb2 hx1.2.2.size
        obtain ⟨q2_0, q2_1, q2_2, q2_3, q2_4, q2_5⟩ := z6 hx2.1
        have hB := hx2.2.2
        have hlt2 := hx2.2.1
        go_wp2_with fail
        refine (HMh.out _ hB).mono ?_
        rintro e w3 ⟨rfl, hb3⟩
        have hx3 := boxed_next hx2 hb3 hx2.2.2.size
        obtain ⟨q3_0, q3_1, q3_2, q3_3, q3_4, q3_5⟩ := z6 hx3.1
        have hB := hx3.2.2
        have hlt3 := hx3.2.1
        go_wp2_with fail
        go_ret
        exact ⟨D.ret_bool HF.out.symm, hB⟩
       | true =>
        have HF : Hid (clsB c = true) := Lib.hid (by unfold clsB; simp [h0, h1, h2, h3, h4, h5, h6])
        go_enter Tryz.func112, Tryz.ntmps112
        go_wp2_with fail
        refine (name_any c.name _ (max_of z1)).mono ?_
        rintro e w' ⟨rfl, rfl⟩
        go_wp2_with fail
        refine (name_any c.super _ (max_of z2)).mono ?_
        rintro e w' ⟨rfl, rfl⟩
        go_wp2_with fail
        refine (HIh.out _ hA).mono ?_
        rintro e w1 ⟨rfl, hb1⟩
        have hx1 := boxed (vs := [.string c.name, .string c.super, .slice pi ni ci, .int .i64 c.kind, .slice pf nf cf, .slice pm nm cm]) hb1
        obtain ⟨q1_0, q1_1, q1_2, q1_3, q1_4, q1_5⟩ := z6 hx1.1
        have hB := hx1.2.2
        have hlt1 := hx1.2.1
        go_wp2_with fail
        refine (HFh.out _ hB).mono ?_
        rintro e w2 ⟨rfl, hb2⟩
        have hx2 := boxed_next hx1 hb2 hx1.2.2.size
        obtain ⟨q2_0, q2_1, q2_2, q2_3, q2_4, q2_5⟩ := z6 hx2.1
        have hB := hx2.2.2
        have hlt2 := hx2.2.1
        go_wp2_with fail
        refine (HMh.out _ hB).mono ?_
        rintro e w3 ⟨rfl, hb3⟩
        have hx3 := boxed_next hx2 hb3 hx2.2.2.size
        obtain ⟨q3_0, q3_1, q3_2, q3_3, q3_4, q3_5⟩ := z6 hx3.1
        have hB := hx3.2.2
        have hlt3 := hx3.2.1
        go_wp2_with fail
        go_ret
        exact ⟨D.ret_bool HF.out.symm, hB⟩
theorem class_hf (cs : List Cls) (hs : ∀ c ∈ cs, szC c) (ok : Nat → Prop) (w : World) (hg : Glob w) : ∀ x ∈ cs, ∀ vs w', cP ok w' vs x → Below w.heap.size w w' → Calls Tryz.prog 112 #[.agg vs.toArray] w' fun e w'' => e = .returned (.bool (clsB x)) ∧ Below w'.heap.size w' w'' := by
 intro x hx vs w' hv hb
 obtain ⟨vp, vc, vh, rfl, h1, h2, h3⟩ := hv
 obtain ⟨pp, cp, rfl, -⟩ := h1.len
 obtain ⟨pc, cc, rfl, -⟩ := h2.len
 obtain ⟨ph, ch, rfl, -⟩ := h3.len
 exact formedClass_any x ok _ _ _ _ _ _ _ _ _ w' (hs x hx) (hg.below hb (Nat.le_refl _)) h1 h2 h3
theorem formed_any (a : Arch) (ok : Nat → Prop) (p : Option Addr) (n cap : Nat) (w : World) (hz : szA a) (hg : Glob w) (hr : RdA ok w (.slice p n cap) a) :
  Calls Tryz.prog 69 #[.agg #[.slice p n cap]] w fun e w' => e = .returned (.bool (formedB a)) ∧ Below w.heap.size w w' := by
 have hA : Below w.heap.size w (w.alloc (.cells #[.slice p n cap] 24)) := (Below.refl _ w).alloc (Nat.le_refl _) _
 have hr1 := hr.any cP.grow hA
 have hg1 := hg.below hA (Nat.le_refl _)
 have HR := Lib.hid hr1
 clear hr hr1
 go_enter Tryz.func69, Tryz.ntmps69
 go_wp2_with fail
 refine (all_cls clsB 400 ok _ _ _ HR.out (by decide) (class_hf _ hz ok _ hg1)).mono ?_
 rintro e w1 ⟨rfl, hb1⟩
 have hx1 := boxed (vs := [.slice p n cap]) hb1
 go_wp2_with fail
 go_ret
 exact ⟨D.ret_bool rfl, hx1.2.2⟩
end Go.Proofs.YtijnimjmimeefaaGreat.A
