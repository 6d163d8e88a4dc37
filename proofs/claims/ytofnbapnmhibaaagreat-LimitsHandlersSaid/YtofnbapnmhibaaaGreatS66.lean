/- Texts that the proof is made of, joined. No condition. -/
import Derived.Test.YtofnbapnmhibaaaGreatS65
import Derived.Deep.RegionHeld3
import Derived.Outline
import Derived.Test.YtofnbapnmhibaaaGreatS6H
set_option linter.unusedVariables false
set_option linter.unusedSimpArgs false
set_option maxRecDepth 100000
set_option maxHeartbeats 16000000
namespace Go.Proofs.YtofnbapnmhibaaaGreat.A
open Go.RowKit Go.Proofs.YtofnbapnmhibaaaGreat.D Go.Proofs.YtofnbapnmhibaaaGreat.O
def Keeps (ok : Nat -> Prop) (w w' : World) : Prop := ∀ b,ok b -> b < w.heap.size -> w'.heap[b]? = w.heap[b]?
theorem Keeps.of_below {ok : Nat -> Prop} {w w' : World} (h : Below w.heap.size w w') : Keeps ok w w' := fun b _ hb => h.block b hb
theorem Keeps.of_kpt {ok : Nat -> Prop} {S : List Nat} {w w' : World} (h : Kpt S w w') (hS : ∀ b,ok b -> b ∉ S) : Keeps ok w w' := fun b hb hl => h.2 b hl (hS b hb)
theorem Keeps.of_grown {ok : Nat -> Prop} {w w' : World} {r : Option Nat} (h : w.grownBy w' r) (hr : ∀ b,ok b -> r ≠ some b) : Keeps ok w w' := fun b hb hl => h.block b hl (fun e => hr b hb e.symm)
theorem cell_keeps {ok : Nat -> Prop} {w w' : World} {b o : Nat} {u : Value} (h : w.cell? ⟨b,o,none⟩ = some u) (hk : Keeps ok w w') (hb : ok b) : w'.cell? ⟨b,o,none⟩ = some u := by
 have hlt := World.block_lt_of_cell? _ _ h
 rw [World.cell?_of_block (w := w) (a := ⟨b,o,none⟩) (hk b hb hlt)]
 exact h
abbrev Pv (α : Type) : Type := (Nat -> Prop) -> World -> List Value -> α -> Prop
def RdX {α : Type} (sz : Nat) (P : Pv α) (ok : Nat -> Prop) (w : World) (v : Value) (xs : List α) : Prop :=
 ∃ (p : Option Addr) (cap : Nat),v = .slice p xs.length cap /\ xs.length <= cap /\ (p = none -> cap = 0) /\
  (xs = [] ∨ ∃ b off,p = some ⟨b,off,none⟩ /\ ok b /\ b < w.heap.size /\ ∀ i x,xs[i]? = some x -> ∃ vs,P ok w vs x /\ ∀ j u,vs[j]? = some u -> w.cell? ⟨b,off + i * sz + j,none⟩ = some u)
theorem RdX.nil {α : Type} (sz : Nat) (P : Pv α) (ok : Nat -> Prop) (w : World) : RdX sz P ok w (.slice none 0 0) ([] : List α) := ⟨none,0,rfl,by simp,fun _ => rfl,.inl rfl⟩
theorem RdX.len {α : Type} {sz : Nat} {P : Pv α} {ok : Nat -> Prop} {w : World} {v : Value} {xs : List α} (h : RdX sz P ok w v xs) : ∃ p cap,v = .slice p xs.length cap /\ xs.length <= cap := by
 obtain ⟨p,cap,h,h1,_⟩ := h
 exact ⟨p,cap,h,h1⟩
def sP {α : Type} (c : α -> List Value) : Pv α := fun _ _ vs x => vs = c x
def strC (s : ByteArray) : List Value := [.string s]
def tyC (t : Ty) : List Value := [.int .i64 t.1,.string t.2]
def insC (x : Ins) : List Value := [.int .i64 x.1,.int .i32 x.2.1,.int .i64 x.2.2.1,.string x.2.2.2.1,.string x.2.2.2.2.1,.string x.2.2.2.2.2.1,.string x.2.2.2.2.2.2]
def fldC (f : Fld) : List Value := [.string f.1,.int .i64 f.2.1.1,.string f.2.1.2,.bool f.2.2]
def hndC (h : Hnd) : List Value := [.int .i64 h.1,.int .i64 h.2.1,.int .i64 h.2.2.1,.string h.2.2.2]
def mP : Pv Mth := fun ok w vs m => ∃ vp vc vh,vs = [.string m.name,vp,.int .i64 m.ret.1,.string m.ret.2,.bool m.st,.bool m.ab,.int .i64 m.locals,vc,vh] /\
 RdX 2 (sP tyC) ok w vp m.params /\ RdX 7 (sP insC) ok w vc m.code /\ RdX 4 (sP hndC) ok w vh m.hs
def cP : Pv Cls := fun ok w vs c => ∃ vi vf vm,vs = [.string c.name,.string c.super,vi,.int .i64 c.kind,vf,vm] /\
 RdX 1 (sP strC) ok w vi c.ifaces /\ RdX 4 (sP fldC) ok w vf c.fields /\ RdX 9 mP ok w vm c.methods
def MonoG {α : Type} (P : Pv α) : Prop := ∀ (ok ok' : Nat -> Prop) (w w' : World) (vs : List Value) (x : α),P ok w vs x -> (∀ b,ok b -> b < w.heap.size -> ok' b) -> Keeps ok w w' -> w.heap.size <= w'.heap.size -> P ok' w' vs x
theorem RdX.step {α : Type} {sz : Nat} {P : Pv α} (hP : MonoG P) {ok ok' : Nat -> Prop} {w w' : World} {v : Value} {xs : List α} (h : RdX sz P ok w v xs) (ho : ∀ b,ok b -> b < w.heap.size -> ok' b) (hk : Keeps ok w w') (hs : w.heap.size <= w'.heap.size) : RdX sz P ok' w' v xs := by
 obtain ⟨p,cap,rfl,h1,h2,h3⟩ := h
 refine ⟨p,cap,rfl,h1,h2,?_⟩
 rcases h3 with h3 | ⟨b,off,rfl,hb,hlt,h3⟩
 ·exact .inl h3
 ·refine .inr ⟨b,off,rfl,ho b hb hlt,by omega,fun i x hx => ?_⟩
  obtain ⟨vs,hv,hc⟩ := h3 i x hx
  exact ⟨vs,hP _ _ _ _ _ _ hv ho hk hs,fun j u hu => cell_keeps (hc j u hu) hk hb⟩
theorem sP.grow {α : Type} (c : α -> List Value) : MonoG (sP c) := fun _ _ _ _ _ _ h _ _ _ => h
theorem mP.grow : MonoG mP := by
 intro ok ok' w w' vs m h ho hk hs
 obtain ⟨vp,vc,vh,e,h1,h2,h3⟩ := h
 exact ⟨vp,vc,vh,e,h1.step (sP.grow _) ho hk hs,h2.step (sP.grow _) ho hk hs,h3.step (sP.grow _) ho hk hs⟩
theorem cP.grow : MonoG cP := by
 intro ok ok' w w' vs c h ho hk hs
 obtain ⟨vi,vf,vm,e,h1,h2,h3⟩ := h
 exact ⟨vi,vf,vm,e,h1.step (sP.grow _) ho hk hs,h2.step (sP.grow _) ho hk hs,h3.step mP.grow ho hk hs⟩
abbrev anyB : Nat -> Prop := fun _ => True
theorem RdX.any {α : Type} {sz : Nat} {P : Pv α} (hP : MonoG P) {ok : Nat -> Prop} {w w' : World} {v : Value} {xs : List α} (h : RdX sz P ok w v xs) (hb : Below w.heap.size w w') : RdX sz P ok w' v xs := h.step hP (fun _ h _ => h) (.of_below hb) hb.size
abbrev RdA (ok : Nat -> Prop) (w : World) (v : Value) (a : Arch) : Prop := RdX 6 cP ok w v a
theorem RdX.at {α : Type} {sz : Nat} {P : Pv α} {ok : Nat -> Prop} {w : World} {p : Option Addr} {n cap : Nat} {xs : List α} (h : RdX sz P ok w (.slice p n cap) xs) (hn : xs ≠ []) :
  ∃ b off,p = some ⟨b,off,none⟩ /\ n = xs.length /\ n <= cap /\ ok b /\ b < w.heap.size /\ ∀ i x,xs[i]? = some x -> ∃ vs,P ok w vs x /\ ∀ j u,vs[j]? = some u -> w.cell? ⟨b,off + i * sz + j,none⟩ = some u := by
 obtain ⟨p',cap',e,h1,h2,h3⟩ := h
 simp only [Value.slice.injEq] at e
 obtain ⟨rfl,rfl,rfl⟩ := e
 rcases h3 with h3 | ⟨b,off,rfl,hb,hlt,h3⟩
 ·exact absurd h3 hn
 ·exact ⟨b,off,rfl,rfl,h1,hb,hlt,h3⟩
def CellsAt (w : World) (b o : Nat) (vs : List Value) : Prop := ∀ j u,vs[j]? = some u -> w.cell? ⟨b,o + j,none⟩ = some u
theorem CellsAt.below {w w' : World} {b o : Nat} {vs : List Value} (h : CellsAt w b o vs) {B : Nat} (hb : Below B w w') (hlt : b < B) : CellsAt w' b o vs := fun j u hu =>
 (hb.cell (p := ⟨b,o + j,none⟩) hlt).trans (h j u hu)
theorem CellsAt.one {w : World} {b o : Nat} {v0 : Value} (h : CellsAt w b o [v0]) : w.cell? ⟨b,o,none⟩ = some v0 := h 0 _ rfl
theorem CellsAt.two {w : World} {b o : Nat} {v0 v1 : Value} (h : CellsAt w b o [v0,v1]) : w.cell? ⟨b,o,none⟩ = some v0 /\ w.cell? ⟨b,o + 1,none⟩ = some v1 := ⟨h 0 _ rfl,h 1 _ rfl⟩
theorem CellsAt.four {w : World} {b o : Nat} {v0 v1 v2 v3 : Value} (h : CellsAt w b o [v0,v1,v2,v3]) : w.cell? ⟨b,o,none⟩ = some v0 /\ w.cell? ⟨b,o + 1,none⟩ = some v1 /\ w.cell? ⟨b,o + 2,none⟩ = some v2 /\ w.cell? ⟨b,o + 3,none⟩ = some v3 :=
 ⟨h 0 _ rfl,h 1 _ rfl,h 2 _ rfl,h 3 _ rfl⟩
theorem CellsAt.six {w : World} {b o : Nat} {v0 v1 v2 v3 v4 v5 : Value} (h : CellsAt w b o [v0,v1,v2,v3,v4,v5]) : w.cell? ⟨b,o,none⟩ = some v0 /\ w.cell? ⟨b,o + 1,none⟩ = some v1 /\ w.cell? ⟨b,o + 2,none⟩ = some v2 /\ w.cell? ⟨b,o + 3,none⟩ = some v3 /\ w.cell? ⟨b,o + 4,none⟩ = some v4 /\ w.cell? ⟨b,o + 5,none⟩ = some v5 :=
 ⟨h 0 _ rfl,h 1 _ rfl,h 2 _ rfl,h 3 _ rfl,h 4 _ rfl,h 5 _ rfl⟩
theorem CellsAt.seven {w : World} {b o : Nat} {v0 v1 v2 v3 v4 v5 v6 : Value} (h : CellsAt w b o [v0,v1,v2,v3,v4,v5,v6]) : w.cell? ⟨b,o,none⟩ = some v0 /\ w.cell? ⟨b,o + 1,none⟩ = some v1 /\ w.cell? ⟨b,o + 2,none⟩ = some v2 /\ w.cell? ⟨b,o + 3,none⟩ = some v3 /\ w.cell? ⟨b,o + 4,none⟩ = some v4 /\ w.cell? ⟨b,o + 5,none⟩ = some v5 /\ w.cell? ⟨b,o + 6,none⟩ = some v6 :=
 ⟨h 0 _ rfl,h 1 _ rfl,h 2 _ rfl,h 3 _ rfl,h 4 _ rfl,h 5 _ rfl,h 6 _ rfl⟩
theorem CellsAt.nine {w : World} {b o : Nat} {v0 v1 v2 v3 v4 v5 v6 v7 v8 : Value} (h : CellsAt w b o [v0,v1,v2,v3,v4,v5,v6,v7,v8]) : w.cell? ⟨b,o,none⟩ = some v0 /\ w.cell? ⟨b,o + 1,none⟩ = some v1 /\ w.cell? ⟨b,o + 2,none⟩ = some v2 /\ w.cell? ⟨b,o + 3,none⟩ = some v3 /\ w.cell? ⟨b,o + 4,none⟩ = some v4 /\ w.cell? ⟨b,o + 5,none⟩ = some v5 /\ w.cell? ⟨b,o + 6,none⟩ = some v6 /\ w.cell? ⟨b,o + 7,none⟩ = some v7 /\ w.cell? ⟨b,o + 8,none⟩ = some v8 :=
 ⟨h 0 _ rfl,h 1 _ rfl,h 2 _ rfl,h 3 _ rfl,h 4 _ rfl,h 5 _ rfl,h 6 _ rfl,h 7 _ rfl,h 8 _ rfl⟩
theorem RdX.place {α : Type} {sz : Nat} {P : Pv α} {ok : Nat -> Prop} {w : World} {p : Option Addr} {n cap : Nat} {xs : List α} (h : RdX sz P ok w (.slice p n cap) xs) (hn : xs ≠ []) :
  ∃ b off,p = some ⟨b,off,none⟩ /\ n = xs.length /\ n <= cap /\ ok b /\ b < w.heap.size /\ ∀ i x,xs[i]? = some x -> ∃ vs,P ok w vs x /\ CellsAt w b (off + i * sz) vs := h.at hn
theorem RdX.tail {α : Type} {sz : Nat} {P : Pv α} {ok : Nat -> Prop} {w : World} {b off cap : Nat} {x : α} {xs : List α} (h : RdX sz P ok w (.slice (some ⟨b,off,none⟩) (x :: xs).length cap) (x :: xs)) :
  RdX sz P ok w (.slice (some ⟨b,off + sz,none⟩) xs.length (cap - 1)) xs := by
 obtain ⟨b',off',e,_,hle,hb,hlt,hc⟩ := h.place (by simp)
 simp only [Option.some.injEq,Addr.mk.injEq,and_true] at e
 obtain ⟨rfl,rfl⟩ := e
 refine ⟨_,_,rfl,by simp at hle; omega,(fun h => by cases h),.inr ⟨b,off + sz,rfl,hb,hlt,fun i y hy => ?_⟩⟩
 obtain ⟨vs,hv,hcells⟩ := hc (i + 1) y (by simpa using hy)
 refine ⟨vs,hv,fun j u hu => ?_⟩
 have := hcells j u hu
 rw [show off + (i + 1) * sz + j = off + sz + i * sz + j by rw [Nat.succ_mul]; omega] at this
 exact this
theorem RdX.empty {α : Type} {sz : Nat} {P : Pv α} {ok : Nat -> Prop} {w : World} {a : Addr} {cap : Nat} : RdX sz P ok w (.slice (some a) 0 cap) ([] : List α) := ⟨_,_,rfl,by simp,(fun h => by cases h),.inl rfl⟩
end Go.Proofs.YtofnbapnmhibaaaGreat.A
namespace Go.Proofs.YtofnbapnmhibaaaGreat.A
open Go.RowKit Go.Proofs.YtofnbapnmhibaaaGreat.D Go.Proofs.YtofnbapnmhibaaaGreat.O
theorem allB_len {α : Type} {m : Nat} {f : α -> Bool} {l : List α} (h : ¬ l.length <= m) : allB m f l = false := by unfold allB; simp [h]
theorem allB_no {α : Type} {m : Nat} {f : α -> Bool} {l : List α} {i : Nat} {x : α} (h : l[i]? = some x) (hx : f x = false) : allB m f l = false := by
 unfold allB
 rw [Bool.and_eq_false_iff]
 right
 rw [List.all_eq_false]
 exact ⟨x,List.mem_of_getElem? h,by simp [hx]⟩
theorem allB_yes {α : Type} {m : Nat} {f : α -> Bool} {l : List α} (h : l.length <= m) (hx : ∀ i x,i < l.length -> l[i]? = some x -> f x = true) : allB m f l = true := by
 rw [allB_iff]
 refine ⟨h,fun x hm => ?_⟩
 obtain ⟨i,hi,rfl⟩ := List.getElem_of_mem hm
 exact hx i _ hi (List.getElem?_eq_getElem hi)
theorem allB_nil {α : Type} {m : Nat} {f : α -> Bool} : allB m f ([] : List α) = true := by unfold allB; simp
theorem sP_at {α : Type} {c : α -> List Value} {ok : Nat -> Prop} {w : World} {b o : Nat} {x : α} (h : ∃ vs,sP c ok w vs x /\ CellsAt w b o vs) : CellsAt w b o (c x) := by
 obtain ⟨vs,rfl,h⟩ := h
 exact h
theorem all_str (f : ByteArray -> Bool) (m : Nat) (ok : Nat -> Prop) (v : Value) (xs : List ByteArray) (w : World) (hr : RdX 1 (sP strC) ok w v xs) (hm : m <= 100000)
  (hf : ∀ x ∈ xs,∀ w',Below w.heap.size w w' -> Calls Tryz.prog 57 #[.string x] w' fun e w'' => e = .returned (.bool (f x)) /\ Below w'.heap.size w' w'') :
  Calls Tryz.prog 58 #[v,.int .i64 m,.func (.func 57) #[] #[]] w fun e w' => e = .returned (.bool (allB m f xs)) /\ Below w.heap.size w w' := by
 have HFF := hid hf
 clear hf
 obtain ⟨p,cap,rfl,hcap⟩ := hr.len
 by_cases hl : xs.length <= m
 ·by_cases h0 : xs = []
  ·subst h0
   clear hl hcap hr
   go_enter Tryz.func58,Tryz.ntmps58
   go_wp2_with fail
   go_loop [15] (fun i => i = .int .i64 0) (fun _ => 0)
   case atStart => exact rfl
   case round =>
    obtain rfl := hrel
    go_wp2_with fail
    go_ret
    exact ⟨D.ret_bool allB_nil.symm,Below.refl _ _⟩
  ·obtain ⟨b,off,rfl,-,-,hok,hlt,hc⟩ := hr.place h0
   have HC := hid hc
   have HL := hid hl
   have HR0 := hid hr
   have hm2 : xs.length <= 100000 := by omega
   have hd : decide (m < xs.length) = false := by simp; omega
   clear hc hr hcap h0
   go_enter Tryz.func58,Tryz.ntmps58
   go_wp2_with fail
   go_loopw [15] (fun i wr => ∃ k : Nat,k <= xs.length /\ i = .int .i64 k /\ (∀ j x,j < k -> xs[j]? = some x -> f x = true) /\ Below w.heap.size w wr) (fun i _ => xs.length - (intOf i).toNat)
   case atStart => exact ⟨0,Nat.zero_le _,rfl,fun j x h => absurd h (Nat.not_lt_zero _),Below.refl _ _⟩
   case round =>
    obtain ⟨k,hk,rfl,hr,hbl⟩ := hrel
    have HR := hid hr
    have hsz := hbl.size
    clear hr
    by_cases hlt2 : k < xs.length
    ·obtain ⟨x,hx⟩ : ∃ x,xs[k]? = some x := ⟨_,List.getElem?_eq_getElem hlt2⟩
     have hmem := hid (List.mem_of_getElem? hx)
     have hcl := (sP_at (HC.out k x hx)).below hbl hlt
     have hc0 := hcl.one
     rw [Nat.mul_one] at hc0
     have HX := hid hx
     clear hx hcl
     go_wp2_with fail
     refine (HFF.out x hmem.out _ hbl).mono ?_
     rintro e w1 ⟨rfl,hb1⟩
     have hB : Below w.heap.size w w1 := hbl.trans (hb1.mono hsz)
     cases hfx : f x with
     | false =>
      have HF := hid (allB_no (m := m) HX.out hfx)
      go_wp2_with fail
      go_ret
      exact ⟨D.ret_bool HF.out.symm,hB⟩
     | true =>
      have HS : Hid (∀ j x,j < k + 1 -> xs[j]? = some x -> f x = true) := hid (by
       intro j y hj hy
       by_cases ej : j = k
       ·subst ej
        rw [HX.out] at hy
        cases hy
        exact hfx
       ·exact HR.out j y (by omega) hy)
      go_wp2_with fail
      go_roundw
      case rel => exact ⟨k + 1,by omega,by go_num,HS.out,hB⟩
      case measure => simp [intOf]; omega
    ·have HF : Hid (allB m f xs = true) := hid (allB_yes HL.out (fun i x hi hx => HR.out i x (by omega) hx))
     go_wp2_with fail
     go_ret
     exact ⟨D.ret_bool HF.out.symm,hbl⟩
 ·have HF := hid (allB_len (f := f) hl)
  have hd : decide (m < xs.length) = true := by simp; omega
  clear hr hcap
  go_enter Tryz.func58,Tryz.ntmps58
  go_wp2_with fail
  go_ret
  exact ⟨D.ret_bool HF.out.symm,Below.refl _ _⟩
theorem all_ty (f : Ty -> Bool) (m : Nat) (ok : Nat -> Prop) (v : Value) (xs : List Ty) (w : World) (hr : RdX 2 (sP tyC) ok w v xs) (hm : m <= 100000)
  (hf : ∀ x ∈ xs,∀ vs w',(sP tyC) ok w' vs x -> Below w.heap.size w w' -> Calls Tryz.prog 78 #[.agg vs.toArray] w' fun e w'' => e = .returned (.bool (f x)) /\ Below w'.heap.size w' w'') :
  Calls Tryz.prog 79 #[v,.int .i64 m,.func (.func 78) #[] #[]] w fun e w' => e = .returned (.bool (allB m f xs)) /\ Below w.heap.size w w' := by
 have HFF := hid hf
 clear hf
 obtain ⟨p,cap,rfl,hcap⟩ := hr.len
 by_cases hl : xs.length <= m
 ·by_cases h0 : xs = []
  ·subst h0
   clear hl hcap hr
   go_enter Tryz.func79,Tryz.ntmps79
   go_wp2_with fail
   go_loop [15] (fun i => i = .int .i64 0) (fun _ => 0)
   case atStart => exact rfl
   case round =>
    obtain rfl := hrel
    go_wp2_with fail
    go_ret
    exact ⟨D.ret_bool allB_nil.symm,Below.refl _ _⟩
  ·obtain ⟨b,off,rfl,-,-,hok,hlt,hc⟩ := hr.place h0
   have HC := hid hc
   have HL := hid hl
   have HR0 := hid hr
   have hm2 : xs.length <= 100000 := by omega
   have hd : decide (m < xs.length) = false := by simp; omega
   clear hc hr hcap h0
   go_enter Tryz.func79,Tryz.ntmps79
   go_wp2_with fail
   go_loopw [15] (fun i wr => ∃ k : Nat,k <= xs.length /\ i = .int .i64 k /\ (∀ j x,j < k -> xs[j]? = some x -> f x = true) /\ Below w.heap.size w wr) (fun i _ => xs.length - (intOf i).toNat)
   case atStart => exact ⟨0,Nat.zero_le _,rfl,fun j x h => absurd h (Nat.not_lt_zero _),Below.refl _ _⟩
   case round =>
    obtain ⟨k,hk,rfl,hr,hbl⟩ := hrel
    have HR := hid hr
    have hsz := hbl.size
    clear hr
    by_cases hlt2 : k < xs.length
    ·obtain ⟨x,hx⟩ : ∃ x,xs[k]? = some x := ⟨_,List.getElem?_eq_getElem hlt2⟩
     have hmem := hid (List.mem_of_getElem? hx)
     have hcl := (sP_at (HC.out k x hx)).below hbl hlt
     obtain ⟨s0,s1⟩ := x
     obtain ⟨hc0,hc1⟩ := CellsAt.two hcl
     have HX := hid hx
     clear hx hcl
     go_wp2_with fail
     refine (HFF.out _ hmem.out _ _ rfl (hbl.alloc hsz _)).mono ?_
     rintro e w1 ⟨rfl,hb1⟩
     have hB : Below w.heap.size w w1 := (hbl.alloc hsz _).trans (hb1.mono (by simp; omega))
     cases hfx : f (s0,s1) with
     | false =>
      have HF := hid (allB_no (m := m) HX.out hfx)
      go_wp2_with fail
      go_ret
      exact ⟨D.ret_bool HF.out.symm,hB⟩
     | true =>
      have HS : Hid (∀ j x,j < k + 1 -> xs[j]? = some x -> f x = true) := hid (by
       intro j y hj hy
       by_cases ej : j = k
       ·subst ej
        rw [HX.out] at hy
        cases hy
        exact hfx
       ·exact HR.out j y (by omega) hy)
      go_wp2_with fail
      go_roundw
      case rel => exact ⟨k + 1,by omega,by go_num,HS.out,hB⟩
      case measure => simp [intOf]; omega
    ·have HF : Hid (allB m f xs = true) := hid (allB_yes HL.out (fun i x hi hx => HR.out i x (by omega) hx))
     go_wp2_with fail
     go_ret
     exact ⟨D.ret_bool HF.out.symm,hbl⟩
 ·have HF := hid (allB_len (f := f) hl)
  have hd : decide (m < xs.length) = true := by simp; omega
  clear hr hcap
  go_enter Tryz.func79,Tryz.ntmps79
  go_wp2_with fail
  go_ret
  exact ⟨D.ret_bool HF.out.symm,Below.refl _ _⟩
theorem all_ins (f : Ins -> Bool) (m : Nat) (ok : Nat -> Prop) (v : Value) (xs : List Ins) (w : World) (hr : RdX 7 (sP insC) ok w v xs) (hm : m <= 100000)
  (hf : ∀ x ∈ xs,∀ vs w',(sP insC) ok w' vs x -> Below w.heap.size w w' -> Calls Tryz.prog 83 #[.agg vs.toArray] w' fun e w'' => e = .returned (.bool (f x)) /\ Below w'.heap.size w' w'') :
  Calls Tryz.prog 82 #[v,.int .i64 m,.func (.func 83) #[] #[]] w fun e w' => e = .returned (.bool (allB m f xs)) /\ Below w.heap.size w w' := by
 have HFF := hid hf
 clear hf
 obtain ⟨p,cap,rfl,hcap⟩ := hr.len
 by_cases hl : xs.length <= m
 ·by_cases h0 : xs = []
  ·subst h0
   clear hl hcap hr
   go_enter Tryz.func82,Tryz.ntmps82
   go_wp2_with fail
   go_loop [15] (fun i => i = .int .i64 0) (fun _ => 0)
   case atStart => exact rfl
   case round =>
    obtain rfl := hrel
    go_wp2_with fail
    go_ret
    exact ⟨D.ret_bool allB_nil.symm,Below.refl _ _⟩
  ·obtain ⟨b,off,rfl,-,-,hok,hlt,hc⟩ := hr.place h0
   have HC := hid hc
   have HL := hid hl
   have HR0 := hid hr
   have hm2 : xs.length <= 100000 := by omega
   have hd : decide (m < xs.length) = false := by simp; omega
   clear hc hr hcap h0
   go_enter Tryz.func82,Tryz.ntmps82
   go_wp2_with fail
   go_loopw [15] (fun i wr => ∃ k : Nat,k <= xs.length /\ i = .int .i64 k /\ (∀ j x,j < k -> xs[j]? = some x -> f x = true) /\ Below w.heap.size w wr) (fun i _ => xs.length - (intOf i).toNat)
   case atStart => exact ⟨0,Nat.zero_le _,rfl,fun j x h => absurd h (Nat.not_lt_zero _),Below.refl _ _⟩
   case round =>
    obtain ⟨k,hk,rfl,hr,hbl⟩ := hrel
    have HR := hid hr
    have hsz := hbl.size
    clear hr
    by_cases hlt2 : k < xs.length
    ·obtain ⟨x,hx⟩ : ∃ x,xs[k]? = some x := ⟨_,List.getElem?_eq_getElem hlt2⟩
     have hmem := hid (List.mem_of_getElem? hx)
     have hcl := (sP_at (HC.out k x hx)).below hbl hlt
     obtain ⟨s0,s1,s2,s3,s4,s5,s6⟩ := x
     obtain ⟨hc0,hc1,hc2,hc3,hc4,hc5,hc6⟩ := CellsAt.seven hcl
     have HX := hid hx
     clear hx hcl
     go_wp2_with fail
     refine (HFF.out _ hmem.out _ _ rfl (hbl.alloc hsz _)).mono ?_
     rintro e w1 ⟨rfl,hb1⟩
     have hB : Below w.heap.size w w1 := (hbl.alloc hsz _).trans (hb1.mono (by simp; omega))
     cases hfx : f (s0,s1,s2,s3,s4,s5,s6) with
     | false =>
      have HF := hid (allB_no (m := m) HX.out hfx)
      go_wp2_with fail
      go_ret
      exact ⟨D.ret_bool HF.out.symm,hB⟩
     | true =>
      have HS : Hid (∀ j x,j < k + 1 -> xs[j]? = some x -> f x = true) := hid (by
       intro j y hj hy
       by_cases ej : j = k
       ·subst ej
        rw [HX.out] at hy
        cases hy
        exact hfx
       ·exact HR.out j y (by omega) hy)
      go_wp2_with fail
      go_roundw
      case rel => exact ⟨k + 1,by omega,by go_num,HS.out,hB⟩
      case measure => simp [intOf]; omega
    ·have HF : Hid (allB m f xs = true) := hid (allB_yes HL.out (fun i x hi hx => HR.out i x (by omega) hx))
     go_wp2_with fail
     go_ret
     exact ⟨D.ret_bool HF.out.symm,hbl⟩
 ·have HF := hid (allB_len (f := f) hl)
  have hd : decide (m < xs.length) = true := by simp; omega
  clear hr hcap
  go_enter Tryz.func82,Tryz.ntmps82
  go_wp2_with fail
  go_ret
  exact ⟨D.ret_bool HF.out.symm,Below.refl _ _⟩
theorem all_hnd (f : Hnd -> Bool) (m : Nat) (ok : Nat -> Prop) (v : Value) (xs : List Hnd) (w : World) (hr : RdX 4 (sP hndC) ok w v xs) (hm : m <= 100000)
  (hf : ∀ x ∈ xs,∀ vs w',(sP hndC) ok w' vs x -> Below w.heap.size w w' -> Calls Tryz.prog 85 #[.agg vs.toArray] w' fun e w'' => e = .returned (.bool (f x)) /\ Below w'.heap.size w' w'') :
  Calls Tryz.prog 84 #[v,.int .i64 m,.func (.func 85) #[] #[]] w fun e w' => e = .returned (.bool (allB m f xs)) /\ Below w.heap.size w w' := by
 have HFF := hid hf
 clear hf
 obtain ⟨p,cap,rfl,hcap⟩ := hr.len
 by_cases hl : xs.length <= m
 ·by_cases h0 : xs = []
  ·subst h0
   clear hl hcap hr
   go_enter Tryz.func84,Tryz.ntmps84
   go_wp2_with fail
   go_loop [15] (fun i => i = .int .i64 0) (fun _ => 0)
   case atStart => exact rfl
   case round =>
    obtain rfl := hrel
    go_wp2_with fail
    go_ret
    exact ⟨D.ret_bool allB_nil.symm,Below.refl _ _⟩
  ·obtain ⟨b,off,rfl,-,-,hok,hlt,hc⟩ := hr.place h0
   have HC := hid hc
   have HL := hid hl
   have HR0 := hid hr
   have hm2 : xs.length <= 100000 := by omega
   have hd : decide (m < xs.length) = false := by simp; omega
   clear hc hr hcap h0
   go_enter Tryz.func84,Tryz.ntmps84
   go_wp2_with fail
   go_loopw [15] (fun i wr => ∃ k : Nat,k <= xs.length /\ i = .int .i64 k /\ (∀ j x,j < k -> xs[j]? = some x -> f x = true) /\ Below w.heap.size w wr) (fun i _ => xs.length - (intOf i).toNat)
   case atStart => exact ⟨0,Nat.zero_le _,rfl,fun j x h => absurd h (Nat.not_lt_zero _),Below.refl _ _⟩
   case round =>
    obtain ⟨k,hk,rfl,hr,hbl⟩ := hrel
    have HR := hid hr
    have hsz := hbl.size
    clear hr
    by_cases hlt2 : k < xs.length
    ·obtain ⟨x,hx⟩ : ∃ x,xs[k]? = some x := ⟨_,List.getElem?_eq_getElem hlt2⟩
     have hmem := hid (List.mem_of_getElem? hx)
     have hcl := (sP_at (HC.out k x hx)).below hbl hlt
     obtain ⟨s0,s1,s2,s3⟩ := x
     obtain ⟨hc0,hc1,hc2,hc3⟩ := CellsAt.four hcl
     have HX := hid hx
     clear hx hcl
     go_wp2_with fail
     refine (HFF.out _ hmem.out _ _ rfl (hbl.alloc hsz _)).mono ?_
     rintro e w1 ⟨rfl,hb1⟩
     have hB : Below w.heap.size w w1 := (hbl.alloc hsz _).trans (hb1.mono (by simp; omega))
     cases hfx : f (s0,s1,s2,s3) with
     | false =>
      have HF := hid (allB_no (m := m) HX.out hfx)
      go_wp2_with fail
      go_ret
      exact ⟨D.ret_bool HF.out.symm,hB⟩
     | true =>
      have HS : Hid (∀ j x,j < k + 1 -> xs[j]? = some x -> f x = true) := hid (by
       intro j y hj hy
       by_cases ej : j = k
       ·subst ej
        rw [HX.out] at hy
        cases hy
        exact hfx
       ·exact HR.out j y (by omega) hy)
      go_wp2_with fail
      go_roundw
      case rel => exact ⟨k + 1,by omega,by go_num,HS.out,hB⟩
      case measure => simp [intOf]; omega
    ·have HF : Hid (allB m f xs = true) := hid (allB_yes HL.out (fun i x hi hx => HR.out i x (by omega) hx))
     go_wp2_with fail
     go_ret
     exact ⟨D.ret_bool HF.out.symm,hbl⟩
 ·have HF := hid (allB_len (f := f) hl)
  have hd : decide (m < xs.length) = true := by simp; omega
  clear hr hcap
  go_enter Tryz.func84,Tryz.ntmps84
  go_wp2_with fail
  go_ret
  exact ⟨D.ret_bool HF.out.symm,Below.refl _ _⟩
theorem all_fld (f : Fld -> Bool) (m : Nat) (ok : Nat -> Prop) (v : Value) (xs : List Fld) (w : World) (hr : RdX 4 (sP fldC) ok w v xs) (hm : m <= 100000)
  (hf : ∀ x ∈ xs,∀ vs w',(sP fldC) ok w' vs x -> Below w.heap.size w w' -> Calls Tryz.prog 60 #[.agg vs.toArray] w' fun e w'' => e = .returned (.bool (f x)) /\ Below w'.heap.size w' w'') :
  Calls Tryz.prog 59 #[v,.int .i64 m,.func (.func 60) #[] #[]] w fun e w' => e = .returned (.bool (allB m f xs)) /\ Below w.heap.size w w' := by
 have HFF := hid hf
 clear hf
 obtain ⟨p,cap,rfl,hcap⟩ := hr.len
 by_cases hl : xs.length <= m
 ·by_cases h0 : xs = []
  ·subst h0
   clear hl hcap hr
   go_enter Tryz.func59,Tryz.ntmps59
   go_wp2_with fail
   go_loop [15] (fun i => i = .int .i64 0) (fun _ => 0)
   case atStart => exact rfl
   case round =>
    obtain rfl := hrel
    go_wp2_with fail
    go_ret
    exact ⟨D.ret_bool allB_nil.symm,Below.refl _ _⟩
  ·obtain ⟨b,off,rfl,-,-,hok,hlt,hc⟩ := hr.place h0
   have HC := hid hc
   have HL := hid hl
   have HR0 := hid hr
   have hm2 : xs.length <= 100000 := by omega
   have hd : decide (m < xs.length) = false := by simp; omega
   clear hc hr hcap h0
   go_enter Tryz.func59,Tryz.ntmps59
   go_wp2_with fail
   go_loopw [15] (fun i wr => ∃ k : Nat,k <= xs.length /\ i = .int .i64 k /\ (∀ j x,j < k -> xs[j]? = some x -> f x = true) /\ Below w.heap.size w wr) (fun i _ => xs.length - (intOf i).toNat)
   case atStart => exact ⟨0,Nat.zero_le _,rfl,fun j x h => absurd h (Nat.not_lt_zero _),Below.refl _ _⟩
   case round =>
    obtain ⟨k,hk,rfl,hr,hbl⟩ := hrel
    have HR := hid hr
    have hsz := hbl.size
    clear hr
    by_cases hlt2 : k < xs.length
    ·obtain ⟨x,hx⟩ : ∃ x,xs[k]? = some x := ⟨_,List.getElem?_eq_getElem hlt2⟩
     have hmem := hid (List.mem_of_getElem? hx)
     have hcl := (sP_at (HC.out k x hx)).below hbl hlt
     obtain ⟨s0,⟨s1,s2⟩,s3⟩ := x
     obtain ⟨hc0,hc1,hc2,hc3⟩ := CellsAt.four hcl
     have HX := hid hx
     clear hx hcl
     go_wp2_with fail
     refine (HFF.out _ hmem.out _ _ rfl (hbl.alloc hsz _)).mono ?_
     rintro e w1 ⟨rfl,hb1⟩
     have hB : Below w.heap.size w w1 := (hbl.alloc hsz _).trans (hb1.mono (by simp; omega))
     cases hfx : f (s0,(s1,s2),s3) with
     | false =>
      have HF := hid (allB_no (m := m) HX.out hfx)
      go_wp2_with fail
      go_ret
      exact ⟨D.ret_bool HF.out.symm,hB⟩
     | true =>
      have HS : Hid (∀ j x,j < k + 1 -> xs[j]? = some x -> f x = true) := hid (by
       intro j y hj hy
       by_cases ej : j = k
       ·subst ej
        rw [HX.out] at hy
        cases hy
        exact hfx
       ·exact HR.out j y (by omega) hy)
      go_wp2_with fail
      go_roundw
      case rel => exact ⟨k + 1,by omega,by go_num,HS.out,hB⟩
      case measure => simp [intOf]; omega
    ·have HF : Hid (allB m f xs = true) := hid (allB_yes HL.out (fun i x hi hx => HR.out i x (by omega) hx))
     go_wp2_with fail
     go_ret
     exact ⟨D.ret_bool HF.out.symm,hbl⟩
 ·have HF := hid (allB_len (f := f) hl)
  have hd : decide (m < xs.length) = true := by simp; omega
  clear hr hcap
  go_enter Tryz.func59,Tryz.ntmps59
  go_wp2_with fail
  go_ret
  exact ⟨D.ret_bool HF.out.symm,Below.refl _ _⟩
theorem all_mth (f : Mth -> Bool) (m : Nat) (ok : Nat -> Prop) (v : Value) (xs : List Mth) (w : World) (hr : RdX 9 mP ok w v xs) (hm : m <= 100000)
  (hf : ∀ x ∈ xs,∀ vs w',mP ok w' vs x -> Below w.heap.size w w' -> Calls Tryz.prog 62 #[.agg vs.toArray] w' fun e w'' => e = .returned (.bool (f x)) /\ Below w'.heap.size w' w'') :
  Calls Tryz.prog 61 #[v,.int .i64 m,.func (.func 62) #[] #[]] w fun e w' => e = .returned (.bool (allB m f xs)) /\ Below w.heap.size w w' := by
 have HFF := hid hf
 clear hf
 obtain ⟨p,cap,rfl,hcap⟩ := hr.len
 by_cases hl : xs.length <= m
 ·by_cases h0 : xs = []
  ·subst h0
   clear hl hcap hr
   go_enter Tryz.func61,Tryz.ntmps61
   go_wp2_with fail
   go_loop [15] (fun i => i = .int .i64 0) (fun _ => 0)
   case atStart => exact rfl
   case round =>
    obtain rfl := hrel
    go_wp2_with fail
    go_ret
    exact ⟨D.ret_bool allB_nil.symm,Below.refl _ _⟩
  ·obtain ⟨b,off,rfl,-,-,hok,hlt,hc⟩ := hr.place h0
   have HC := hid hc
   have HL := hid hl
   have HR0 := hid hr
   have hm2 : xs.length <= 100000 := by omega
   have hd : decide (m < xs.length) = false := by simp; omega
   clear hc hr hcap h0
   go_enter Tryz.func61,Tryz.ntmps61
   go_wp2_with fail
   go_loopw [15] (fun i wr => ∃ k : Nat,k <= xs.length /\ i = .int .i64 k /\ (∀ j x,j < k -> xs[j]? = some x -> f x = true) /\ Below w.heap.size w wr) (fun i _ => xs.length - (intOf i).toNat)
   case atStart => exact ⟨0,Nat.zero_le _,rfl,fun j x h => absurd h (Nat.not_lt_zero _),Below.refl _ _⟩
   case round =>
    obtain ⟨k,hk,rfl,hr,hbl⟩ := hrel
    have HR := hid hr
    have hsz := hbl.size
    clear hr
    by_cases hlt2 : k < xs.length
    ·obtain ⟨x,hx⟩ : ∃ x,xs[k]? = some x := ⟨_,List.getElem?_eq_getElem hlt2⟩
     have hmem := hid (List.mem_of_getElem? hx)
     obtain ⟨vs,hv,hcl⟩ := HC.out k x hx
     have hv' := hv
     obtain ⟨vp,vc,vh,rfl,hd0,hd1,hd2⟩ := hv'
     have hcl2 := CellsAt.nine (hcl.below hbl hlt)
     obtain ⟨hc0,hc1,hc2,hc3,hc4,hc5,hc6,hc7,hc8⟩ := hcl2
     obtain ⟨pvp,cvp,rfl,-⟩ := hd0.len
     obtain ⟨pvc,cvc,rfl,-⟩ := hd1.len
     obtain ⟨pvh,cvh,rfl,-⟩ := hd2.len
     have HV := hid hv
     have HX := hid hx
     clear hx hcl hv hd0 hd1 hd2
     go_wp2_with fail
     refine (HFF.out x hmem.out _ _ (mP.grow _ _ _ _ _ _ HV.out (fun _ h _ => h) (.of_below (hbl.trans ((Below.refl _ _).alloc hsz _))) (by simp; omega)) (hbl.alloc hsz _)).mono ?_
     rintro e w1 ⟨rfl,hb1⟩
     have hB : Below w.heap.size w w1 := (hbl.alloc hsz _).trans (hb1.mono (by simp; omega))
     cases hfx : f x with
     | false =>
      have HF := hid (allB_no (m := m) HX.out hfx)
      go_wp2_with fail
      go_ret
      exact ⟨D.ret_bool HF.out.symm,hB⟩
     | true =>
      have HS : Hid (∀ j x,j < k + 1 -> xs[j]? = some x -> f x = true) := hid (by
       intro j y hj hy
       by_cases ej : j = k
       ·subst ej
        rw [HX.out] at hy
        cases hy
        exact hfx
       ·exact HR.out j y (by omega) hy)
      go_wp2_with fail
      go_roundw
      case rel => exact ⟨k + 1,by omega,by go_num,HS.out,hB⟩
      case measure => simp [intOf]; omega
    ·have HF : Hid (allB m f xs = true) := hid (allB_yes HL.out (fun i x hi hx => HR.out i x (by omega) hx))
     go_wp2_with fail
     go_ret
     exact ⟨D.ret_bool HF.out.symm,hbl⟩
 ·have HF := hid (allB_len (f := f) hl)
  have hd : decide (m < xs.length) = true := by simp; omega
  clear hr hcap
  go_enter Tryz.func61,Tryz.ntmps61
  go_wp2_with fail
  go_ret
  exact ⟨D.ret_bool HF.out.symm,Below.refl _ _⟩
theorem all_cls (f : Cls -> Bool) (m : Nat) (ok : Nat -> Prop) (v : Value) (xs : List Cls) (w : World) (hr : RdX 6 cP ok w v xs) (hm : m <= 100000)
  (hf : ∀ x ∈ xs,∀ vs w',cP ok w' vs x -> Below w.heap.size w w' -> Calls Tryz.prog 48 #[.agg vs.toArray] w' fun e w'' => e = .returned (.bool (f x)) /\ Below w'.heap.size w' w'') :
  Calls Tryz.prog 47 #[v,.int .i64 m,.func (.func 48) #[] #[]] w fun e w' => e = .returned (.bool (allB m f xs)) /\ Below w.heap.size w w' := by
 have HFF := hid hf
 clear hf
 obtain ⟨p,cap,rfl,hcap⟩ := hr.len
 by_cases hl : xs.length <= m
 ·by_cases h0 : xs = []
  ·subst h0
   clear hl hcap hr
   go_enter Tryz.func47,Tryz.ntmps47
   go_wp2_with fail
   go_loop [15] (fun i => i = .int .i64 0) (fun _ => 0)
   case atStart => exact rfl
   case round =>
    obtain rfl := hrel
    go_wp2_with fail
    go_ret
    exact ⟨D.ret_bool allB_nil.symm,Below.refl _ _⟩
  ·obtain ⟨b,off,rfl,-,-,hok,hlt,hc⟩ := hr.place h0
   have HC := hid hc
   have HL := hid hl
   have HR0 := hid hr
   have hm2 : xs.length <= 100000 := by omega
   have hd : decide (m < xs.length) = false := by simp; omega
   clear hc hr hcap h0
   go_enter Tryz.func47,Tryz.ntmps47
   go_wp2_with fail
   go_loopw [15] (fun i wr => ∃ k : Nat,k <= xs.length /\ i = .int .i64 k /\ (∀ j x,j < k -> xs[j]? = some x -> f x = true) /\ Below w.heap.size w wr) (fun i _ => xs.length - (intOf i).toNat)
   case atStart => exact ⟨0,Nat.zero_le _,rfl,fun j x h => absurd h (Nat.not_lt_zero _),Below.refl _ _⟩
   case round =>
    obtain ⟨k,hk,rfl,hr,hbl⟩ := hrel
    have HR := hid hr
    have hsz := hbl.size
    clear hr
    by_cases hlt2 : k < xs.length
    ·obtain ⟨x,hx⟩ : ∃ x,xs[k]? = some x := ⟨_,List.getElem?_eq_getElem hlt2⟩
     have hmem := hid (List.mem_of_getElem? hx)
     obtain ⟨vs,hv,hcl⟩ := HC.out k x hx
     have hv' := hv
     obtain ⟨vi,vf,vm,rfl,hd0,hd1,hd2⟩ := hv'
     have hcl2 := CellsAt.six (hcl.below hbl hlt)
     obtain ⟨hc0,hc1,hc2,hc3,hc4,hc5⟩ := hcl2
     obtain ⟨pvi,cvi,rfl,-⟩ := hd0.len
     obtain ⟨pvf,cvf,rfl,-⟩ := hd1.len
     obtain ⟨pvm,cvm,rfl,-⟩ := hd2.len
     have HV := hid hv
     have HX := hid hx
     clear hx hcl hv hd0 hd1 hd2
     go_wp2_with fail
     refine (HFF.out x hmem.out _ _ (cP.grow _ _ _ _ _ _ HV.out (fun _ h _ => h) (.of_below (hbl.trans ((Below.refl _ _).alloc hsz _))) (by simp; omega)) (hbl.alloc hsz _)).mono ?_
     rintro e w1 ⟨rfl,hb1⟩
     have hB : Below w.heap.size w w1 := (hbl.alloc hsz _).trans (hb1.mono (by simp; omega))
     cases hfx : f x with
     | false =>
      have HF := hid (allB_no (m := m) HX.out hfx)
      go_wp2_with fail
      go_ret
      exact ⟨D.ret_bool HF.out.symm,hB⟩
     | true =>
      have HS : Hid (∀ j x,j < k + 1 -> xs[j]? = some x -> f x = true) := hid (by
       intro j y hj hy
       by_cases ej : j = k
       ·subst ej
        rw [HX.out] at hy
        cases hy
        exact hfx
       ·exact HR.out j y (by omega) hy)
      go_wp2_with fail
      go_roundw
      case rel => exact ⟨k + 1,by omega,by go_num,HS.out,hB⟩
      case measure => simp [intOf]; omega
    ·have HF : Hid (allB m f xs = true) := hid (allB_yes HL.out (fun i x hi hx => HR.out i x (by omega) hx))
     go_wp2_with fail
     go_ret
     exact ⟨D.ret_bool HF.out.symm,hbl⟩
 ·have HF := hid (allB_len (f := f) hl)
  have hd : decide (m < xs.length) = true := by simp; omega
  clear hr hcap
  go_enter Tryz.func47,Tryz.ntmps47
  go_wp2_with fail
  go_ret
  exact ⟨D.ret_bool HF.out.symm,Below.refl _ _⟩
end Go.Proofs.YtofnbapnmhibaaaGreat.A
