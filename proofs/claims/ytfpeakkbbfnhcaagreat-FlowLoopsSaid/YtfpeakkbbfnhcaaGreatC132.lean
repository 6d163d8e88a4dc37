/- Texts that the proof is made of, joined. No condition. -/
import Derived.Test.YtfpeakkbbfnhcaaGreatC130
import Derived.Test.YtfpeakkbbfnhcaaGreatC131
import Derived.Deep.RegionHeld3
import Derived.Outline
import Derived.Deep.RegionLaw
import Derived.IntWalk
import Derived.Deep.DeepCutAuto
import Derived.Deep.CutBlock
import Derived.Test.YtfpeakkbbfnhcaaGreatC13H
set_option linter.unusedVariables false
set_option linter.unusedSimpArgs false
set_option maxRecDepth 100000
set_option maxHeartbeats 16000000
namespace Go.Proofs.YtfpeakkbbfnhcaaGreat.A
open Go.RowKit Go.Proofs.YtfpeakkbbfnhcaaGreat.D Go.Proofs.YtfpeakkbbfnhcaaGreat.O
def Keeps (ok : Nat -> Prop) (w w' : World) : Prop := ∀ b,ok b -> b < w.heap.size -> w'.heap[b]? = w.heap[b]?
theorem Keeps.of_below {ok : Nat -> Prop} {w w' : World} (h : Below w.heap.size w w') : Keeps ok w w' := fun b _ hb => h.block b hb
theorem Keeps.mono {ok ok' : Nat -> Prop} {w w' : World} (h : Keeps ok w w') (ho : ∀ b,ok' b -> ok b) : Keeps ok' w w' := fun b hb hl => h b (ho b hb) hl
theorem Keeps.of_kpt {ok : Nat -> Prop} {S : List Nat} {w w' : World} (h : Kpt S w w') (hS : ∀ b,ok b -> b ∉ S) : Keeps ok w w' := fun b hb hl => h.2 b hl (hS b hb)
theorem Keeps.of_grown {ok : Nat -> Prop} {w w' : World} {r : Option Nat} (h : w.grownBy w' r) (hr : ∀ b,ok b -> r ≠ some b) : Keeps ok w w' := fun b hb hl => h.block b hl (fun e => hr b hb e.symm)
theorem cell_keeps {ok : Nat -> Prop} {w w' : World} {b o : Nat} {u : Value} (h : w.cell? ⟨b,o,none⟩ = some u) (hk : Keeps ok w w') (hb : ok b) : w'.cell? ⟨b,o,none⟩ = some u := by
 have hlt := World.block_lt_of_cell? _ _ h
 rw [World.cell?_of_block (w := w) (a := ⟨b,o,none⟩) (hk b hb hlt)]
 exact h
abbrev Pv (α : Type) : Type := (Nat -> Prop) -> World -> List Value -> α -> Prop
def RdX {α : Type} (sz : Nat) (P : Pv α) (ok : Nat -> Prop) (w : World) (v : Value) (xs : List α) : Prop :=
 ∃ (p : Option Addr) (cap : Nat),v = .slice p xs.length cap /\ xs.length <= cap /\ (p = none -> cap = 0) /\
  (xs = [] ∨ ∃ b off,p = some ⟨b,off,none⟩ /\ ok b /\ b < w.heap.size /\ ∀ i x,xs[i]? = some x -> ∃ vs,P ok w vs x /\ ∀ j u,vs[j]? = some u -> w.cell? ⟨b,off + i * sz + j,none⟩ = some u)
theorem RdX.nil {α : Type} (sz : Nat) (P : Pv α) (ok : Nat -> Prop) (w : World) : RdX sz P ok w (.slice none 0 0) ([] : List α) := ⟨none,0,rfl,by simp,fun _ => rfl,.inl rfl⟩
theorem RdX.len {α : Type} {sz : Nat} {P : Pv α} {ok : Nat -> Prop} {w : World} {v : Value} {xs : List α} (h : RdX sz P ok w v xs) : ∃ p cap,v = .slice p xs.length cap /\ xs.length <= cap := by
 obtain ⟨p,cap,h,h1,_⟩ := h
 exact ⟨p,cap,h,h1⟩
def sP {α : Type} (c : α -> List Value) : Pv α := fun _ _ vs x => vs = c x
def strC (s : ByteArray) : List Value := [.string s]
def tyC (t : Ty) : List Value := [.int .i64 t.1,.string t.2]
def insC (x : Ins) : List Value := [.int .i64 x.1,.int .i32 x.2.1,.int .i64 x.2.2.1,.string x.2.2.2.1,.string x.2.2.2.2.1,.string x.2.2.2.2.2.1,.string x.2.2.2.2.2.2]
def fldC (f : Fld) : List Value := [.string f.1,.int .i64 f.2.1.1,.string f.2.1.2,.bool f.2.2]
def hndC (h : Hnd) : List Value := [.int .i64 h.1,.int .i64 h.2.1,.int .i64 h.2.2.1,.string h.2.2.2]
def mP : Pv Mth := fun ok w vs m => ∃ vp vc vh,vs = [.string m.name,vp,.int .i64 m.ret.1,.string m.ret.2,.bool m.st,.bool m.ab,.int .i64 m.locals,vc,vh] /\
 RdX 2 (sP tyC) ok w vp m.params /\ RdX 7 (sP insC) ok w vc m.code /\ RdX 4 (sP hndC) ok w vh m.hs
def cP : Pv Cls := fun ok w vs c => ∃ vi vf vm,vs = [.string c.name,.string c.super,vi,.int .i64 c.kind,vf,vm] /\
 RdX 1 (sP strC) ok w vi c.ifaces /\ RdX 4 (sP fldC) ok w vf c.fields /\ RdX 9 mP ok w vm c.methods
def MonoG {α : Type} (P : Pv α) : Prop := ∀ (ok ok' : Nat -> Prop) (w w' : World) (vs : List Value) (x : α),P ok w vs x -> (∀ b,ok b -> b < w.heap.size -> ok' b) -> Keeps ok w w' -> w.heap.size <= w'.heap.size -> P ok' w' vs x
theorem RdX.step {α : Type} {sz : Nat} {P : Pv α} (hP : MonoG P) {ok ok' : Nat -> Prop} {w w' : World} {v : Value} {xs : List α} (h : RdX sz P ok w v xs) (ho : ∀ b,ok b -> b < w.heap.size -> ok' b) (hk : Keeps ok w w') (hs : w.heap.size <= w'.heap.size) : RdX sz P ok' w' v xs := by
 obtain ⟨p,cap,rfl,h1,h2,h3⟩ := h
 refine ⟨p,cap,rfl,h1,h2,?_⟩
 rcases h3 with h3 | ⟨b,off,rfl,hb,hlt,h3⟩
 ·exact .inl h3
 ·refine .inr ⟨b,off,rfl,ho b hb hlt,by omega,fun i x hx => ?_⟩
  obtain ⟨vs,hv,hc⟩ := h3 i x hx
  exact ⟨vs,hP _ _ _ _ _ _ hv ho hk hs,fun j u hu => cell_keeps (hc j u hu) hk hb⟩
theorem sP.grow {α : Type} (c : α -> List Value) : MonoG (sP c) := fun _ _ _ _ _ _ h _ _ _ => h
theorem mP.grow : MonoG mP := by
 intro ok ok' w w' vs m h ho hk hs
 obtain ⟨vp,vc,vh,e,h1,h2,h3⟩ := h
 exact ⟨vp,vc,vh,e,h1.step (sP.grow _) ho hk hs,h2.step (sP.grow _) ho hk hs,h3.step (sP.grow _) ho hk hs⟩
theorem cP.grow : MonoG cP := by
 intro ok ok' w w' vs c h ho hk hs
 obtain ⟨vi,vf,vm,e,h1,h2,h3⟩ := h
 exact ⟨vi,vf,vm,e,h1.step (sP.grow _) ho hk hs,h2.step (sP.grow _) ho hk hs,h3.step mP.grow ho hk hs⟩
abbrev anyB : Nat -> Prop := fun _ => True
theorem RdX.any {α : Type} {sz : Nat} {P : Pv α} (hP : MonoG P) {ok : Nat -> Prop} {w w' : World} {v : Value} {xs : List α} (h : RdX sz P ok w v xs) (hb : Below w.heap.size w w') : RdX sz P ok w' v xs := h.step hP (fun _ h _ => h) (.of_below hb) hb.size
theorem RdX.at {α : Type} {sz : Nat} {P : Pv α} {ok : Nat -> Prop} {w : World} {p : Option Addr} {n cap : Nat} {xs : List α} (h : RdX sz P ok w (.slice p n cap) xs) (hn : xs ≠ []) :
  ∃ b off,p = some ⟨b,off,none⟩ /\ n = xs.length /\ n <= cap /\ ok b /\ b < w.heap.size /\ ∀ i x,xs[i]? = some x -> ∃ vs,P ok w vs x /\ ∀ j u,vs[j]? = some u -> w.cell? ⟨b,off + i * sz + j,none⟩ = some u := by
 obtain ⟨p',cap',e,h1,h2,h3⟩ := h
 simp only [Value.slice.injEq] at e
 obtain ⟨rfl,rfl,rfl⟩ := e
 rcases h3 with h3 | ⟨b,off,rfl,hb,hlt,h3⟩
 ·exact absurd h3 hn
 ·exact ⟨b,off,rfl,rfl,h1,hb,hlt,h3⟩
def CellsAt (w : World) (b o : Nat) (vs : List Value) : Prop := ∀ j u,vs[j]? = some u -> w.cell? ⟨b,o + j,none⟩ = some u
theorem CellsAt.below {w w' : World} {b o : Nat} {vs : List Value} (h : CellsAt w b o vs) {B : Nat} (hb : Below B w w') (hlt : b < B) : CellsAt w' b o vs := fun j u hu =>
 (hb.cell (p := ⟨b,o + j,none⟩) hlt).trans (h j u hu)
theorem CellsAt.two {w : World} {b o : Nat} {v0 v1 : Value} (h : CellsAt w b o [v0,v1]) : w.cell? ⟨b,o,none⟩ = some v0 /\ w.cell? ⟨b,o + 1,none⟩ = some v1 := ⟨h 0 _ rfl,h 1 _ rfl⟩
theorem CellsAt.four {w : World} {b o : Nat} {v0 v1 v2 v3 : Value} (h : CellsAt w b o [v0,v1,v2,v3]) : w.cell? ⟨b,o,none⟩ = some v0 /\ w.cell? ⟨b,o + 1,none⟩ = some v1 /\ w.cell? ⟨b,o + 2,none⟩ = some v2 /\ w.cell? ⟨b,o + 3,none⟩ = some v3 :=
 ⟨h 0 _ rfl,h 1 _ rfl,h 2 _ rfl,h 3 _ rfl⟩
theorem CellsAt.six {w : World} {b o : Nat} {v0 v1 v2 v3 v4 v5 : Value} (h : CellsAt w b o [v0,v1,v2,v3,v4,v5]) : w.cell? ⟨b,o,none⟩ = some v0 /\ w.cell? ⟨b,o + 1,none⟩ = some v1 /\ w.cell? ⟨b,o + 2,none⟩ = some v2 /\ w.cell? ⟨b,o + 3,none⟩ = some v3 /\ w.cell? ⟨b,o + 4,none⟩ = some v4 /\ w.cell? ⟨b,o + 5,none⟩ = some v5 :=
 ⟨h 0 _ rfl,h 1 _ rfl,h 2 _ rfl,h 3 _ rfl,h 4 _ rfl,h 5 _ rfl⟩
theorem CellsAt.seven {w : World} {b o : Nat} {v0 v1 v2 v3 v4 v5 v6 : Value} (h : CellsAt w b o [v0,v1,v2,v3,v4,v5,v6]) : w.cell? ⟨b,o,none⟩ = some v0 /\ w.cell? ⟨b,o + 1,none⟩ = some v1 /\ w.cell? ⟨b,o + 2,none⟩ = some v2 /\ w.cell? ⟨b,o + 3,none⟩ = some v3 /\ w.cell? ⟨b,o + 4,none⟩ = some v4 /\ w.cell? ⟨b,o + 5,none⟩ = some v5 /\ w.cell? ⟨b,o + 6,none⟩ = some v6 :=
 ⟨h 0 _ rfl,h 1 _ rfl,h 2 _ rfl,h 3 _ rfl,h 4 _ rfl,h 5 _ rfl,h 6 _ rfl⟩
theorem CellsAt.nine {w : World} {b o : Nat} {v0 v1 v2 v3 v4 v5 v6 v7 v8 : Value} (h : CellsAt w b o [v0,v1,v2,v3,v4,v5,v6,v7,v8]) : w.cell? ⟨b,o,none⟩ = some v0 /\ w.cell? ⟨b,o + 1,none⟩ = some v1 /\ w.cell? ⟨b,o + 2,none⟩ = some v2 /\ w.cell? ⟨b,o + 3,none⟩ = some v3 /\ w.cell? ⟨b,o + 4,none⟩ = some v4 /\ w.cell? ⟨b,o + 5,none⟩ = some v5 /\ w.cell? ⟨b,o + 6,none⟩ = some v6 /\ w.cell? ⟨b,o + 7,none⟩ = some v7 /\ w.cell? ⟨b,o + 8,none⟩ = some v8 :=
 ⟨h 0 _ rfl,h 1 _ rfl,h 2 _ rfl,h 3 _ rfl,h 4 _ rfl,h 5 _ rfl,h 6 _ rfl,h 7 _ rfl,h 8 _ rfl⟩
theorem RdX.place {α : Type} {sz : Nat} {P : Pv α} {ok : Nat -> Prop} {w : World} {p : Option Addr} {n cap : Nat} {xs : List α} (h : RdX sz P ok w (.slice p n cap) xs) (hn : xs ≠ []) :
  ∃ b off,p = some ⟨b,off,none⟩ /\ n = xs.length /\ n <= cap /\ ok b /\ b < w.heap.size /\ ∀ i x,xs[i]? = some x -> ∃ vs,P ok w vs x /\ CellsAt w b (off + i * sz) vs := h.at hn
end Go.Proofs.YtfpeakkbbfnhcaaGreat.A
namespace Go.Proofs.YtfpeakkbbfnhcaaGreat.A
open Go.RowKit Go.Proofs.YtfpeakkbbfnhcaaGreat.D Go.Proofs.YtfpeakkbbfnhcaaGreat.O
theorem sP_at {α : Type} {c : α -> List Value} {ok : Nat -> Prop} {w : World} {b o : Nat} {x : α} (h : ∃ vs,sP c ok w vs x /\ CellsAt w b o vs) : CellsAt w b o (c x) := by
 obtain ⟨vs,rfl,h⟩ := h
 exact h
end Go.Proofs.YtfpeakkbbfnhcaaGreat.A
namespace Go.Proofs.YtfpeakkbbfnhcaaGreat.A
open Go.RowKit Go.Proofs.YtfpeakkbbfnhcaaGreat.D Go.Proofs.YtfpeakkbbfnhcaaGreat.O
def szI (x : Ins) : Prop := x.2.2.2.1.size <= 100000 /\ x.2.2.2.2.1.size <= 100000 /\ x.2.2.2.2.2.1.size <= 100000 /\ x.2.2.2.2.2.2.size <= 100000
def szM (m : Mth) : Prop := m.name.size <= 100000 /\ (∀ t ∈ m.params,t.2.size <= 100000) /\ m.ret.2.size <= 100000 /\ (∀ x ∈ m.code,szI x) /\ ∀ h ∈ m.hs,h.2.2.2.size <= 100000
theorem boxed {w w1 : World} {vs : List Value} {T : TypeId} (hb : Below (w.alloc (.cells vs.toArray T)).heap.size (w.alloc (.cells vs.toArray T)) w1) :
  CellsAt w1 w.heap.size 0 vs /\ w.heap.size < w1.heap.size /\ Below w.heap.size w w1 := by
 have hs := hb.size
 simp at hs
 refine ⟨fun j u hu => ?_,by omega,((Below.refl _ w).alloc (Nat.le_refl _) _).trans (hb.mono (by simp))⟩
 rw [hb.cell (p := ⟨w.heap.size,0 + j,none⟩) (by simp),Nat.zero_add]
 simp [hu]
theorem z2 {w : World} {b : Nat} {v0 v1 : Value} (h : CellsAt w b 0 [v0,v1]) : w.cell? ⟨b,0,none⟩ = some v0 /\ w.cell? ⟨b,1,none⟩ = some v1 := h.two
theorem z4 {w : World} {b : Nat} {v0 v1 v2 v3 : Value} (h : CellsAt w b 0 [v0,v1,v2,v3]) : w.cell? ⟨b,0,none⟩ = some v0 /\ w.cell? ⟨b,1,none⟩ = some v1 /\ w.cell? ⟨b,2,none⟩ = some v2 /\ w.cell? ⟨b,3,none⟩ = some v3 := h.four
theorem z6 {w : World} {b : Nat} {v0 v1 v2 v3 v4 v5 : Value} (h : CellsAt w b 0 [v0,v1,v2,v3,v4,v5]) : w.cell? ⟨b,0,none⟩ = some v0 /\ w.cell? ⟨b,1,none⟩ = some v1 /\ w.cell? ⟨b,2,none⟩ = some v2 /\ w.cell? ⟨b,3,none⟩ = some v3 /\ w.cell? ⟨b,4,none⟩ = some v4 /\ w.cell? ⟨b,5,none⟩ = some v5 := h.six
theorem z9 {w : World} {b : Nat} {v0 v1 v2 v3 v4 v5 v6 v7 v8 : Value} (h : CellsAt w b 0 [v0,v1,v2,v3,v4,v5,v6,v7,v8]) : w.cell? ⟨b,0,none⟩ = some v0 /\ w.cell? ⟨b,1,none⟩ = some v1 /\ w.cell? ⟨b,2,none⟩ = some v2 /\ w.cell? ⟨b,3,none⟩ = some v3 /\ w.cell? ⟨b,4,none⟩ = some v4 /\ w.cell? ⟨b,5,none⟩ = some v5 /\ w.cell? ⟨b,6,none⟩ = some v6 /\ w.cell? ⟨b,7,none⟩ = some v7 /\ w.cell? ⟨b,8,none⟩ = some v8 := h.nine
end Go.Proofs.YtfpeakkbbfnhcaaGreat.A
namespace Go.Proofs.YtfpeakkbbfnhcaaGreat.A
open Go.RowKit Go.Proofs.YtfpeakkbbfnhcaaGreat.D Go.Proofs.YtfpeakkbbfnhcaaGreat.O
def Fr (ok : Nat -> Prop) (w w' : World) : Prop := Below 0 w w' /\ Keeps ok w w'
theorem Fr.size {ok : Nat -> Prop} {w w' : World} (h : Fr ok w w') : w.heap.size <= w'.heap.size := h.1.size
theorem Fr.refl (ok : Nat -> Prop) (w : World) : Fr ok w w := ⟨Below.refl _ _,fun _ _ _ => rfl⟩
theorem Fr.trans {ok : Nat -> Prop} {a b c : World} (h : Fr ok a b) (k : Fr ok b c) : Fr ok a c :=
 ⟨h.1.trans k.1,fun x hx hl => (k.2 x hx (Nat.lt_of_lt_of_le hl h.size)).trans (h.2 x hx hl)⟩
theorem Fr.mono {ok ok' : Nat -> Prop} {a b : World} (h : Fr ok a b) (ho : ∀ x,ok' x -> x < a.heap.size -> ok x) : Fr ok' a b := ⟨h.1,fun x hx hl => h.2 x (ho x hx hl) hl⟩
theorem Fr.of_grown {ok : Nat -> Prop} {w w' : World} {r : Option Nat} (h : w.grownBy w' r) (hr : ∀ b,ok b -> r ≠ some b) : Fr ok w w' :=
 ⟨⟨h.os,h.tape,h.output,h.size,fun k hk => absurd hk (Nat.not_lt_zero k)⟩,.of_grown h hr⟩
theorem Fr.set {ok : Nat -> Prop} (w : World) (b j : Nat) (u : Value) (hb : ¬ ok b) : Fr ok w (w.setCell ⟨b,j,none⟩ u) := .of_grown (grown_set w b j u) (fun x hx e => by cases e; exact hb hx)
theorem Fr.below {ok : Nat -> Prop} {B : Nat} {w w' : World} (h : Fr ok w w') (hok : ∀ b,b < B -> ok b) (hB : B <= w.heap.size) : Below B w w' :=
 ⟨h.1.os,h.1.tape,h.1.output,h.1.size,fun k hk => h.2 k (hok k hk) (Nat.lt_of_lt_of_le hk hB)⟩
theorem Fr.cells {ok : Nat -> Prop} {w w' : World} {b o : Nat} {vs : List Value} (h : CellsAt w b o vs) (hf : Fr ok w w') (hb : ok b) : CellsAt w' b o vs := fun j u hu => cell_keeps (h j u hu) hf.2 hb
end Go.Proofs.YtfpeakkbbfnhcaaGreat.A
namespace Go.Proofs.YtfpeakkbbfnhcaaGreat.A
open Go.RowKit Go.Proofs.YtfpeakkbbfnhcaaGreat.D Go.Proofs.YtfpeakkbbfnhcaaGreat.O
def OwnX {α : Type} (sz : Nat) (T : TypeId) (P : Pv α) (w : World) (B : Nat) (v : Value) (xs : List α) : Prop :=
 ∃ cs : List Value,w.ownsRow B T sz v xs.length cs /\ ∀ i x,xs[i]? = some x -> P (fun b => B <= b /\ v.ownBlock ≠ some b) w ((cs.drop (i * sz)).take sz) x
theorem OwnX.nil {α : Type} (sz : Nat) (T : TypeId) (P : Pv α) (w : World) (B : Nat) : OwnX sz T P w B (.slice none 0 0) ([] : List α) := ⟨[],⟨by simp,.inl ⟨rfl,rfl⟩⟩,fun i x h => by simp at h⟩
theorem OwnX.lt {α : Type} {sz : Nat} {T : TypeId} {P : Pv α} {w : World} {B : Nat} {v : Value} {xs : List α} (h : OwnX sz T P w B v xs) : ∀ k,v.ownBlock = some k -> B <= k /\ k < w.heap.size := by
 obtain ⟨cs,h1,_⟩ := h
 exact World.ownsRow.lt h1
theorem OwnX.rd {α : Type} {sz : Nat} {T : TypeId} {P : Pv α} (hP : MonoG P) {w : World} {B : Nat} {v : Value} {xs : List α} (h : OwnX sz T P w B v xs) : RdX sz P (fun b => B <= b) w v xs := by
 obtain ⟨cs,h1,h2⟩ := h
 have hh := h1
 rcases h1.2 with ⟨rfl,hn⟩ | ⟨g,cap,cur,rfl,hb,hg,hle,_⟩
 ·have : xs = [] := List.eq_nil_of_length_eq_zero hn
  subst this
  exact RdX.nil _ _ _ _
 ·refine ⟨_,cap,rfl,hle,(fun h => by cases h),.inr ⟨g,0,rfl,hb,(Array.getElem?_eq_some_iff.1 hg).1,fun i x hx => ⟨_,hP _ _ _ _ _ _ (h2 i x hx) (fun b hb _ => hb.1) (fun _ _ _ => rfl) (Nat.le_refl _),fun j u hu => ?_⟩⟩⟩
  have hj : j < sz := by
   have := (List.getElem?_eq_some_iff.1 hu).1
   rw [List.length_take] at this
   omega
  rw [List.getElem?_take_of_lt hj,List.getElem?_drop] at hu
  have := World.ownsRow.cells hh (g := g) rfl (i * sz + j) u hu
  rw [D.add0] at this
  rw [<- Nat.add_assoc] at this
  exact this
theorem OwnX.mono {α : Type} {sz : Nat} {T : TypeId} {P : Pv α} (hP : MonoG P) {w : World} {B B' : Nat} {v : Value} {xs : List α} (h : OwnX sz T P w B v xs) (hB : B' <= B) : OwnX sz T P w B' v xs := by
 obtain ⟨cs,h1,h2⟩ := h
 refine ⟨cs,⟨h1.1,?_⟩,fun i x hx => hP _ _ _ _ _ _ (h2 i x hx) (fun b hb _ => ⟨Nat.le_trans hB hb.1,hb.2⟩) (fun _ _ _ => rfl) (Nat.le_refl _)⟩
 rcases h1.2 with hn | ⟨g,cap,cur,e,hb,r⟩
 ·exact .inl hn
 ·exact .inr ⟨g,cap,cur,e,Nat.le_trans hB hb,r⟩
def Shape {α : Type} (P : Pv α) (sz : Nat) : Prop := ∀ (ok : Nat -> Prop) (w : World) (vs : List Value) (x : α),P ok w vs x -> vs.length = sz /\ ∀ u ∈ vs,u.oneCell' = true
theorem shape_str : Shape (sP strC) 1 := fun _ _ vs x h => by
 have : vs = strC x := h
 subst this
 exact ⟨rfl,by simp [strC,Value.oneCell']⟩
theorem shape_ins : Shape (sP insC) 7 := fun _ _ vs x h => by
 have : vs = insC x := h
 subst this
 exact ⟨rfl,by simp [insC,Value.oneCell']⟩
theorem shape_hnd : Shape (sP hndC) 4 := fun _ _ vs x h => by
 have : vs = hndC x := h
 subst this
 exact ⟨rfl,by simp [hndC,Value.oneCell']⟩
theorem shape_fld : Shape (sP fldC) 4 := fun _ _ vs x h => by
 have : vs = fldC x := h
 subst this
 exact ⟨rfl,by simp [fldC,Value.oneCell']⟩
theorem shape_mth : Shape mP 9 := fun _ _ vs x h => by
 obtain ⟨vp,vc,vh,rfl,h1,h2,h3⟩ := h
 obtain ⟨pp,cp,rfl,-⟩ := h1.len
 obtain ⟨pc,cc,rfl,-⟩ := h2.len
 obtain ⟨ph,ch,rfl,-⟩ := h3.len
 exact ⟨rfl,by simp [Value.oneCell']⟩
theorem shape_cls : Shape cP 6 := fun _ _ vs x h => by
 obtain ⟨vp,vc,vh,rfl,h1,h2,h3⟩ := h
 obtain ⟨pp,cp,rfl,-⟩ := h1.len
 obtain ⟨pc,cc,rfl,-⟩ := h2.len
 obtain ⟨ph,ch,rfl,-⟩ := h3.len
 exact ⟨rfl,by simp [Value.oneCell']⟩
def Inf (T TS : TypeId) (sz bytes : Nat) (z : Value) : Prop := (Tryz.prog.info? T).map (fun i => (i.zero,i.size,i.bytes)) = some (some z,sz,bytes) /\ Tryz.prog.underlying TS = some (.slice T) /\ z.cells.size = sz /\ 0 < sz /\ bytes <= 1000
theorem adadd (x : Addr) (a b : Nat) : (x.add a).add b = x.add (a + b) := by
 obtain ⟨g,o,s⟩ := x
 unfold Addr.add
 by_cases ha : a = 0
 ·subst ha; simp
 ·by_cases hb : b = 0
  ·subst hb; simp
  ·rw [if_neg ha,if_neg hb,if_neg (by omega)]
   simp [Nat.add_assoc]
theorem run_appX {α : Type} {sz bytes : Nat} {T TS : TypeId} {z : Value} (hI : Inf T TS sz bytes z) {P : Pv α} (hP : MonoG P) (hS : Shape P sz) (w : World) (B : Nat) (v : Value) (xs ys : List α) (hown : OwnX sz T P w B v xs) (ad : Addr) (c : Nat)
  (hsrc : ∀ (i : Nat) y,ys[i]? = some y -> ∃ vs,P (fun b => B <= b /\ v.ownBlock ≠ some b) w vs y /\ ∀ j u,vs[j]? = some u -> w.cell? (ad.add (i * sz + j)) = some u)
  (hb : xs.length + ys.length <= 1000000) (hbase : B <= w.heap.size) (ty : TypeId) :
  ∃ v' w',(Builtin.append_ #[TS,TS] ty #[v,.slice (some ad) ys.length c]).run Tryz.prog w = .ok v' w' /\ OwnX sz T P w' B v' (xs ++ ys) /\ w.grownBy w' v.ownBlock /\ (v'.ownBlock = v.ownBlock ∨ v'.ownBlock = some w.heap.size) := by
 obtain ⟨hi0,hund,hzs,hsz,hby⟩ := hI
 obtain ⟨i0,hi,hz0,hz1,hz2⟩ := info_parts hi0
 obtain ⟨cs,h1,h2⟩ := hown
 have hex : ∃ news : List Value,news.length = ys.length * sz /\ (∀ j u,news[j]? = some u -> w.cell? (ad.add j) = some u) /\ (∀ u ∈ news,u.oneCell' = true) /\ ∀ (i : Nat) y,ys[i]? = some y -> P (fun b => B <= b /\ v.ownBlock ≠ some b) w ((news.drop (i * sz)).take sz) y := by
  clear hb
  revert ad
  induction ys with
  | nil => exact fun ad _ => ⟨[],by simp,by simp,by simp,by simp⟩
  | cons y ys ih =>
   intro ad hsrc
   obtain ⟨vs,hv,hc⟩ := hsrc 0 y rfl
   obtain ⟨hl,ho⟩ := hS _ _ _ _ hv
   obtain ⟨news,n1,n2,n3,n4⟩ := ih (ad.add sz) (fun i x hx => by
    obtain ⟨vs,hv,hc⟩ := hsrc (i + 1) x (by simpa using hx)
    refine ⟨vs,hv,fun j u hu => ?_⟩
    have := hc j u hu
    rw [Nat.succ_mul,show i * sz + sz + j = sz + (i * sz + j) by omega] at this
    rw [adadd]
    exact this)
   refine ⟨vs ++ news,by rw [List.length_append,n1,hl,List.length_cons,Nat.succ_mul,Nat.add_comm],fun j u hu => ?_,fun u hu => ?_,fun i x hx => ?_⟩
   ·by_cases hj : j < vs.length
    ·rw [List.getElem?_append_left hj] at hu
     have := hc j u hu
     rwa [Nat.zero_mul,Nat.zero_add] at this
    ·rw [List.getElem?_append_right (by omega)] at hu
     have := n2 _ u hu
     rw [adadd,show sz + (j - vs.length) = j by omega] at this
     exact this
   ·rcases List.mem_append.1 hu with h | h
    ·exact ho u h
    ·exact n3 u h
   ·cases i with
    | zero =>
     simp only [List.getElem?_cons_zero,Option.some.injEq] at hx
     subst hx
     rw [Nat.zero_mul,List.drop_zero,List.take_append_of_le_length (by omega),List.take_of_length_le (by omega)]
     exact hv
    | succ i =>
     have := n4 i x (by simpa using hx)
     rw [Nat.succ_mul,Nat.add_comm,<- List.drop_drop,<- hl,List.drop_left,hl]
     exact this
 obtain ⟨news,n1,n2,n3,n4⟩ := hex
 have hbb : (xs.length + ys.length) * bytes <= 140737488355328 := Nat.le_trans (Nat.mul_le_mul hb hby) (by decide)
 obtain ⟨v',w',hrun,g1,g2,_,g4⟩ := run_append_own_at (P := Tryz.prog) w B TS ty T i0 z sz bytes hund hi hz0 hz1 hz2 hzs hsz v xs.length cs h1 ad ys.length c news n1 n2 n3 (by unfold maxLen; omega) hbb hbase
 have hok' : ∀ b,(B <= b /\ v.ownBlock ≠ some b) -> b < w.heap.size -> B <= b /\ v'.ownBlock ≠ some b := fun b hb hlt => ⟨hb.1,by
  rcases g4 with e | e
  ·rw [e]; exact hb.2
  ·rw [e]; simp only [ne_eq,Option.some.injEq]; omega⟩
 have hkeep : Keeps (fun b => B <= b /\ v.ownBlock ≠ some b) w w' := .of_grown g2 (fun b hb => hb.2)
 refine ⟨v',w',hrun,⟨cs ++ news,by rw [List.length_append]; exact g1,fun i x hx => ?_⟩,g2,g4⟩
 have hcl : cs.length = xs.length * sz := h1.1
 by_cases hlt : i < xs.length
 ·rw [List.getElem?_append_left hlt] at hx
  have hle : i * sz + sz <= xs.length * sz := by rw [<- Nat.succ_mul]; exact Nat.mul_le_mul_right _ hlt
  rw [List.drop_append_of_le_length (by omega),List.take_append_of_le_length (by rw [List.length_drop]; omega)]
  exact hP _ _ _ _ _ _ (h2 i x hx) (fun b hb hl => hok' b hb hl) hkeep g2.size
 ·rw [List.getElem?_append_right (by omega)] at hx
  obtain ⟨k,rfl⟩ : ∃ k,i = xs.length + k := ⟨i - xs.length,by omega⟩
  rw [Nat.add_sub_cancel_left] at hx
  rw [Nat.add_mul,<- hcl,<- List.drop_drop,List.drop_left]
  exact hP _ _ _ _ _ _ (n4 k x hx) (fun b hb hl => hok' b hb hl) hkeep g2.size
end Go.Proofs.YtfpeakkbbfnhcaaGreat.A
namespace Go.Proofs.YtfpeakkbbfnhcaaGreat.A
open Go.RowKit Go.Proofs.YtfpeakkbbfnhcaaGreat.D Go.Proofs.YtfpeakkbbfnhcaaGreat.O
structure Cx where
 B : Nat
 rb : Nat
 sb : Nat
 pb : Nat
 mb : Nat
 sl : Value
 L : List ByteArray
 bs : List UInt8
 top : Nat
def Fs (C : Cx) (w w' : World) : Prop := Kpt [C.rb,C.sb] w w'
theorem Fs.refl (C : Cx) (w : World) : Fs C w w := Kpt.refl _ _
theorem Fs.trans {C : Cx} {a b c : World} (h : Fs C a b) (k : Fs C b c) : Fs C a c := Kpt.trans h k (fun _ hx => .inl hx)
theorem Fs.size {C : Cx} {a b : World} (h : Fs C a b) : a.heap.size <= b.heap.size := Kpt.size h
end Go.Proofs.YtfpeakkbbfnhcaaGreat.A
namespace Go.Proofs.YtfpeakkbbfnhcaaGreat.A
open Go.RowKit Go.Proofs.YtfpeakkbbfnhcaaGreat.D Go.Proofs.YtfpeakkbbfnhcaaGreat.O
def gF (f : Fld) : Prop := f.1.size <= 100000 /\ f.2.1.2.size <= 100000
def gI (x : Ins) : Prop := szI x /\ okI x
def gM (m : Mth) : Prop := szM m /\ wfM m
def gS (s : ByteArray) : Prop := s.size <= 1000
theorem inf_str : Inf 9 38 1 16 (.string ⟨#[]⟩) := ⟨by kernel_rfl,Tryz.underlying38,rfl,by decide,by decide⟩
theorem inf_fld : Inf 87 39 4 48 (.agg #[.string ⟨#[]⟩,.int .i64 0,.string ⟨#[]⟩,.bool false]) := ⟨by kernel_rfl,Tryz.underlying39,rfl,by decide,by decide⟩
theorem inf_ins : Inf 59 46 7 88 (.agg #[.int .i64 0,.int .i32 0,.int .i64 0,.string ⟨#[]⟩,.string ⟨#[]⟩,.string ⟨#[]⟩,.string ⟨#[]⟩]) := ⟨by kernel_rfl,Tryz.underlying46,rfl,by decide,by decide⟩
theorem inf_hnd : Inf 68 47 4 40 (.agg #[.int .i64 0,.int .i64 0,.int .i64 0,.string ⟨#[]⟩]) := ⟨by kernel_rfl,Tryz.underlying47,rfl,by decide,by decide⟩
theorem inf_mth : Inf 49 40 9 128 (.agg #[.string ⟨#[]⟩,.slice none 0 0,.int .i64 0,.string ⟨#[]⟩,.bool false,.bool false,.int .i64 0,.slice none 0 0,.slice none 0 0]) := ⟨by kernel_rfl,Tryz.underlying40,rfl,by decide,by decide⟩
theorem inf_cls : Inf 42 26 6 112 (.agg #[.string ⟨#[]⟩,.string ⟨#[]⟩,.slice none 0 0,.int .i64 0,.slice none 0 0,.slice none 0 0]) := ⟨by kernel_rfl,Tryz.underlying26,rfl,by decide,by decide⟩
end Go.Proofs.YtfpeakkbbfnhcaaGreat.A
namespace Go.Proofs.YtfpeakkbbfnhcaaGreat.A
open Go.RowKit Go.Proofs.YtfpeakkbbfnhcaaGreat.D Go.Proofs.YtfpeakkbbfnhcaaGreat.O
theorem boxN {w : World} {b : Nat} {vs : List Value} {T : TypeId} (h : w.heap[b]? = some (.cells vs.toArray T (0,0))) : b < w.heap.size /\ CellsAt w b 0 vs /\ ∀ j,w.frozen? ⟨b,j,none⟩ = false := by
 refine ⟨(Array.getElem?_eq_some_iff.1 h).1,fun j u hu => ?_,fun j => ?_⟩
 ·rw [Nat.zero_add]
  simp [World.cell?,h,hu]
 ·simp [World.frozen?,h]
theorem set6 {w : World} {X : Nat} {T : TypeId} {a0 a1 a2 a3 a4 a5 v0 v1 v2 v3 v4 v5 : Value} (h : w.heap[X]? = some (.cells #[a0,a1,a2,a3,a4,a5] T (0,0))) :
  ((((((w.setCell ⟨X,0,none⟩ v0).setCell ⟨X,1,none⟩ v1).setCell ⟨X,2,none⟩ v2).setCell ⟨X,3,none⟩ v3).setCell ⟨X,4,none⟩ v4).setCell ⟨X,5,none⟩ v5).heap[X]? = some (.cells #[v0,v1,v2,v3,v4,v5] T (0,0)) /\ Kpt [X] w ((((((w.setCell ⟨X,0,none⟩ v0).setCell ⟨X,1,none⟩ v1).setCell ⟨X,2,none⟩ v2).setCell ⟨X,3,none⟩ v3).setCell ⟨X,4,none⟩ v4).setCell ⟨X,5,none⟩ v5) := by
 have h0 : (w.setCell ⟨X,0,none⟩ v0).heap[X]? = some (.cells #[v0,a1,a2,a3,a4,a5] T (0,0)) := by rw [heap_setCell_same _ X 0 _ _ _ h]; rfl
 have k0 : Kpt [X] w (w.setCell ⟨X,0,none⟩ v0) := Kpt.set _ _ _ _ _ (by simp)
 have h1 : ((w.setCell ⟨X,0,none⟩ v0).setCell ⟨X,1,none⟩ v1).heap[X]? = some (.cells #[v0,v1,a2,a3,a4,a5] T (0,0)) := by rw [heap_setCell_same _ X 1 _ _ _ h0]; rfl
 have k1 : Kpt [X] (w.setCell ⟨X,0,none⟩ v0) ((w.setCell ⟨X,0,none⟩ v0).setCell ⟨X,1,none⟩ v1) := Kpt.set _ _ _ _ _ (by simp)
 have h2 : (((w.setCell ⟨X,0,none⟩ v0).setCell ⟨X,1,none⟩ v1).setCell ⟨X,2,none⟩ v2).heap[X]? = some (.cells #[v0,v1,v2,a3,a4,a5] T (0,0)) := by rw [heap_setCell_same _ X 2 _ _ _ h1]; rfl
 have k2 : Kpt [X] ((w.setCell ⟨X,0,none⟩ v0).setCell ⟨X,1,none⟩ v1) (((w.setCell ⟨X,0,none⟩ v0).setCell ⟨X,1,none⟩ v1).setCell ⟨X,2,none⟩ v2) := Kpt.set _ _ _ _ _ (by simp)
 have h3 : ((((w.setCell ⟨X,0,none⟩ v0).setCell ⟨X,1,none⟩ v1).setCell ⟨X,2,none⟩ v2).setCell ⟨X,3,none⟩ v3).heap[X]? = some (.cells #[v0,v1,v2,v3,a4,a5] T (0,0)) := by rw [heap_setCell_same _ X 3 _ _ _ h2]; rfl
 have k3 : Kpt [X] (((w.setCell ⟨X,0,none⟩ v0).setCell ⟨X,1,none⟩ v1).setCell ⟨X,2,none⟩ v2) ((((w.setCell ⟨X,0,none⟩ v0).setCell ⟨X,1,none⟩ v1).setCell ⟨X,2,none⟩ v2).setCell ⟨X,3,none⟩ v3) := Kpt.set _ _ _ _ _ (by simp)
 have h4 : (((((w.setCell ⟨X,0,none⟩ v0).setCell ⟨X,1,none⟩ v1).setCell ⟨X,2,none⟩ v2).setCell ⟨X,3,none⟩ v3).setCell ⟨X,4,none⟩ v4).heap[X]? = some (.cells #[v0,v1,v2,v3,v4,a5] T (0,0)) := by rw [heap_setCell_same _ X 4 _ _ _ h3]; rfl
 have k4 : Kpt [X] ((((w.setCell ⟨X,0,none⟩ v0).setCell ⟨X,1,none⟩ v1).setCell ⟨X,2,none⟩ v2).setCell ⟨X,3,none⟩ v3) (((((w.setCell ⟨X,0,none⟩ v0).setCell ⟨X,1,none⟩ v1).setCell ⟨X,2,none⟩ v2).setCell ⟨X,3,none⟩ v3).setCell ⟨X,4,none⟩ v4) := Kpt.set _ _ _ _ _ (by simp)
 have h5 : ((((((w.setCell ⟨X,0,none⟩ v0).setCell ⟨X,1,none⟩ v1).setCell ⟨X,2,none⟩ v2).setCell ⟨X,3,none⟩ v3).setCell ⟨X,4,none⟩ v4).setCell ⟨X,5,none⟩ v5).heap[X]? = some (.cells #[v0,v1,v2,v3,v4,v5] T (0,0)) := by rw [heap_setCell_same _ X 5 _ _ _ h4]; rfl
 have k5 : Kpt [X] (((((w.setCell ⟨X,0,none⟩ v0).setCell ⟨X,1,none⟩ v1).setCell ⟨X,2,none⟩ v2).setCell ⟨X,3,none⟩ v3).setCell ⟨X,4,none⟩ v4) ((((((w.setCell ⟨X,0,none⟩ v0).setCell ⟨X,1,none⟩ v1).setCell ⟨X,2,none⟩ v2).setCell ⟨X,3,none⟩ v3).setCell ⟨X,4,none⟩ v4).setCell ⟨X,5,none⟩ v5) := Kpt.set _ _ _ _ _ (by simp)
 exact ⟨h5,(Kpt.trans (Kpt.trans (Kpt.trans (Kpt.trans (Kpt.trans k0 k1 (fun _ h => .inl h)) k2 (fun _ h => .inl h)) k3 (fun _ h => .inl h)) k4 (fun _ h => .inl h)) k5 (fun _ h => .inl h))⟩
theorem set9 {w : World} {X : Nat} {T : TypeId} {a0 a1 a2 a3 a4 a5 a6 a7 a8 v0 v1 v2 v3 v4 v5 v6 v7 v8 : Value} (h : w.heap[X]? = some (.cells #[a0,a1,a2,a3,a4,a5,a6,a7,a8] T (0,0))) :
  (((((((((w.setCell ⟨X,0,none⟩ v0).setCell ⟨X,1,none⟩ v1).setCell ⟨X,2,none⟩ v2).setCell ⟨X,3,none⟩ v3).setCell ⟨X,4,none⟩ v4).setCell ⟨X,5,none⟩ v5).setCell ⟨X,6,none⟩ v6).setCell ⟨X,7,none⟩ v7).setCell ⟨X,8,none⟩ v8).heap[X]? = some (.cells #[v0,v1,v2,v3,v4,v5,v6,v7,v8] T (0,0)) /\ Kpt [X] w (((((((((w.setCell ⟨X,0,none⟩ v0).setCell ⟨X,1,none⟩ v1).setCell ⟨X,2,none⟩ v2).setCell ⟨X,3,none⟩ v3).setCell ⟨X,4,none⟩ v4).setCell ⟨X,5,none⟩ v5).setCell ⟨X,6,none⟩ v6).setCell ⟨X,7,none⟩ v7).setCell ⟨X,8,none⟩ v8) := by
 have h0 : (w.setCell ⟨X,0,none⟩ v0).heap[X]? = some (.cells #[v0,a1,a2,a3,a4,a5,a6,a7,a8] T (0,0)) := by rw [heap_setCell_same _ X 0 _ _ _ h]; rfl
 have k0 : Kpt [X] w (w.setCell ⟨X,0,none⟩ v0) := Kpt.set _ _ _ _ _ (by simp)
 have h1 : ((w.setCell ⟨X,0,none⟩ v0).setCell ⟨X,1,none⟩ v1).heap[X]? = some (.cells #[v0,v1,a2,a3,a4,a5,a6,a7,a8] T (0,0)) := by rw [heap_setCell_same _ X 1 _ _ _ h0]; rfl
 have k1 : Kpt [X] (w.setCell ⟨X,0,none⟩ v0) ((w.setCell ⟨X,0,none⟩ v0).setCell ⟨X,1,none⟩ v1) := Kpt.set _ _ _ _ _ (by simp)
 have h2 : (((w.setCell ⟨X,0,none⟩ v0).setCell ⟨X,1,none⟩ v1).setCell ⟨X,2,none⟩ v2).heap[X]? = some (.cells #[v0,v1,v2,a3,a4,a5,a6,a7,a8] T (0,0)) := by rw [heap_setCell_same _ X 2 _ _ _ h1]; rfl
 have k2 : Kpt [X] ((w.setCell ⟨X,0,none⟩ v0).setCell ⟨X,1,none⟩ v1) (((w.setCell ⟨X,0,none⟩ v0).setCell ⟨X,1,none⟩ v1).setCell ⟨X,2,none⟩ v2) := Kpt.set _ _ _ _ _ (by simp)
 have h3 : ((((w.setCell ⟨X,0,none⟩ v0).setCell ⟨X,1,none⟩ v1).setCell ⟨X,2,none⟩ v2).setCell ⟨X,3,none⟩ v3).heap[X]? = some (.cells #[v0,v1,v2,v3,a4,a5,a6,a7,a8] T (0,0)) := by rw [heap_setCell_same _ X 3 _ _ _ h2]; rfl
 have k3 : Kpt [X] (((w.setCell ⟨X,0,none⟩ v0).setCell ⟨X,1,none⟩ v1).setCell ⟨X,2,none⟩ v2) ((((w.setCell ⟨X,0,none⟩ v0).setCell ⟨X,1,none⟩ v1).setCell ⟨X,2,none⟩ v2).setCell ⟨X,3,none⟩ v3) := Kpt.set _ _ _ _ _ (by simp)
 have h4 : (((((w.setCell ⟨X,0,none⟩ v0).setCell ⟨X,1,none⟩ v1).setCell ⟨X,2,none⟩ v2).setCell ⟨X,3,none⟩ v3).setCell ⟨X,4,none⟩ v4).heap[X]? = some (.cells #[v0,v1,v2,v3,v4,a5,a6,a7,a8] T (0,0)) := by rw [heap_setCell_same _ X 4 _ _ _ h3]; rfl
 have k4 : Kpt [X] ((((w.setCell ⟨X,0,none⟩ v0).setCell ⟨X,1,none⟩ v1).setCell ⟨X,2,none⟩ v2).setCell ⟨X,3,none⟩ v3) (((((w.setCell ⟨X,0,none⟩ v0).setCell ⟨X,1,none⟩ v1).setCell ⟨X,2,none⟩ v2).setCell ⟨X,3,none⟩ v3).setCell ⟨X,4,none⟩ v4) := Kpt.set _ _ _ _ _ (by simp)
 have h5 : ((((((w.setCell ⟨X,0,none⟩ v0).setCell ⟨X,1,none⟩ v1).setCell ⟨X,2,none⟩ v2).setCell ⟨X,3,none⟩ v3).setCell ⟨X,4,none⟩ v4).setCell ⟨X,5,none⟩ v5).heap[X]? = some (.cells #[v0,v1,v2,v3,v4,v5,a6,a7,a8] T (0,0)) := by rw [heap_setCell_same _ X 5 _ _ _ h4]; rfl
 have k5 : Kpt [X] (((((w.setCell ⟨X,0,none⟩ v0).setCell ⟨X,1,none⟩ v1).setCell ⟨X,2,none⟩ v2).setCell ⟨X,3,none⟩ v3).setCell ⟨X,4,none⟩ v4) ((((((w.setCell ⟨X,0,none⟩ v0).setCell ⟨X,1,none⟩ v1).setCell ⟨X,2,none⟩ v2).setCell ⟨X,3,none⟩ v3).setCell ⟨X,4,none⟩ v4).setCell ⟨X,5,none⟩ v5) := Kpt.set _ _ _ _ _ (by simp)
 have h6 : (((((((w.setCell ⟨X,0,none⟩ v0).setCell ⟨X,1,none⟩ v1).setCell ⟨X,2,none⟩ v2).setCell ⟨X,3,none⟩ v3).setCell ⟨X,4,none⟩ v4).setCell ⟨X,5,none⟩ v5).setCell ⟨X,6,none⟩ v6).heap[X]? = some (.cells #[v0,v1,v2,v3,v4,v5,v6,a7,a8] T (0,0)) := by rw [heap_setCell_same _ X 6 _ _ _ h5]; rfl
 have k6 : Kpt [X] ((((((w.setCell ⟨X,0,none⟩ v0).setCell ⟨X,1,none⟩ v1).setCell ⟨X,2,none⟩ v2).setCell ⟨X,3,none⟩ v3).setCell ⟨X,4,none⟩ v4).setCell ⟨X,5,none⟩ v5) (((((((w.setCell ⟨X,0,none⟩ v0).setCell ⟨X,1,none⟩ v1).setCell ⟨X,2,none⟩ v2).setCell ⟨X,3,none⟩ v3).setCell ⟨X,4,none⟩ v4).setCell ⟨X,5,none⟩ v5).setCell ⟨X,6,none⟩ v6) := Kpt.set _ _ _ _ _ (by simp)
 have h7 : ((((((((w.setCell ⟨X,0,none⟩ v0).setCell ⟨X,1,none⟩ v1).setCell ⟨X,2,none⟩ v2).setCell ⟨X,3,none⟩ v3).setCell ⟨X,4,none⟩ v4).setCell ⟨X,5,none⟩ v5).setCell ⟨X,6,none⟩ v6).setCell ⟨X,7,none⟩ v7).heap[X]? = some (.cells #[v0,v1,v2,v3,v4,v5,v6,v7,a8] T (0,0)) := by rw [heap_setCell_same _ X 7 _ _ _ h6]; rfl
 have k7 : Kpt [X] (((((((w.setCell ⟨X,0,none⟩ v0).setCell ⟨X,1,none⟩ v1).setCell ⟨X,2,none⟩ v2).setCell ⟨X,3,none⟩ v3).setCell ⟨X,4,none⟩ v4).setCell ⟨X,5,none⟩ v5).setCell ⟨X,6,none⟩ v6) ((((((((w.setCell ⟨X,0,none⟩ v0).setCell ⟨X,1,none⟩ v1).setCell ⟨X,2,none⟩ v2).setCell ⟨X,3,none⟩ v3).setCell ⟨X,4,none⟩ v4).setCell ⟨X,5,none⟩ v5).setCell ⟨X,6,none⟩ v6).setCell ⟨X,7,none⟩ v7) := Kpt.set _ _ _ _ _ (by simp)
 have h8 : (((((((((w.setCell ⟨X,0,none⟩ v0).setCell ⟨X,1,none⟩ v1).setCell ⟨X,2,none⟩ v2).setCell ⟨X,3,none⟩ v3).setCell ⟨X,4,none⟩ v4).setCell ⟨X,5,none⟩ v5).setCell ⟨X,6,none⟩ v6).setCell ⟨X,7,none⟩ v7).setCell ⟨X,8,none⟩ v8).heap[X]? = some (.cells #[v0,v1,v2,v3,v4,v5,v6,v7,v8] T (0,0)) := by rw [heap_setCell_same _ X 8 _ _ _ h7]; rfl
 have k8 : Kpt [X] ((((((((w.setCell ⟨X,0,none⟩ v0).setCell ⟨X,1,none⟩ v1).setCell ⟨X,2,none⟩ v2).setCell ⟨X,3,none⟩ v3).setCell ⟨X,4,none⟩ v4).setCell ⟨X,5,none⟩ v5).setCell ⟨X,6,none⟩ v6).setCell ⟨X,7,none⟩ v7) (((((((((w.setCell ⟨X,0,none⟩ v0).setCell ⟨X,1,none⟩ v1).setCell ⟨X,2,none⟩ v2).setCell ⟨X,3,none⟩ v3).setCell ⟨X,4,none⟩ v4).setCell ⟨X,5,none⟩ v5).setCell ⟨X,6,none⟩ v6).setCell ⟨X,7,none⟩ v7).setCell ⟨X,8,none⟩ v8) := Kpt.set _ _ _ _ _ (by simp)
 exact ⟨h8,(Kpt.trans (Kpt.trans (Kpt.trans (Kpt.trans (Kpt.trans (Kpt.trans (Kpt.trans (Kpt.trans k0 k1 (fun _ h => .inl h)) k2 (fun _ h => .inl h)) k3 (fun _ h => .inl h)) k4 (fun _ h => .inl h)) k5 (fun _ h => .inl h)) k6 (fun _ h => .inl h)) k7 (fun _ h => .inl h)) k8 (fun _ h => .inl h))⟩
theorem OwnX.slice {α : Type} {sz : Nat} {T : TypeId} {P : Pv α} {w : World} {B : Nat} {v : Value} {xs : List α} (h : OwnX sz T P w B v xs) : ∃ p n c,v = .slice p n c := by
 obtain ⟨cs,h1,_⟩ := h
 rcases h1.2 with ⟨rfl,hn⟩ | ⟨g,cap,cur,rfl,hb,hg,hle,_⟩
 ·exact ⟨_,_,_,rfl⟩
 ·exact ⟨_,_,_,rfl⟩
end Go.Proofs.YtfpeakkbbfnhcaaGreat.A
namespace Go.Proofs.YtfpeakkbbfnhcaaGreat.R
open Go.RowKit Go.Proofs.YtfpeakkbbfnhcaaGreat.D Go.Proofs.YtfpeakkbbfnhcaaGreat.O Go.Proofs.YtfpeakkbbfnhcaaGreat.A
def TrW (w : World) (ok : Nat -> Prop) (tb mb : Nat) (vs : Value) (K : List Cls) : Prop :=
 ok tb /\ ok mb /\ w.heap[tb]? = some (.cells #[vs,.map (some mb)] 99 (0,0)) /\ RdX 6 cP ok w vs K /\ Mp w mb K.length (K.map (·.name)) /\ SzT (K.map skOf)
theorem TrW.below {w w' : World} {ok : Nat -> Prop} {tb mb : Nat} {vs : Value} {K : List Cls} (h : TrW w ok tb mb vs K) (hb : Below w.heap.size w w') : TrW w' ok tb mb vs K := by
 obtain ⟨h1,h2,h3,h4,h5,h6⟩ := h
 exact ⟨h1,h2,(hb.block _ (Array.getElem?_eq_some_iff.1 h3).1).trans h3,h4.step cP.grow (fun _ h _ => h) (.of_below hb) hb.size,h5.kpt (.of_below hb : Kpt [] w w') (by simp),h6⟩
theorem TrW.old {w w' : World} {ok : Nat -> Prop} {tb mb : Nat} {vs : Value} {K : List Cls} (h : TrW w ok tb mb vs K) (hb : Below w.heap.size w w') : TrW w' (fun b => ok b /\ b < w.heap.size) tb mb vs K := by
 obtain ⟨h1,h2,h3,h4,h5,h6⟩ := h
 obtain ⟨es,cl,hm⟩ := h5.map
 exact ⟨⟨h1,(Array.getElem?_eq_some_iff.1 h3).1⟩,⟨h2,(Array.getElem?_eq_some_iff.1 hm).1⟩,(hb.block _ (Array.getElem?_eq_some_iff.1 h3).1).trans h3,h4.step cP.grow (fun _ h hl => ⟨h,hl⟩) (.of_below hb) hb.size,h5.kpt (.of_below hb : Kpt [] w w') (by simp),h6⟩
theorem TrW.cells {w : World} {ok : Nat -> Prop} {tb mb : Nat} {vs : Value} {K : List Cls} (h : TrW w ok tb mb vs K) : tb < w.heap.size /\ w.cell? ⟨tb,0,none⟩ = some vs /\ w.cell? ⟨tb,1,none⟩ = some (.map (some mb)) /\ w.frozen? ⟨tb,0,none⟩ = false := by
 have h3 := h.2.2.1
 refine ⟨(Array.getElem?_eq_some_iff.1 h3).1,?_,?_,?_⟩ <;> simp [World.cell?,World.frozen?,h3]
theorem TrW.few {w : World} {ok : Nat -> Prop} {tb mb : Nat} {vs : Value} {K : List Cls} (h : TrW w ok tb mb vs K) : K.length <= 1000 := by
 have := h.2.2.2.2.2.1
 rwa [List.length_map] at this
def FAns (ok : Nat -> Prop) (K : List Cls) (n : ByteArray) (w : World) (e : Ending) (w' : World) : Prop :=
 ∃ pi ni ci pf nf cf pm nm cm,e = .returned (.tuple #[.agg #[.string ((findC K n).getD noC).name,.string ((findC K n).getD noC).super,.slice pi ni ci,.int .i64 ((findC K n).getD noC).kind,.slice pf nf cf,.slice pm nm cm],.bool (findC K n).isSome]) /\
  RdX 1 (sP strC) ok w (.slice pi ni ci) ((findC K n).getD noC).ifaces /\ RdX 4 (sP fldC) ok w (.slice pf nf cf) ((findC K n).getD noC).fields /\ RdX 9 mP ok w (.slice pm nm cm) ((findC K n).getD noC).methods /\ Below w.heap.size w w'
theorem find_t (ok : Nat -> Prop) (tb mb : Nat) (vs : Value) (K : List Cls) (n : ByteArray) (w : World) (h : TrW w ok tb mb vs K) (hn : n.size <= maxLen) :
  Calls Tryz.prog 75 #[.pointer (some ⟨tb,0,none⟩),.string n] w (FAns ok K n w) := by
 have HT := hid h
 clear h
 obtain ⟨w0,hw0⟩ : ∃ x,x = w.alloc (.cells #[.string ⟨#[]⟩,.string ⟨#[]⟩,.slice none 0 0,.int .i64 0,.slice none 0 0,.slice none 0 0] 42) := ⟨_,rfl⟩
 have HB0 : Hid (Below w.heap.size w w0) := hid (by rw [hw0]; exact below_alR _ _)
 have hs0 : w0.heap.size = w.heap.size + 1 := by rw [hw0]; simp
 have HX0 : Hid (w0.heap[w.heap.size]? = some (.cells #[.string ⟨#[]⟩,.string ⟨#[]⟩,.slice none 0 0,.int .i64 0,.slice none 0 0,.slice none 0 0] 42 (0,0))) := hid (by rw [hw0]; exact heap_alloc_new _ _)
 cases hbl : bltS n with
 | some s =>
  have HBL := hid hbl
  have HF := hid (find_blt (K := K) hbl)
  clear hbl
  go_enter Tryz.func75,Tryz.ntmps75
  go_wp2_with fail
  rw [<- hw0]
  clear hw0
  refine (blt_yes n s w0 HBL.out).mono ?_
  rintro e w1 ⟨rfl,hb1⟩
  have hX1 := (hb1.block _ (by omega)).trans HX0.out
  have hs1 := hb1.size
  have HB1 := hid (HB0.out.trans (hb1.mono (by omega)))
  clear hb1 HX0
  obtain ⟨xl,xc,xf⟩ := boxN hX1
  have x0 := xc 0 _ rfl
  have z0 := xf 0
  have x1 := xc 1 _ rfl
  have z1 := xf 1
  have x2 := xc 2 _ rfl
  have z2 := xf 2
  have x3 := xc 3 _ rfl
  have z3 := xf 3
  have x4 := xc 4 _ rfl
  have z4 := xf 4
  have x5 := xc 5 _ rfl
  have z5 := xf 5
  simp only [Nat.zero_add] at x0 x1 x2 x3 x4 x5
  clear xc xf
  go_wp2_with fail
  have hk := (set6 (v0 := .string n) (v1 := .string s) (v2 := .slice none 0 0) (v3 := .int .i64 1) (v4 := .slice none 0 0) (v5 := .slice none 0 0) hX1).2
  refine bodyPost_ret (v := .tuple #[.agg #[.string n,.string s,.slice none 0 0,.int .i64 1,.slice none 0 0,.slice none 0 0],.bool true]) (by simp [*,results,Tryz.results75,go_sem]) rfl ?_
  unfold FAns
  rw [HF.out]
  exact ⟨_,_,_,_,_,_,_,_,_,rfl,RdX.nil _ _ _ _,RdX.nil _ _ _ _,RdX.nil _ _ _ _,(HB1.out.trans (hk.below (fun x hx => by simp at hx; omega) (by omega))).alloc (by simp; omega) _⟩
 | none =>
  obtain ⟨okb,hok⟩ : ∃ x,decide (n ∈ K.map (·.name)) = x := ⟨_,rfl⟩
  obtain ⟨ps,hps⟩ : ∃ x,(if n ∈ K.map (·.name) then pos (K.map (·.name)) n else 0) = x := ⟨_,rfl⟩
  have HBL := hid hbl
  clear hbl
  go_enter Tryz.func75,Tryz.ntmps75
  go_wp2_with fail
  rw [<- hw0]
  clear hw0
  refine (blt_no n w0 HBL.out).mono ?_
  rintro e w1 ⟨rfl,hb1⟩
  have hX1 := (hb1.block _ (by omega)).trans HX0.out
  have hs1 := hb1.size
  have hb01 := HB0.out.trans (hb1.mono (by omega))
  have HB1 := hid hb01
  have HT1 := hid (HT.out.below hb01)
  clear hb1 hb01 HX0
  obtain ⟨xl,xc,xf⟩ := boxN hX1
  have x0 := xc 0 _ rfl
  have z0 := xf 0
  have x1 := xc 1 _ rfl
  have z1 := xf 1
  have x2 := xc 2 _ rfl
  have z2 := xf 2
  have x3 := xc 3 _ rfl
  have z3 := xf 3
  have x4 := xc 4 _ rfl
  have z4 := xf 4
  have x5 := xc 5 _ rfl
  have z5 := xf 5
  simp only [Nat.zero_add] at x0 x1 x2 x3 x4 x5
  clear xc xf
  obtain ⟨tl,t0,t1,tz⟩ := HT1.out.cells
  have tne : tb ≠ w1.heap.size := by omega
  have hm2 := (HT1.out.2.2.2.2.1).kpt (Kpt.alloc [] w1 (.cells #[.string ⟨#[]⟩,.string ⟨#[]⟩,.slice none 0 0,.int .i64 0,.slice none 0 0,.slice none 0 0] 42)) (by simp)
  by_cases hin : n ∈ K.map (·.name)
  ·obtain rfl : true = okb := by rw [<- hok,decide_eq_true hin]
   have hps1 := hps
   rw [if_pos hin] at hps1
   obtain ⟨c,hc,hf⟩ := find_in HBL.out hin
   have HF := hid hf
   rw [hps1] at hc
   clear hps1
   have hpl : ps < K.length := (List.getElem?_eq_some_iff.1 hc).1
   have hfew := HT1.out.few
   have hne : K ≠ [] := by rintro rfl; simp at hpl
   obtain ⟨pv,capv,hv,hcap⟩ := HT.out.2.2.2.1.len
   subst hv
   obtain ⟨b,off,rfl,-,-,hBb,hbl,hcells⟩ := HT.out.2.2.2.1.place hne
   obtain ⟨l,⟨vi,vf,vm,rfl,k1,k2,k3⟩,hcell⟩ := hcells _ _ hc
   obtain ⟨pi,ci,rfl,-⟩ := k1.len
   obtain ⟨pf,cf,rfl,-⟩ := k2.len
   obtain ⟨pm,cm,rfl,-⟩ := k3.len
   have hcell1 := hcell.below HB1.out hbl
   obtain ⟨y0,y1,y2,y3,y4,y5⟩ := hcell1.six
   replace hbl : b < w1.heap.size := by omega
   have bne : b ≠ w1.heap.size := by omega
   have i0 : (0 : Int) <= (ps : Int) := by omega
   have i1 : (ps : Int) < (K.length : Int) := by omega
   have HK1 := hid k1
   have HK2 := hid k2
   have HK3 := hid k3
   clear hcells hcell hcell1 hc hf k1 k2 k3 hcap hne hBb hfew hpl
   go_wp2_with (at_lookup; refine wp_look rfl _ _ rfl mb K.length (K.map (·.name)) rfl hm2 n hn rfl true hok ps hps ?_)
   have hk := (set6 (v0 := .string c.name) (v1 := .string c.super) (v2 := .slice pi c.ifaces.length ci) (v3 := .int .i64 c.kind) (v4 := .slice pf c.fields.length cf) (v5 := .slice pm c.methods.length cm) hX1).2
   refine bodyPost_ret (v := .tuple #[.agg #[.string c.name,.string c.super,.slice pi c.ifaces.length ci,.int .i64 c.kind,.slice pf c.fields.length cf,.slice pm c.methods.length cm],.bool true]) (by simp [*,results,Tryz.results75,go_sem]) rfl ?_
   unfold FAns
   rw [HF.out]
   exact ⟨_,_,_,_,_,_,_,_,_,rfl,HK1.out,HK2.out,HK3.out,(HB1.out.trans (hk.below (fun x hx => by simp at hx; omega) (by omega))).alloc (by simp; omega) _⟩
  ·obtain rfl : false = okb := by rw [<- hok,decide_eq_false hin]
   have HF := hid (find_out HBL.out hin)
   go_wp2_with (at_lookup; refine wp_look rfl _ _ rfl mb K.length (K.map (·.name)) rfl hm2 n hn rfl false hok ps hps ?_)
   have hk := (set6 (v0 := .string ⟨#[]⟩) (v1 := .string ⟨#[]⟩) (v2 := .slice none 0 0) (v3 := .int .i64 0) (v4 := .slice none 0 0) (v5 := .slice none 0 0) hX1).2
   refine bodyPost_ret (v := .tuple #[.agg #[.string ⟨#[]⟩,.string ⟨#[]⟩,.slice none 0 0,.int .i64 0,.slice none 0 0,.slice none 0 0],.bool false]) (by simp [*,results,Tryz.results75,go_sem]) rfl ?_
   unfold FAns
   rw [HF.out]
   exact ⟨_,_,_,_,_,_,_,_,_,rfl,RdX.nil _ _ _ _,RdX.nil _ _ _ _,RdX.nil _ _ _ _,(HB1.out.trans (hk.below (fun x hx => by simp at hx; omega) (by omega))).alloc (by simp; omega) _⟩
theorem known_t (ok : Nat -> Prop) (tb mb : Nat) (vs : Value) (K : List Cls) (n : ByteArray) (w : World) (h : TrW w ok tb mb vs K) (hn : n.size <= maxLen) :
  Calls Tryz.prog 35 #[.pointer (some ⟨tb,0,none⟩),.string n] w fun e w' => e = .returned (.bool (knownT (K.map skOf) n)) /\ Below w.heap.size w w' := by
 go_enter Tryz.func35,Tryz.ntmps35
 go_wp2_with fail
 refine (find_t ok tb mb vs K n w h hn).mono ?_
 rintro e w1 ⟨pi,ni,ci,pf,nf,cf,pm,nm,cm,rfl,k1,k2,k3,hb⟩
 have HB := hid hb
 have HK := hid k1
 clear hb k1 k2 k3 h
 go_wp2_with fail
 go_ret
 exact ⟨by rw [known_sk]; rfl,HB.out.alloc HB.out.size _⟩
theorem super_t (ok : Nat -> Prop) (tb mb : Nat) (vs : Value) (K : List Cls) (n : ByteArray) (w : World) (h : TrW w ok tb mb vs K) (hn : n.size <= maxLen) :
  Calls Tryz.prog 150 #[.pointer (some ⟨tb,0,none⟩),.string n] w fun e w' => e = .returned (.string (superT (K.map skOf) n)) /\ Below w.heap.size w w' := by
 go_enter Tryz.func150,Tryz.ntmps150
 go_wp2_with fail
 refine (find_t ok tb mb vs K n w h hn).mono ?_
 rintro e w1 ⟨pi,ni,ci,pf,nf,cf,pm,nm,cm,rfl,k1,k2,k3,hb⟩
 have HB := hid hb
 have HK := hid k1
 clear hb k1 k2 k3 h
 go_wp2_with fail
 go_ret
 exact ⟨by rw [super_sk]; rfl,HB.out.alloc HB.out.size _⟩
theorem own_t (ok : Nat -> Prop) (tb mb : Nat) (vs : Value) (K : List Cls) (n : ByteArray) (w : World) (h : TrW w ok tb mb vs K) (hn : n.size <= maxLen) :
  Calls Tryz.prog 112 #[.pointer (some ⟨tb,0,none⟩),.string n] w fun e w' => ∃ p c,e = .returned (.slice p (ifsT (K.map skOf) n).length c) /\ RdX 1 (sP strC) ok w (.slice p (ifsT (K.map skOf) n).length c) (ifsT (K.map skOf) n) /\ Below w.heap.size w w' := by
 go_enter Tryz.func112,Tryz.ntmps112
 go_wp2_with fail
 refine (find_t ok tb mb vs K n w h hn).mono ?_
 rintro e w1 ⟨pi,ni,ci,pf,nf,cf,pm,nm,cm,rfl,k1,k2,k3,hb⟩
 have HB := hid hb
 have HK := hid k1
 clear hb k1 k2 k3 h
 go_wp2_with fail
 go_ret
 rw [ifs_sk]
 obtain ⟨p,c,e,-⟩ := HK.out.len
 simp only [Value.slice.injEq] at e
 obtain ⟨rfl,rfl,rfl⟩ := e
 exact ⟨_,_,rfl,HK.out,HB.out.alloc HB.out.size _⟩
theorem isif_t (ok : Nat -> Prop) (tb mb : Nat) (vs : Value) (K : List Cls) (n : ByteArray) (w : World) (h : TrW w ok tb mb vs K) (hn : n.size <= maxLen) :
  Calls Tryz.prog 49 #[.pointer (some ⟨tb,0,none⟩),.string n] w fun e w' => e = .returned (.bool (decide (kindT (K.map skOf) n = 4))) /\ Below w.heap.size w w' := by
 go_enter Tryz.func49,Tryz.ntmps49
 go_wp2_with fail
 refine (find_t ok tb mb vs K n w h hn).mono ?_
 rintro e w1 ⟨pi,ni,ci,pf,nf,cf,pm,nm,cm,rfl,k1,k2,k3,hb⟩
 have HB := hid hb
 have HK := hid k1
 clear hb k1 k2 k3 h
 go_wp2_with fail
 go_ret
 exact ⟨by rw [kind_sk]; first | rfl | simp,HB.out.alloc HB.out.size _⟩
end Go.Proofs.YtfpeakkbbfnhcaaGreat.R
namespace Go.Proofs.YtfpeakkbbfnhcaaGreat.R
open Go.RowKit Go.Proofs.YtfpeakkbbfnhcaaGreat.D Go.Proofs.YtfpeakkbbfnhcaaGreat.O Go.Proofs.YtfpeakkbbfnhcaaGreat.A
theorem cell_at {b i : Nat} {w : World} {cs : Array Value} {T : TypeId} {v : Value} (h : w.heap[b]? = some (.cells cs T (0,0))) (hv : cs[i]? = some v) : w.cell? ⟨b,i,none⟩ = some v := by
 simp only [World.cell?,h]
 exact hv
theorem jal2 (w : World) (X : Obj) (cs : Array Value) (T : TypeId) : ((w.alloc X).alloc (.cells cs T)).heap[w.heap.size + 1]? = some (.cells cs T (0,0)) := by
 have h := heap_alloc_new (w.alloc X) (.cells cs T)
 rwa [World.size_alloc] at h
theorem jbl2 (w : World) (X Y : Obj) : Below w.heap.size w ((w.alloc X).alloc Y) := (below_alR w X).trans ((below_alR _ Y).mono (by simp))
theorem set2_bl {w : World} {B g o o2 : Nat} {u v : Value} (hg : B <= g) (hB : B <= w.heap.size) : Below B w ((w.setCell ⟨g,o,none⟩ u).setCell ⟨g,o2,none⟩ v) :=
 ((Kpt.set [g] w g o u (by simp)).below (fun x hx => by simp at hx; omega) hB).trans ((Kpt.set [g] _ g o2 v (by simp)).below (fun x hx => by simp at hx; omega) (by simpa using hB))
end Go.Proofs.YtfpeakkbbfnhcaaGreat.R
