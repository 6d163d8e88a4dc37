/- Texts that the proof is made of,joined. No condition. -/
import Derived.Test.YtijnimjmimeefaaGreatSC16
import Derived.Test.YtijnimjmimeefaaGreatSC17
import Derived.Test.YtijnimjmimeefaaGreatSC14
import Derived.Test.YtijnimjmimeefaaGreatSC0
import Derived.ProofKit
import Derived.Test.YtijnimjmimeefaaGreatSC3
import Derived.Laws.IdiomArrays
import Derived.SizedLaws
import Derived.Lib.SmallJoins
import Derived.Test.YtijnimjmimeefaaGreatSCH
set_option linter.unusedVariables false
set_option linter.unusedSimpArgs false
set_option maxRecDepth 100000
set_option maxHeartbeats 16000000
namespace Go.Proofs.YtijnimjmimeefaaGreat.A
open Go.RowKit Go.Proofs.YtijnimjmimeefaaGreat.D Go.Proofs.YtijnimjmimeefaaGreat.O
theorem OwnX.type {α : Type} {sz : Nat} {T : TypeId} {P : Pv α} {w : World} {B : Nat} {v : Value} {xs : List α} (h : OwnX sz T P w B v xs) {g : Nat} (hg : v.ownBlock = some g) : ∃ cur,w.heap[g]? = some (.cells cur T (0,0)) := by
 obtain ⟨cs,h1,-⟩ := h
 rcases h1.2 with ⟨rfl,-⟩ | ⟨g',cap,cur,rfl,-,hc,-⟩
 ·cases hg
 ·cases hg
  exact ⟨cur,hc⟩
theorem OwnX.far {α : Type} {sz : Nat} {T : TypeId} {c : α -> List Value} {w : World} {B : Nat} {v : Value} {xs : List α} (h : OwnX sz T (sP c) w B v xs) {g o : Nat} (u : Value) (hg : v.ownBlock = some g) (ho : xs.length * sz <= o) : OwnX sz T (sP c) (w.setCell ⟨g,o,none⟩ u) B v xs := by
 obtain ⟨cs,h1,h2⟩ := h
 rcases h1.2 with ⟨rfl,-⟩ | ⟨g',cap,cur,rfl,hb,hc,hle,hm,hs,ht⟩
 ·cases hg
 ·cases hg
  refine ⟨cs,⟨h1.1,.inr ⟨g',cap,cur.setIfInBounds o u,rfl,hb,heap_setCell_same w g' o cur T u hc,hle,hm,by simp [hs],?_⟩⟩,h2⟩
  rw [Array.toList_setIfInBounds,List.take_set,List.set_eq_of_length_le (by rw [List.length_take]; omega),ht]
theorem OwnX.cell {α : Type} {sz : Nat} {T : TypeId} {c : α -> List Value} {w : World} {B : Nat} {v : Value} {xs : List α} (h : OwnX sz T (sP c) w B v xs) (hsz : 0 < sz) {g n j : Nat} {u : Value} (hj : j < sz) (hu : ∀ x,∃ y,c y = (c x).set j u) :
  ∃ ys,ys.length = xs.length /\ OwnX sz T (sP c) (w.setCell ⟨g,n * sz + j,none⟩ u) B v ys := by
 by_cases hg : v.ownBlock = some g
 ·by_cases hn : n < xs.length
  ·obtain ⟨y,hy⟩ := hu xs[n]
   obtain ⟨g',cap,e,-,-,-,-,-,h'⟩ := h.put1 (List.getElem?_eq_getElem hn) hj hy
   subst e
   cases hg
   exact ⟨_,by rw [List.length_set],h'⟩
  ·refine ⟨xs,rfl,h.far u hg ?_⟩
   have := Nat.mul_le_mul_right sz (Nat.not_lt.1 hn)
   omega
 ·exact ⟨xs,rfl,h.kptS (Kpt.set [g] w g (n * sz + j) u (by simp)) (fun g' e => by simp; rintro rfl; exact hg e)⟩
def Ch (w w' : World) : Prop :=
 w'.heap.size = w.heap.size /\ (∀ (b : Nat) (cs : Array Value) (T : TypeId),w.heap[b]? = some (Obj.cells cs T (0,0)) -> ∃ cs' : Array Value,w'.heap[b]? = some (Obj.cells cs' T (0,0)) /\ (T ≠ 61 -> T ≠ 63 -> T ≠ 9 -> cs' = cs)) /\
 (∀ v xs,OwnX 7 61 (sP insC) w 0 v xs -> ∃ ys,ys.length = xs.length /\ OwnX 7 61 (sP insC) w' 0 v ys) /\
 (∀ v xs,OwnX 4 63 (sP fldC) w 0 v xs -> ∃ ys,ys.length = xs.length /\ OwnX 4 63 (sP fldC) w' 0 v ys) /\
 (∀ v xs,OwnX 1 9 (sP strC) w 0 v xs -> ∃ ys,ys.length = xs.length /\ OwnX 1 9 (sP strC) w' 0 v ys)
theorem Ch.refl (w : World) : Ch w w := ⟨rfl,fun b cs T h => ⟨cs,h,fun _ _ _ => rfl⟩,fun v xs h => ⟨xs,rfl,h⟩,fun v xs h => ⟨xs,rfl,h⟩,fun v xs h => ⟨xs,rfl,h⟩⟩
theorem Ch.trans {a b c : World} (h1 : Ch a b) (h2 : Ch b c) : Ch a c := by
 obtain ⟨a1,a2,a3,a4,a5⟩ := h1
 obtain ⟨b1,b2,b3,b4,b5⟩ := h2
 refine ⟨b1.trans a1,fun b cs T h => ?_,fun v xs h => ?_,fun v xs h => ?_,fun v xs h => ?_⟩
 ·obtain ⟨cs',h1,e1⟩ := a2 b cs T h
  obtain ⟨cs'',h2,e2⟩ := b2 b cs' T h1
  exact ⟨cs'',h2,fun x y z => (e2 x y z).trans (e1 x y z)⟩
 ·obtain ⟨ys,l1,h1⟩ := a3 v xs h
  obtain ⟨zs,l2,h2⟩ := b3 v ys h1
  exact ⟨zs,l2.trans l1,h2⟩
 ·obtain ⟨ys,l1,h1⟩ := a4 v xs h
  obtain ⟨zs,l2,h2⟩ := b4 v ys h1
  exact ⟨zs,l2.trans l1,h2⟩
 ·obtain ⟨ys,l1,h1⟩ := a5 v xs h
  obtain ⟨zs,l2,h2⟩ := b5 v ys h1
  exact ⟨zs,l2.trans l1,h2⟩
theorem Ch.set {w : World} {g o : Nat} {u : Value} {cur : Array Value} {T : TypeId} (hg : w.heap[g]? = some (.cells cur T (0,0))) (hT : T = 61 ∨ T = 63 ∨ T = 9)
  (hI : T = 61 -> ∀ v xs,OwnX 7 61 (sP insC) w 0 v xs -> ∃ ys,ys.length = xs.length /\ OwnX 7 61 (sP insC) (w.setCell ⟨g,o,none⟩ u) 0 v ys)
  (hF : T = 63 -> ∀ v xs,OwnX 4 63 (sP fldC) w 0 v xs -> ∃ ys,ys.length = xs.length /\ OwnX 4 63 (sP fldC) (w.setCell ⟨g,o,none⟩ u) 0 v ys)
  (hS : T = 9 -> ∀ v xs,OwnX 1 9 (sP strC) w 0 v xs -> ∃ ys,ys.length = xs.length /\ OwnX 1 9 (sP strC) (w.setCell ⟨g,o,none⟩ u) 0 v ys) : Ch w (w.setCell ⟨g,o,none⟩ u) := by
 have hk : Kpt [g] w (w.setCell ⟨g,o,none⟩ u) := Kpt.set _ _ _ _ _ (by simp)
 have hne : ∀ {α : Type} {sz : Nat} {T' : TypeId} {c : α -> List Value} (v : Value) (xs : List α),T ≠ T' -> OwnX sz T' (sP c) w 0 v xs -> OwnX sz T' (sP c) (w.setCell ⟨g,o,none⟩ u) 0 v xs := by
  intro α sz T' c v xs hn h
  refine h.kptS hk (fun g' e => ?_)
  simp
  rintro rfl
  obtain ⟨cur',hc⟩ := h.type e
  rw [hg] at hc
  simp only [Option.some.injEq,Obj.cells.injEq] at hc
  exact hn hc.2.1
 refine ⟨by simp,fun b cs T' h => ?_,fun v xs h => ?_,fun v xs h => ?_,fun v xs h => ?_⟩
 ·by_cases e : b = g
  ·subst e
   rw [hg] at h
   simp only [Option.some.injEq,Obj.cells.injEq] at h
   obtain ⟨rfl,rfl,-⟩ := h
   exact ⟨_,heap_setCell_same w b o cur T u hg,fun x y z => by rcases hT with h | h | h; exact absurd h x; exact absurd h y; exact absurd h z⟩
  ·exact ⟨cs,(hk.2 b (Array.getElem?_eq_some_iff.1 h).1 (by simpa using e)).trans h,fun _ _ _ => rfl⟩
 ·by_cases e : T = 61
  ·exact hI e v xs h
  ·exact ⟨xs,rfl,hne v xs e h⟩
 ·by_cases e : T = 63
  ·exact hF e v xs h
  ·exact ⟨xs,rfl,hne v xs e h⟩
 ·by_cases e : T = 9
  ·exact hS e v xs h
  ·exact ⟨xs,rfl,hne v xs e h⟩
theorem Ch.ins {w : World} {g n j : Nat} {u : Value} {cur : Array Value} (hg : w.heap[g]? = some (.cells cur 61 (0,0))) (hj : j < 7) (hu : ∀ x,∃ y,insC y = (insC x).set j u) : Ch w (w.setCell ⟨g,n * 7 + j,none⟩ u) :=
 Ch.set hg (.inl rfl) (fun _ v xs h => h.cell (by decide) hj hu) (fun e => absurd e (by decide)) (fun e => absurd e (by decide))
theorem Ch.fld {w : World} {g n : Nat} {s : ByteArray} {cur : Array Value} (hg : w.heap[g]? = some (.cells cur 63 (0,0))) : Ch w (w.setCell ⟨g,n * 4,none⟩ (.string s)) :=
 Ch.set hg (.inr (.inl rfl)) (fun e => absurd e (by decide)) (fun _ v xs h => by
  have := h.cell (by decide) (g := g) (n := n) (j := 0) (u := .string s) (by decide) (fun x => ⟨(s,x.2),rfl⟩)
  exact this) (fun e => absurd e (by decide))
theorem Ch.str {w : World} {g n : Nat} {s : ByteArray} {cur : Array Value} (hg : w.heap[g]? = some (.cells cur 9 (0,0))) : Ch w (w.setCell ⟨g,n,none⟩ (.string s)) :=
 Ch.set hg (.inr (.inr rfl)) (fun e => absurd e (by decide)) (fun e => absurd e (by decide)) (fun _ v xs h => by
  have := h.cell (by decide) (g := g) (n := n) (j := 0) (u := .string s) (by decide) (fun x => ⟨s,rfl⟩)
  rwa [Nat.mul_one,Nat.add_zero] at this)
def popW (w : World) (g n : Nat) : World := ((((((w.setCell ⟨g,n * 7,none⟩ (.int .i64 6)).setCell ⟨g,n * 7 + 1,none⟩ (.int .i32 0)).setCell ⟨g,n * 7 + 2,none⟩ (.int .i64 0)).setCell ⟨g,n * 7 + 3,none⟩ (.string ⟨#[]⟩)).setCell ⟨g,n * 7 + 4,none⟩ (.string ⟨#[]⟩)).setCell ⟨g,n * 7 + 5,none⟩ (.string ⟨#[]⟩)).setCell ⟨g,n * 7 + 6,none⟩ (.string ⟨#[]⟩)
theorem Ch.pop {w : World} {g n : Nat} {cur : Array Value} (hg : w.heap[g]? = some (.cells cur 61 (0,0))) : Ch w (popW w g n) := by
 have c0 := Ch.ins (n := n) (j := 0) (u := .int .i64 6) hg (by decide) (fun x => ⟨(6,x.2),rfl⟩)
 rw [Nat.add_zero] at c0
 obtain ⟨k0,h0,-⟩ := c0.2.1 g _ _ hg
 have c1 := c0.trans (Ch.ins (n := n) (j := 1) (u := .int .i32 0) h0 (by decide) (fun x => ⟨(x.1,0,x.2.2),rfl⟩))
 obtain ⟨k1,h1,-⟩ := c1.2.1 g _ _ hg
 have c2 := c1.trans (Ch.ins (n := n) (j := 2) (u := .int .i64 0) h1 (by decide) (fun x => ⟨(x.1,x.2.1,0,x.2.2.2),rfl⟩))
 obtain ⟨k2,h2,-⟩ := c2.2.1 g _ _ hg
 have c3 := c2.trans (Ch.ins (n := n) (j := 3) (u := .string ⟨#[]⟩) h2 (by decide) (fun x => ⟨(x.1,x.2.1,x.2.2.1,⟨#[]⟩,x.2.2.2.2),rfl⟩))
 obtain ⟨k3,h3,-⟩ := c3.2.1 g _ _ hg
 have c4 := c3.trans (Ch.ins (n := n) (j := 4) (u := .string ⟨#[]⟩) h3 (by decide) (fun x => ⟨(x.1,x.2.1,x.2.2.1,x.2.2.2.1,⟨#[]⟩,x.2.2.2.2.2),rfl⟩))
 obtain ⟨k4,h4,-⟩ := c4.2.1 g _ _ hg
 have c5 := c4.trans (Ch.ins (n := n) (j := 5) (u := .string ⟨#[]⟩) h4 (by decide) (fun x => ⟨(x.1,x.2.1,x.2.2.1,x.2.2.2.1,x.2.2.2.2.1,⟨#[]⟩,x.2.2.2.2.2.2),rfl⟩))
 obtain ⟨k5,h5,-⟩ := c5.2.1 g _ _ hg
 exact c5.trans (Ch.ins (n := n) (j := 6) (u := .string ⟨#[]⟩) h5 (by decide) (fun x => ⟨(x.1,x.2.1,x.2.2.1,x.2.2.2.1,x.2.2.2.2.1,x.2.2.2.2.2.1,⟨#[]⟩),rfl⟩))
theorem popW_kpt (w : World) (g n : Nat) : Kpt [g] w (popW w g n) := by
 unfold popW
 exact ((((((Kpt.set [g] w g _ _ (by simp)).trans (Kpt.set [g] _ g _ _ (by simp)) (fun _ h => .inl h)).trans (Kpt.set [g] _ g _ _ (by simp)) (fun _ h => .inl h)).trans (Kpt.set [g] _ g _ _ (by simp)) (fun _ h => .inl h)).trans (Kpt.set [g] _ g _ _ (by simp)) (fun _ h => .inl h)).trans (Kpt.set [g] _ g _ _ (by simp)) (fun _ h => .inl h)).trans (Kpt.set [g] _ g _ _ (by simp)) (fun _ h => .inl h)
def Six (w : World) (g : Nat) : Prop := w.cell? ⟨g,0,none⟩ = some (.int .i64 6)
theorem cell_set_ne (w : World) (g o o' : Nat) (u : Value) (h : o' ≠ o) : (w.setCell ⟨g,o',none⟩ u).cell? ⟨g,o,none⟩ = w.cell? ⟨g,o,none⟩ := World.cell?_setCell_other _ _ _ _ (by simp [h])
theorem popW_first (w : World) (g n : Nat) : (popW w g n).cell? ⟨g,0,none⟩ = (w.setCell ⟨g,n * 7,none⟩ (.int .i64 6)).cell? ⟨g,0,none⟩ := by
 unfold popW
 rw [cell_set_ne _ _ _ _ _ (by omega),cell_set_ne _ _ _ _ _ (by omega),cell_set_ne _ _ _ _ _ (by omega),cell_set_ne _ _ _ _ _ (by omega),cell_set_ne _ _ _ _ _ (by omega),cell_set_ne _ _ _ _ _ (by omega)]
theorem Six.pop {w : World} {g g' n : Nat} (h : Six w g) : Six (popW w g' n) g := by
 by_cases e : g = g'
 ·subst e
  unfold Six
  rw [popW_first]
  by_cases hn : n = 0
  ·subst hn
   exact World.cell?_setCell_same _ _ _ h
  ·rw [cell_set_ne _ _ _ _ _ (by omega)]
   exact h
 ·have hk := popW_kpt w g' n
  have hlt := World.block_lt_of_cell? _ _ h
  unfold Six
  rw [World.cell?_of_block (w := w) (a := ⟨g,0,none⟩) (hk.2 g hlt (by simpa using e))]
  exact h
theorem Six.new {w : World} {g : Nat} {u : Value} (h : w.cell? ⟨g,0,none⟩ = some u) : Six (popW w g 0) g := by
 unfold Six
 rw [popW_first]
 exact World.cell?_setCell_same _ _ _ h
theorem Six.set {w : World} {g g' o : Nat} {u : Value} (h : Six w g) (hne : g ≠ g') : Six (w.setCell ⟨g',o,none⟩ u) g := by
 unfold Six
 rw [World.cell?_setCell_other _ _ _ _ (fun h => hne (congrArg Addr.block h).symm)]
 exact h
def RM (m m' : Mth) : Prop := m'.params.length = m.params.length /\ m'.code.length = m.code.length /\ m'.hs.length = m.hs.length
def RC (c c' : Cls) : Prop := c'.ifaces.length = c.ifaces.length /\ c'.fields.length = c.fields.length /\ All2 RM c.methods c'.methods
theorem All2.ex {α β γ : Type} {R : α -> β -> Prop} {S : α -> γ -> Prop} {Q : β -> γ -> Prop} (f : ∀ a b,R a b -> ∃ c,S a c /\ Q b c) : ∀ {xs : List α} {ys : List β},All2 R xs ys -> ∃ zs,All2 S xs zs /\ All2 Q ys zs
 | [],[],_ => ⟨[],trivial,trivial⟩
 | a :: xs,b :: ys,h => by
  obtain ⟨c,h1,h2⟩ := f a b h.1
  obtain ⟨zs,h3,h4⟩ := All2.ex f h.2
  exact ⟨c :: zs,⟨h1,h3⟩,⟨h2,h4⟩⟩
 | [],_ :: _,h => h.elim
 | _ :: _,[],h => h.elim
theorem OwnR.kept {α : Type} {sz : Nat} {T : TypeId} {c : α -> List Value} {ok : Nat -> Prop} {w w' : World} {v : Value} {xs : List α} (h : OwnR sz T c ok w v xs) (hk : ∀ g cur,v.ownBlock = some g -> w.heap[g]? = some (.cells cur T (0,0)) -> w'.heap[g]? = w.heap[g]?) : OwnR sz T c ok w' v xs := by
 obtain ⟨⟨cs,h1,h2⟩,h3⟩ := h
 refine ⟨⟨cs,⟨h1.1,?_⟩,h2⟩,h3⟩
 rcases h1.2 with hn | ⟨g,cap,cur,rfl,hb,hg,rest⟩
 ·exact .inl hn
 ·exact .inr ⟨g,cap,cur,rfl,hb,by rw [hk g cur rfl hg]; exact hg,rest⟩
theorem OwnR.ch {α : Type} {sz : Nat} {T : TypeId} {c : α -> List Value} {ok : Nat -> Prop} {w w' : World} {v : Value} {xs : List α} (h : OwnR sz T c ok w v xs) (hc : Ch w w') (h1 : T ≠ 61) (h2 : T ≠ 63) (h3 : T ≠ 9) : OwnR sz T c ok w' v xs :=
 h.kept fun g cur e hg => by
  obtain ⟨cs',h4,h5⟩ := hc.2.1 g cur T hg
  rw [h4,h5 h1 h2 h3,hg]
theorem OwnA.ch {ok : Nat -> Prop} {w w' : World} {rs : List (Raw 6)} {D : Arch} (h : All2 (fun r c => cO ok w (rawC r) c) rs D) (hc : Ch w w') : ∃ D',All2 (fun r c => cO ok w' (rawC r) c) rs D' /\ All2 RC D D' := by
 refine h.ex fun r c h => ?_
 obtain ⟨vi,vf,vm,e,h1,h2,rm,h3,h4⟩ := h
 obtain ⟨is,l1,g1⟩ := hc.2.2.2.2 _ _ h1.1
 obtain ⟨fs,l2,g2⟩ := hc.2.2.2.1 _ _ h2.1
 obtain ⟨ms,g4,l4⟩ := h4.ex (S := fun r m => mO ok w' (rawC r) m) (Q := RM) fun r m h => by
  obtain ⟨vp,vc,vh,e,k1,k2,k3⟩ := h
  obtain ⟨cs,l1,g1⟩ := hc.2.2.1 _ _ k2.1
  exact ⟨⟨m.name,m.params,m.ret,m.st,m.ab,m.locals,cs,m.hs⟩,⟨vp,vc,vh,e,k1.ch hc (by decide) (by decide) (by decide),⟨g1,k2.2⟩,k3.ch hc (by decide) (by decide) (by decide)⟩,rfl,l1,rfl⟩
 exact ⟨⟨c.name,c.super,is,c.kind,fs,ms⟩,⟨vi,vf,vm,e,⟨g1,h1.2⟩,⟨g2,h2.2⟩,rm,h3.ch hc (by decide) (by decide) (by decide),g4⟩,l1,l2,l4⟩
theorem RC.bd {A D : Arch} (h : All2 RC A D) (hb : bdA A) : bdA D := by
 refine ⟨by rw [<- h.len]; exact hb.1,fun c' hc' => ?_⟩
 obtain ⟨i,hi⟩ := List.getElem?_of_mem hc'
 obtain ⟨c,h1,r1,r2,r3⟩ := h.at i c' hi
 obtain ⟨b1,b2,b3,b4⟩ := hb.2 c (List.mem_of_getElem? h1)
 refine ⟨by omega,by omega,by rw [<- r3.len]; exact b3,fun m' hm' => ?_⟩
 obtain ⟨j,hj⟩ := List.getElem?_of_mem hm'
 obtain ⟨m,h2,q1,q2,q3⟩ := r3.at j m' hj
 obtain ⟨d1,d2,d3⟩ := b4 m (List.mem_of_getElem? h2)
 exact ⟨by omega,by omega,by omega⟩
theorem OwnR.cell {α : Type} {sz : Nat} {T : TypeId} {c : α -> List Value} {ok : Nat -> Prop} {w : World} {v : Value} {xs : List α} (h : OwnR sz T c ok w v xs) {i : Nat} {x : α} (hi : xs[i]? = some x) :
  ∃ g cap cur,v = .slice (some ⟨g,0,none⟩) xs.length cap /\ xs.length <= cap /\ ok g /\ w.heap[g]? = some (Obj.cells cur T (0,0)) /\ ∀ k u,(c x)[k]? = some u -> w.cell? ⟨g,i * sz + k,none⟩ = some u := by
 have hil := (List.getElem?_eq_some_iff.1 hi).1
 have hne : xs ≠ [] := fun e => by rw [e] at hil; simp at hil
 obtain ⟨g,cap,e,hle,-,-⟩ := h.1.row (by omega)
 subst e
 obtain ⟨cur,hc⟩ := h.1.type rfl
 refine ⟨g,cap,cur,rfl,hle,h.2 g rfl,hc,fun k u hu => ?_⟩
 obtain ⟨b',off',e',-,-,-,-,hcc⟩ := (h.1.rd (sP.grow c)).place hne
 simp only [Option.some.injEq,Addr.mk.injEq,and_true] at e'
 obtain ⟨rfl,rfl⟩ := e'
 have := sP_at (hcc i x hi) k u hu
 rw [Nat.zero_add] at this
 exact this
theorem OwnR.slice {α : Type} {sz : Nat} {T : TypeId} {c : α -> List Value} {ok : Nat -> Prop} {w : World} {v : Value} {xs : List α} (h : OwnR sz T c ok w v xs) : ∃ p cap,v = .slice p xs.length cap := by
 obtain ⟨p,cap,e,-⟩ := (h.1.rd (sP.grow c)).len
 exact ⟨p,cap,e⟩
theorem Ch.box {w w' : World} {g : Nat} {cur : Array Value} {T : TypeId} (hc : Ch w w') (hg : w.heap[g]? = some (Obj.cells cur T (0,0))) (h1 : T ≠ 61) (h2 : T ≠ 63) (h3 : T ≠ 9) : w'.heap[g]? = some (Obj.cells cur T (0,0)) := by
 obtain ⟨cs',e,e2⟩ := hc.2.1 g cur T hg
 rw [e,e2 h1 h2 h3]
theorem Ch.cell {w w' : World} {g o : Nat} {cur : Array Value} {T : TypeId} {u : Value} (hc : Ch w w') (hg : w.heap[g]? = some (Obj.cells cur T (0,0))) (h1 : T ≠ 61) (h2 : T ≠ 63) (h3 : T ≠ 9) (h : w.cell? ⟨g,o,none⟩ = some u) : w'.cell? ⟨g,o,none⟩ = some u := by
 rw [World.cell?_of_block (w := w) (a := ⟨g,o,none⟩) ((hc.box hg h1 h2 h3).trans hg.symm)]
 exact h
theorem unfrozen {w : World} {g : Nat} {cur : Array Value} {T : TypeId} (hg : w.heap[g]? = some (Obj.cells cur T (0,0))) (k : Nat) : w.frozen? ⟨g,k,none⟩ = false := by simp [World.frozen?,hg]
theorem Ch.code {ok : Nat -> Prop} {w w' : World} {v : Value} {xs : List Ins} (hc : Ch w w') (h : OwnR 7 61 insC ok w v xs) {n : Nat} (hn : n < xs.length) : ∃ g cap cur y,v = .slice (some ⟨g,0,none⟩) xs.length cap /\ xs.length <= cap /\ ok g /\ w'.heap[g]? = some (Obj.cells cur 61 (0,0)) /\ ∀ k u,(insC y)[k]? = some u -> w'.cell? ⟨g,n * 7 + k,none⟩ = some u := by
 obtain ⟨ys,hl,hy⟩ := hc.2.2.1 v xs h.1
 obtain ⟨g,cap,cur,e,h1,h2,h3,h4⟩ := OwnR.cell (ok := ok) ⟨hy,h.2⟩ (List.getElem?_eq_getElem (by omega : n < ys.length))
 exact ⟨g,cap,cur,_,by rw [e,hl],by omega,h2,h3,h4⟩
theorem Ch.fields {ok : Nat -> Prop} {w w' : World} {v : Value} {xs : List Fld} (hc : Ch w w') (h : OwnR 4 63 fldC ok w v xs) {n : Nat} (hn : n < xs.length) : ∃ g cap cur s,v = .slice (some ⟨g,0,none⟩) xs.length cap /\ xs.length <= cap /\ ok g /\ w'.heap[g]? = some (Obj.cells cur 63 (0,0)) /\ w'.cell? ⟨g,n * 4,none⟩ = some (.string s) := by
 obtain ⟨ys,hl,hy⟩ := hc.2.2.2.1 v xs h.1
 obtain ⟨g,cap,cur,e,h1,h2,h3,h4⟩ := OwnR.cell (ok := ok) ⟨hy,h.2⟩ (List.getElem?_eq_getElem (by omega : n < ys.length))
 exact ⟨g,cap,cur,_,by rw [e,hl],by omega,h2,h3,h4 0 _ rfl⟩
theorem Ch.strs {ok : Nat -> Prop} {w w' : World} {v : Value} {xs : List ByteArray} (hc : Ch w w') (h : OwnR 1 9 strC ok w v xs) {n : Nat} (hn : n < xs.length) : ∃ g cap cur s,v = .slice (some ⟨g,0,none⟩) xs.length cap /\ xs.length <= cap /\ ok g /\ w'.heap[g]? = some (Obj.cells cur 9 (0,0)) /\ w'.cell? ⟨g,n,none⟩ = some (.string s) := by
 obtain ⟨ys,hl,hy⟩ := hc.2.2.2.2 v xs h.1
 obtain ⟨g,cap,cur,e,h1,h2,h3,h4⟩ := OwnR.cell (ok := ok) ⟨hy,h.2⟩ (List.getElem?_eq_getElem (by omega : n < ys.length))
 have := h4 0 _ rfl
 rw [Nat.mul_one,Nat.add_zero] at this
 exact ⟨g,cap,cur,_,by rw [e,hl],by omega,h2,h3,this⟩
def First (w : World) (gd i0 gm gc : Nat) : Prop := (∃ n c,w.cell? ⟨gd,i0 * 6 + 5,none⟩ = some (.slice (some ⟨gm,0,none⟩) n c)) /\ (∃ n c,w.cell? ⟨gm,7,none⟩ = some (.slice (some ⟨gc,0,none⟩) n c)) /\ (∃ cur,w.heap[gm]? = some (Obj.cells cur 59 (0,0))) /\ (∃ cur,w.heap[gc]? = some (Obj.cells cur 61 (0,0)))
theorem First.of {ok : Nat -> Prop} {w : World} {gd n cp : Nat} {rs : List (Raw 6)} {D : Arch} {i0 : Nat} {c : Cls} {m : Mth} {x : Ins} (h : OwnR 6 52 rawC ok w (.slice (some ⟨gd,0,none⟩) n cp) rs) (h2 : All2 (fun r c => cO ok w (rawC r) c) rs D) (hc : D[i0]? = some c) (hm : c.methods[0]? = some m) (hx : m.code[0]? = some x) :
  ∃ gm gc,First w gd i0 gm gc /\ w.cell? ⟨gc,0,none⟩ = some (.int .i64 x.1) := by
 obtain ⟨r,hr,vi,vf,vm,er,-,-,rm,k3,k4⟩ := h2.at i0 c hc
 obtain ⟨q,hq,vp,vc,vh,eq,-,c2,-⟩ := k4.at 0 m hm
 obtain ⟨g1,cap1,cur1,e1,-,-,t1,f1⟩ := h.cell hr
 simp only [Value.slice.injEq,Option.some.injEq,Addr.mk.injEq,and_true] at e1
 obtain ⟨rfl,-⟩ := e1
 obtain ⟨g2,cap2,cur2,rfl,-,-,t2,f2⟩ := k3.cell hq
 obtain ⟨g3,cap3,cur3,rfl,-,-,t3,f3⟩ := c2.cell hx
 have a1 := f1 5 _ (by rw [er]; rfl)
 have a2 := f2 7 _ (by rw [eq]; rfl)
 have a3 := f3 0 _ rfl
 simp only [Nat.zero_mul,Nat.zero_add] at a2 a3
 exact ⟨g2,g3,⟨⟨_,_,a1⟩,⟨_,_,a2⟩,⟨_,t2⟩,⟨_,t3⟩⟩,a3⟩
theorem First.same {w w' : World} {gd i0 gm gc gm' gc' : Nat} {cur : Array Value} (h : First w gd i0 gm gc) (h' : First w' gd i0 gm' gc') (hc : Ch w w') (hd : w.heap[gd]? = some (Obj.cells cur 52 (0,0))) : gm' = gm /\ gc' = gc := by
 obtain ⟨⟨n1,c1,a1⟩,⟨n2,c2,a2⟩,⟨k1,t1⟩,-⟩ := h
 obtain ⟨⟨n3,c3,b1⟩,⟨n4,c4,b2⟩,-,-⟩ := h'
 have e1 := hc.cell hd (by decide) (by decide) (by decide) a1
 rw [b1] at e1
 simp only [Option.some.injEq,Value.slice.injEq,Addr.mk.injEq,and_true] at e1
 obtain ⟨rfl,-⟩ := e1
 have e2 := hc.cell t1 (by decide) (by decide) (by decide) a2
 rw [b2] at e2
 simp only [Option.some.injEq,Value.slice.injEq,Addr.mk.injEq,and_true] at e2
 exact ⟨rfl,e2.1⟩
end Go.Proofs.YtijnimjmimeefaaGreat.A
namespace Go.Proofs.YtijnimjmimeefaaGreat.A
open Go.RowKit Go.Proofs.YtijnimjmimeefaaGreat.D Go.Proofs.YtijnimjmimeefaaGreat.O
theorem rounds_bd : ∀ (q : Nat) (l : List Nat) (st : BS),(roundsS q l st).1.length <= st.1.length + 18 * q /\ (roundsS q l st).2.length <= st.2.length + q
 | 0,l,st => by cases l <;> exact ⟨Nat.le_refl _,Nat.le_refl _⟩
 | q + 1,[],st => by show st.1.length <= _ /\ st.2.length <= _; omega
 | q + 1,[_],st => by show st.1.length <= _ /\ st.2.length <= _; omega
 | q + 1,a :: b :: l,st => by
  have h1 := rounds_bd q l (roundS a b st)
  have h2 := roundS_len a b st
  show (roundsS q l (roundS a b st)).1.length <= _ /\ (roundsS q l (roundS a b st)).2.length <= _
  omega
theorem body_bd (l : List Nat) : (bodyS l).1.length <= 1000 /\ (bodyS l).2.length <= 1000 := by
 have h0 : ∀ st : BS,st.1.length <= 11 -> st.2.length <= 0 -> ((roundsS 20 l st).1 ++ [iOne 40]).length <= 1000 /\ (roundsS 20 l st).2.length <= 1000 := by
  intro st a b
  have := rounds_bd 20 l st
  rw [List.length_append,List.length_cons,List.length_nil]
  omega
 exact h0 _ (by simp) (by simp)
def mB (m : Mth) : Bool := decide (m.params.length <= 1000) && decide (m.code.length <= 1000) && decide (m.hs.length <= 1000)
theorem mB_of {m : Mth} (h : mB m = true) : bdM m := by
 unfold mB at h
 simp only [Bool.and_eq_true,decide_eq_true_eq] at h
 unfold bdM
 omega
def cB (c : Cls) : Bool := decide (c.ifaces.length <= 1000) && decide (c.fields.length <= 1000) && decide (c.methods.length <= 1000) && c.methods.all mB
theorem cB_of {c : Cls} (h : cB c = true) : bdC c := by
 unfold cB at h
 simp only [Bool.and_eq_true,decide_eq_true_eq,List.all_eq_true] at h
 exact ⟨by omega,by omega,by omega,fun m hm => mB_of (h.2 m hm)⟩
theorem all_app {α : Type} {f : α -> Bool} {l m : List α} (h1 : l.all f = true) (h2 : m.all f = true) : (l ++ m).all f = true := by rw [List.all_append,h1,h2]; rfl
theorem all_when {α : Type} {f : α -> Bool} {b : Bool} {l : List α} (h : l.all f = true) : (whenS b l).all f = true := by unfold whenS; split; exact h; rfl
theorem when_le {α : Type} (b : Bool) (l : List α) : (whenS b l).length <= l.length := by unfold whenS; split <;> simp
theorem run_mB (c : ByteArray) (n : Nat) : mB (runS c n) = true := by
 unfold mB runS mthS
 simp only [Bool.and_eq_true,decide_eq_true_eq]
 refine ⟨⟨by simp,?_⟩,by simp⟩
 rw [List.length_append]
 split
 ·simp
 ·split <;> simp
theorem cls_bd {nm su : ByteArray} {is : List ByteArray} {k : Int} {fs : List Fld} {ms : List Mth} (h1 : is.length <= 1000) (h2 : fs.length <= 1000) (h3 : ms.length <= 1000) (h4 : ms.all mB = true) : bdC ⟨nm,su,is,k,fs,ms⟩ :=
 ⟨by show is.length <= _; omega,by show fs.length <= _; omega,by show ms.length <= _; omega,fun m hm => mB_of (List.all_eq_true.1 h4 m hm)⟩
theorem one_mB {m : Mth} (h : mB m = true) : [m].all mB = true := by simp [h]
theorem arch_bd (k0 k1 k2 k3 : Nat) (l m : List Nat) : bdA (archS k0 k1 k2 k3 l m) /\ (archS k0 k1 k2 k3 l m).length = 13 := by
 have key : ∀ a : Arch,(∀ c ∈ a,bdC c) -> a.length = 13 -> bdA (if bitS k2 2 then a.reverse else a) /\ (if bitS k2 2 then a.reverse else a).length = 13 := by
  intro a ha hl
  split
  ·exact ⟨⟨by rw [List.length_reverse]; omega,fun c hc => ha c (List.mem_reverse.1 hc)⟩,by rw [List.length_reverse]; exact hl⟩
  ·exact ⟨⟨by omega,ha⟩,hl⟩
 have w : ∀ {α : Type} (b : Bool) (x : α),(whenS b [x]).length <= 1 := fun b x => when_le b [x]
 unfold archS
 refine key _ (fun c hc => ?_) rfl
 unfold familyS at hc
 simp only [List.mem_append,List.mem_cons,List.not_mem_nil,or_false] at hc
 rcases hc with ((rfl | rfl | rfl) | (rfl | rfl | rfl | rfl | rfl | rfl)) | (rfl | rfl | rfl | rfl)
 ·refine cls_bd (by simp) (by simp) ?_ (all_app ?_ (all_when (by decide +kernel)))
  ·have := w (bitS k2 0) (clinitS ⟨#[109,97,105,110]⟩)
   rw [List.length_append]
   simp only [List.length_cons,List.length_nil]
   omega
  ·have h1 := body_bd l
   have h2 := body_bd m
   simp [mB,h1.1,h1.2,h2.1,h2.2]
 ·exact cB_of (by decide +kernel)
 ·exact cls_bd (by simp) (by simp) (Nat.le_trans (w _ _) (by decide)) (all_when (by decide +kernel))
 ·refine cls_bd (by simp) (by simp) ?_ (all_app (all_app (by decide +kernel) (all_when (by decide +kernel))) (all_when (by decide +kernel)))
  have := w (bitS k0 0) absS
  have := w (bitS k0 1) (clinitS ⟨#[98,97,115,101]⟩)
  simp only [List.length_append,List.length_cons,List.length_nil]
  omega
 ·refine cls_bd (by simp) (by simp) ?_ (all_app (one_mB (run_mB _ _)) (all_when (by decide +kernel)))
  have := w (bitS k0 2) (clinitS ⟨#[97]⟩)
  simp only [List.length_append,List.length_cons,List.length_nil]
  omega
 ·refine cls_bd (by simp) (by simp) ?_ (all_app (all_when (one_mB (run_mB _ _))) (all_when (by decide +kernel)))
  rw [List.length_append]
  exact Nat.le_trans (Nat.add_le_add (w _ _) (w _ _)) (by decide)
 ·exact cls_bd (Nat.le_trans (w _ _) (by decide)) (by simp) (by simp) rfl
 ·refine cls_bd (by simp) (by simp) ?_ (all_app ?_ (all_when (by decide +kernel)))
  ·rw [List.length_append]
   exact Nat.le_trans (Nat.add_le_add (Nat.le_refl _) (w _ _)) (by simp)
  ·simp only [List.all_cons,List.all_nil,run_mB,Bool.true_and,Bool.and_true]
   decide +kernel
 ·refine cls_bd (by simp) (by simp) ?_ (all_app (one_mB (run_mB _ _)) (all_when (by decide +kernel)))
  have := w (bitS k1 0) (clinitS ⟨#[100]⟩)
  simp only [List.length_append,List.length_cons,List.length_nil]
  omega
 ·exact cB_of (by decide +kernel)
 ·exact cB_of (by decide +kernel)
 ·exact cB_of (by decide +kernel)
 ·unfold utilS
  refine cls_bd (by simp) (by simp) ?_ (all_app ?_ ?_)
  ·rw [List.length_append]; split <;> split <;> simp
  ·split <;> decide +kernel
  ·split <;> decide +kernel
end Go.Proofs.YtijnimjmimeefaaGreat.A
namespace Go.Proofs.YtijnimjmimeefaaGreat.A
open Go.RowKit Go.Proofs.YtijnimjmimeefaaGreat.D Go.Proofs.YtijnimjmimeefaaGreat.O
theorem first_len {A : Arch} {i0 i : Nat} {c c0 : Cls} {m0 : Mth} {x0 : Ins} (h0 : A[i0]? = some c0) (hm : c0.methods[0]? = some m0) (hx : m0.code[0]? = some x0) (h : A[i]? = some c) (e : i0 = i) : 0 < c.methods.length /\ ∀ m,c.methods[0]? = some m -> 0 < m.code.length := by
 subst e
 rw [h0] at h
 cases h
 refine ⟨(List.getElem?_eq_some_iff.1 hm).1,fun m h => ?_⟩
 rw [hm] at h
 cases h
 exact (List.getElem?_eq_some_iff.1 hx).1
theorem arch_first (k0 k1 k2 k3 : Nat) (l m : List Nat) : ∃ (i : Nat) (c : Cls) (q : Mth) (x : Ins),(archS k0 k1 k2 k3 l m)[i]? = some c /\ c.methods[0]? = some q /\ q.code[0]? = some x /\ x.1 = 1 := by
 have h0 : ∀ (q : Nat) (l : List Nat) (st : BS),st.1[0]? = some (iNum 1) -> (roundsS q l st).1[0]? = some (iNum 1) := by
  have hs : ∀ (k : Nat) (n : Int) (st : BS),st.1[0]? = some (iNum 1) -> (snip k n st).1[0]? = some (iNum 1) := by
   intro k n st h
   have hl : 0 < st.1.length := (List.getElem?_eq_some_iff.1 h).1
   have ha : ∀ (l : List Ins) (s : BS),s.1[0]? = some (iNum 1) -> (bAdd l s).1[0]? = some (iNum 1) := fun l s h => by
    show (s.1 ++ l)[0]? = _
    rw [List.getElem?_append_left (List.getElem?_eq_some_iff.1 h).1]; exact h
   have ht : ∀ f c t (s : BS),s.1[0]? = some (iNum 1) -> (bTry f c t s).1[0]? = some (iNum 1) := fun f c t s h => by
    show (s.1 ++ [iAt 19 ((s.1.length : Int) + 4)] ++ [iOne 6,iStr t,iOne 41])[0]? = _
    rw [List.append_assoc,List.getElem?_append_left (List.getElem?_eq_some_iff.1 h).1]; exact h
   have hb : ∀ i f (s : BS),0 < i -> s.1[0]? = some (iNum 1) -> (bSet i f s).1[0]? = some (iNum 1) := fun i f s hi h => by
    show (s.1.modify i f)[0]? = _
    rw [List.getElem?_modify,h]
    have : ¬ i = 0 := by omega
    simp [this]
   unfold snip
   split
   all_goals first | exact ha _ _ h | exact ht _ _ _ _ (ha _ _ h) | exact ha _ _ (hb _ _ _ (by omega) (ha _ _ (ha _ _ h))) | exact hb _ _ _ hl (ha _ _ h)
  intro q
  induction q with
  | zero => intro l st h; cases l <;> exact h
  | succ q ih =>
   intro l st h
   match l with
   | [] => exact h
   | [_] => exact h
   | a :: b :: l =>
    refine ih l _ ?_
    unfold roundS
    split
    ·show ((snip (a % 40) b st).1 ++ [iNum b,iOne 43])[0]? = _
     have := hs (a % 40) b st h
     rw [List.getElem?_append_left (List.getElem?_eq_some_iff.1 this).1]; exact this
    ·exact hs (a % 40) b st h
 have hb : (bodyS l).1[0]? = some (iNum 1) := by
  have := h0 20 l ([iNum 1,iAt 5 0,iStr ⟨#[115]⟩,iAt 5 1,iNum 3,iOne 21,iAt 5 2,iOf 25 ⟨#[65]⟩,iAt 5 3,iOne 3,iAt 5 4],[]) rfl
  unfold bodyS
  show (_ ++ [iOne 40])[0]? = _
  rw [List.getElem?_append_left (List.getElem?_eq_some_iff.1 this).1]; exact this
 have key : ∀ (x : Cls) (a : Arch),∃ i : Nat,(if bitS k2 2 then (x :: a).reverse else x :: a)[i]? = some x := by
  intro x a
  split
  ·refine ⟨a.length,?_⟩
   rw [List.reverse_cons,List.getElem?_append_right (by simp)]
   simp
  ·exact ⟨0,rfl⟩
 obtain ⟨i,hi⟩ := key (mainS k2 l m) ([⟨⟨#[73]⟩,⟨#[79,98,106,101,99,116]⟩,[],4,[],[absS]⟩,⟨⟨#[74]⟩,⟨#[79,98,106,101,99,116]⟩,[⟨#[73]⟩],4,[],whenS (bitS k2 1) [absS]⟩] ++ familyS k0 k1 k2 k3 ++ [⟨⟨#[69,114,114]⟩,⟨#[70,97,117,108,116]⟩,[],1,[],[]⟩,⟨⟨#[69,114,114,50]⟩,⟨#[69,114,114]⟩,[],1,[],[]⟩,⟨⟨#[71,111,110,101]⟩,⟨#[65]⟩,[],1,[],[mthS ⟨#[102]⟩ [tI] tI true 1 [iOf 25 ⟨#[71,111,110,101]⟩,iOne 6,iAt 4 0,iOne 39]]⟩,utilS k3])
 exact ⟨i,_,_,_,hi,rfl,hb,rfl⟩
theorem copies_v (k0 k1 k2 k3 : Nat) (bl : List UInt8) (pl : Option Addr) (cl : Nat) (w : World) (hg : Glob w) (h0 : k0 < 256) (h1 : k1 < 256) (h2 : k2 < 256) (h3 : k3 < 256) (hl : Rd w (.slice pl bl.length cl) bl) (hpl : bl = [] ∨ ∀ g,(Value.slice pl bl.length cl).ownBlock = some g -> g < w.heap.size) (hbl : bl.length <= 9223372036854775807) :
  Calls Tryz.prog 6 #[.agg #[.int .u8 (k0 : Int),.int .u8 (k1 : Int),.int .u8 (k2 : Int),.int .u8 (k3 : Int)],.slice pl bl.length cl] w fun e w' => e = .returned (.bool true) /\ Below w.heap.size w w' := by
 have HG := hid hg
 have HL := hid hl
 have HPL := hid hpl
 clear hg hl hpl
 go_enter Tryz.func6,Tryz.ntmps6
 go_wp2_with fail
 obtain ⟨w0,hw0⟩ : ∃ x,x = w.alloc (.cells #[.int .u8 (k0 : Int),.int .u8 (k1 : Int),.int .u8 (k2 : Int),.int .u8 (k3 : Int)] 25) := ⟨_,rfl⟩
 rw [<- hw0]
 have hb0 : Below w.heap.size w w0 := by rw [hw0]; exact below_alM _ _
 have HKB : Hid (w0.heap[w.heap.size]? = some (.cells #[.int .u8 (k0 : Int),.int .u8 (k1 : Int),.int .u8 (k2 : Int),.int .u8 (k3 : Int)] 25 (0,0))) := hid (by rw [hw0]; exact heap_alloc_new _ _)
 have hs0 : w0.heap.size = w.heap.size + 1 := by rw [hw0]; simp
 clear hw0
 replace HG := hid (HG.out.below hb0 (Nat.le_refl _))
 have HB0 := hid hb0
 clear hb0
 refine (known_a w0 HG.out).mono ?_
 rintro e w1 ⟨rfl,hb⟩
 replace HG := hid (HG.out.below hb (Nat.le_refl _))
 replace HKB := hid ((hb.block _ (by omega)).trans HKB.out)
 have hs1 := hb.size
 have HB1 := hid (HB0.out.trans (hb.mono (by omega)))
 clear hb HB0
 by_cases hlen : 40 < bl.length
 ·have hlen' : (40 : Int) < (bl.length : Int) := by omega
  go_wp2_with fail
  go_ret
  exact ⟨rfl,HB1.out⟩
 ·have hlen' : (bl.length : Int) <= 40 := by omega
  obtain ⟨kbl,kc,kf⟩ := boxN HKB.out
  have kk0 := kc 0 _ rfl
  have kz0 := kf 0
  have kk1 := kc 1 _ rfl
  have kz1 := kf 1
  have kk2 := kc 2 _ rfl
  have kz2 := kf 2
  have kk3 := kc 3 _ rfl
  have kz3 := kf 3
  simp only [Nat.zero_add] at kk0 kk1 kk2 kk3
  clear kc kf
  have hrl : Rd w1 (.slice pl bl.length cl) bl := HL.out.below HB1.out HPL.out
  have hpl1 : bl = [] ∨ ∀ g,(Value.slice pl bl.length cl).ownBlock = some g -> g < w1.heap.size := HPL.out.imp id (fun h g e => Nat.lt_of_lt_of_le (h g e) (by omega))
  have HRL := hid hrl
  have HPL1 := hid hpl1
  clear hrl hpl1
  go_wp2_with fail
  refine (archive_v k0 k1 k2 k3 bl [] _ _ w1 h0 h1 h2 h3 HRL.out (rd_nil _) HPL1.out (.inl rfl) (by omega) (by decide)).mono ?_
  rintro e w2 ⟨pA,nA,cA,rfl,hrA,hb2⟩
  obtain ⟨hbd,h13⟩ := arch_bd k0 k1 k2 k3 (bl.map fun b => b.toNat) (([] : List UInt8).map fun b => b.toNat)
  have hfirst := arch_first k0 k1 k2 k3 (bl.map fun b => b.toNat) (([] : List UInt8).map fun b => b.toNat)
  obtain ⟨A,hA⟩ : ∃ A,A = archS k0 k1 k2 k3 (bl.map fun b => b.toNat) (([] : List UInt8).map fun b => b.toNat) := ⟨_,rfl⟩
  rw [<- hA] at hrA hbd h13 hfirst
  clear hA
  have HBD := hid hbd
  have hA1 := hbd.1
  obtain ⟨i0,c0,m0,x0,hi0,hm0,hx0,hop⟩ := hfirst
  have HI0 := hid hi0
  have HM0 := hid hm0
  have HX0 := hid hx0
  have hi0l : i0 < A.length := (List.getElem?_eq_some_iff.1 hi0).1
  have H13 := hid h13
  clear h13 hi0 hm0 hx0 hbd HRL HPL1 HPL HL
  obtain ⟨nA',cA',eA,-⟩ := hrA.len
  simp only [Value.slice.injEq] at eA
  obtain ⟨-,rfl,-⟩ := eA
  replace HG := hid (HG.out.below hb2 (Nat.le_refl _))
  have hs2 := hb2.size
  have HB2 := hid (HB1.out.trans (hb2.mono HB1.out.size))
  have HRA := hid (hrA.step (ok' := anyB) cP.grow (fun _ _ _ => trivial) (fun _ _ _ => rfl) (Nat.le_refl _))
  clear hb2 hrA HB1 HKB kbl kk0 kz0 kk1 kz1 kk2 kz2 kk3 kz3
  go_upto_region 6 with fail
  obtain ⟨w3,hw3⟩ : ∃ x,x = w2.alloc (.cells #[.slice pA A.length cA] 24) := ⟨_,rfl⟩
  rw [<- hw3]
  have hbw3 : Below w2.heap.size w2 w3 := by rw [hw3]; exact below_alM _ _
  have HTA : Hid (w3.heap[w2.heap.size]? = some (.cells #[.slice pA A.length cA] 24 (0,0))) := hid (by rw [hw3]; exact heap_alloc_new _ _)
  have hsw3 : w3.heap.size = w2.heap.size + 1 := by rw [hw3]; simp
  clear hw3
  obtain ⟨ta,hta⟩ : ∃ x,x = w2.heap.size := ⟨_,rfl⟩
  rw [<- hta] at HTA
  rw [<- hta]
  have Qta : ta < w3.heap.size := by omega
  clear hta
  replace HRA := hid (HRA.out.any cP.grow hbw3)
  replace HG := hid (HG.out.below hbw3 (Nat.le_refl _))
  have HB3 := hid (HB2.out.trans (hbw3.mono HB2.out.size))
  clear hbw3 HB2
  obtain ⟨al,ac,af⟩ := boxN HTA.out
  have a0 := ac 0 _ rfl
  have az0 := af 0
  simp only [Nat.zero_add] at a0
  clear ac af
  go_wp2_with fail
  refine (copy_v A pA _ cA w3 HRA.out (copied_few HBD.out)).mono ?_
  rintro e w4 ⟨pC,nC,cC,rfl,hrC,hb4⟩
  obtain ⟨pC',cC',eC,-⟩ := hrC.len
  simp only [Value.slice.injEq] at eC
  obtain ⟨-,rfl,-⟩ := eC
  replace HRA := hid (HRA.out.any cP.grow hb4)
  replace HG := hid (HG.out.below hb4 (Nat.le_refl _))
  have HB4 := hid (HB3.out.trans (hb4.mono HB3.out.size))
  replace HTA := hid ((hb4.block _ al).trans HTA.out)
  have hs4 := hb4.size
  have HRC := hid (hrC.step (ok' := anyB) cP.grow (fun _ _ _ => trivial) (fun _ _ _ => rfl) (Nat.le_refl _))
  clear hb4 hrC HB3 a0 az0
  go_upto_region 7 with fail
  obtain ⟨w5,hw5⟩ : ∃ x,x = w4.alloc (.cells #[.slice pC A.length cC] 24) := ⟨_,rfl⟩
  rw [<- hw5]
  have hbw5 : Below w4.heap.size w4 w5 := by rw [hw5]; exact below_alM _ _
  have HTC : Hid (w5.heap[w4.heap.size]? = some (.cells #[.slice pC A.length cC] 24 (0,0))) := hid (by rw [hw5]; exact heap_alloc_new _ _)
  have hsw5 : w5.heap.size = w4.heap.size + 1 := by rw [hw5]; simp
  clear hw5
  obtain ⟨tc,htc⟩ : ∃ x,x = w4.heap.size := ⟨_,rfl⟩
  rw [<- htc] at HTC
  rw [<- htc]
  have Qtc : tc < w5.heap.size := by omega
  clear htc
  replace HRA := hid (HRA.out.any cP.grow hbw5)
  replace HRC := hid (HRC.out.any cP.grow hbw5)
  have HRAB0 := hid (HRA.out.step (ok' := fun b => b < w5.heap.size /\ True) cP.grow (fun b _ h => ⟨h,trivial⟩) (fun _ _ _ => rfl) (Nat.le_refl _))
  have HRCB0 := hid (HRC.out.step (ok' := fun b => b < w5.heap.size /\ True) cP.grow (fun b _ h => ⟨h,trivial⟩) (fun _ _ _ => rfl) (Nat.le_refl _))
  replace HG := hid (HG.out.below hbw5 (Nat.le_refl _))
  have HB5 := hid (HB4.out.trans (hbw5.mono HB4.out.size))
  replace HTA := hid ((hbw5.block _ (by omega)).trans HTA.out)
  clear hbw5 HB4 al
  obtain ⟨al,ac,af⟩ := boxN HTC.out
  have a0 := ac 0 _ rfl
  have az0 := af 0
  simp only [Nat.zero_add] at a0
  clear ac af
  go_wp2_with fail
  refine (copyo_v A pC _ cC w5 HRC.out (copied_few HBD.out)).mono ?_
  rintro e w6 ⟨pD,nD,cD,rfl,hoD,hb6⟩
  obtain ⟨pD',cD',eD,-⟩ := hoD.rd.len
  simp only [Value.slice.injEq] at eD
  obtain ⟨-,rfl,-⟩ := eD
  replace HRA := hid (HRA.out.any cP.grow hb6)
  replace HRC := hid (HRC.out.any cP.grow hb6)
  replace HTA := hid ((hb6.block _ (by omega)).trans HTA.out)
  replace HTC := hid ((hb6.block _ (by omega)).trans HTC.out)
  have HB6 := hid (HB5.out.trans (hb6.mono HB5.out.size))
  have hs6 := hb6.size
  have HB56 := hid hb6
  have HOD := hid hoD
  clear hb6 hoD a0 az0 al
  go_upto_region 8 with fail
  obtain ⟨w7,hw7⟩ : ∃ x,x = w6.alloc (.cells #[.slice pD A.length cD] 24) := ⟨_,rfl⟩
  rw [<- hw7]
  have hbw7 : Below w6.heap.size w6 w7 := by rw [hw7]; exact below_alM _ _
  have HTD : Hid (w7.heap[w6.heap.size]? = some (.cells #[.slice pD A.length cD] 24 (0,0))) := hid (by rw [hw7]; exact heap_alloc_new _ _)
  have hsw7 : w7.heap.size = w6.heap.size + 1 := by rw [hw7]; simp
  clear hw7
  obtain ⟨td,htd⟩ : ∃ x,x = w6.heap.size := ⟨_,rfl⟩
  rw [<- htd] at HTD
  rw [<- htd]
  have Qtd : td < w7.heap.size := by omega
  clear htd
  have hrs := HOD.out
  obtain ⟨rs,hrs1,hrs2⟩ := hrs
  have HR1 := hid (hrs1.step (fun _ h _ => h) (.of_below hbw7))
  have HR2 := hid (hrs2.imp (fun r c h => cO.grow _ _ _ _ _ _ h (fun _ h _ => h) (.of_below hbw7) hbw7.size))
  have hrl : rs.length = A.length := hrs2.len
  replace HRA := hid (HRA.out.any cP.grow hbw7)
  replace HRC := hid (HRC.out.any cP.grow hbw7)
  replace HTA := hid ((hbw7.block _ (by omega)).trans HTA.out)
  replace HTC := hid ((hbw7.block _ (by omega)).trans HTC.out)
  have HB7 := hid (HB6.out.trans (hbw7.mono HB6.out.size))
  replace HB56 := hid (HB56.out.trans (hbw7.mono HB56.out.size))
  have HRAB := hid (HRAB0.out.step cP.grow (fun _ h _ => h) (.of_below' HB56.out (fun _ h => h.1)) HB56.out.size)
  have HRCB := hid (HRCB0.out.step cP.grow (fun _ h _ => h) (.of_below' HB56.out (fun _ h => h.1)) HB56.out.size)
  clear HRAB0 HRCB0
  clear hbw7 hrs1 hrs2 HOD HB6 HB5
  obtain ⟨r0,hr0⟩ : ∃ r,rs[0]? = some r := ⟨_,List.getElem?_eq_getElem (by omega)⟩
  obtain ⟨gd,capd,curd,ed,-,hgd,hgt,-⟩ := HR1.out.cell hr0
  simp only [Value.slice.injEq] at ed
  obtain ⟨rfl,-,rfl⟩ := ed
  have HGT := hid hgt
  obtain ⟨gm0,gc0,hfst,hfc⟩ := First.of HR1.out HR2.out HI0.out HM0.out HX0.out
  have HF := hid hfst
  have HFC := hid hfc
  clear hr0 r0 hgt hfst hfc
  obtain ⟨al,ac,af⟩ := boxN HTA.out
  have a0 := ac 0 _ rfl
  have az0 := af 0
  simp only [Nat.zero_add] at a0
  clear ac af
  obtain ⟨dl,dc,df⟩ := boxN HTD.out
  have d0 := dc 0 _ rfl
  have dz0 := df 0
  simp only [Nat.zero_add] at d0
  clear dc df
  have hAl : (A.length : Int) = 13 := by have := H13.out; omega
  go_wp2_with fail
  clear a0 az0 d0 dz0 hAl
  go_loopw [8] (fun v wr => ∃ i : Nat,v = .int .i64 (i : Int) /\ i <= A.length /\ Hid (Ch w7 wr) /\ Hid (Below w5.heap.size w7 wr) /\ Hid (i0 < i -> Six wr gc0)) (fun v _ => A.length - (intOf v).toNat)
  case atStart => exact ⟨0,rfl,by omega,hid (Ch.refl _),hid (Below.refl _ _),hid (fun h => absurd h (by omega))⟩
  case round =>
   obtain ⟨i,rfl,hin,HCH,HBL,HSX⟩ := hrel
   have HTD1 := hid (HCH.out.box HTD.out (by decide) (by decide) (by decide))
   obtain ⟨dl,dc,df⟩ := boxN HTD1.out
   have d0 := dc 0 _ rfl
   have dz0 := df 0
   simp only [Nat.zero_add] at d0
   clear dc df
   by_cases hlt : i < A.length
   ·have hlt' : (i : Int) < (A.length : Int) := by omega
    obtain ⟨c,hci⟩ : ∃ c,A[i]? = some c := ⟨_,List.getElem?_eq_getElem hlt⟩
    obtain ⟨r,hri,vi,vf,vm,er,q1,q2,rm,q3,q4⟩ := HR2.out.at i c hci
    obtain ⟨pm,cm,rfl⟩ := q3.slice
    obtain ⟨pf,cf,rfl⟩ := q2.slice
    obtain ⟨pi,ci,rfl⟩ := q1.slice
    obtain ⟨g',cap',cur',e',hcp,-,-,hcl⟩ := HR1.out.cell hri
    simp only [Value.slice.injEq,Option.some.injEq,Addr.mk.injEq,and_true] at e'
    obtain ⟨rfl,-,rfl⟩ := e'
    rw [er] at hcl
    have HM5 := hid (hcl 5 _ rfl)
    have HM4 := hid (hcl 4 _ rfl)
    have HM2 := hid (hcl 2 _ rfl)
    have Q1 := hid q1
    have Q2 := hid q2
    have Q3 := hid q3
    have Q4 := hid q4
    have hrmn := q4.len
    obtain ⟨z1,z2,z3,z4⟩ := HBD.out.2 c (List.mem_of_getElem? hci)
    have Z4 := hid z4
    clear z4
    have HCI := hid hci
    clear hcl q1 q2 q3 q4 hci hri er
    skip
    go_wp2_with fail
    clear d0 dz0 dl
    go_loopw [10] (fun v wr2 => ∃ j : Nat,v = .int .i64 (j : Int) /\ j <= rm.length /\ Hid (Ch w7 wr2) /\ Hid (Below w5.heap.size w7 wr2) /\ Hid (i0 < i ∨ (i0 = i /\ 0 < j) -> Six wr2 gc0)) (fun v _ => rm.length - (intOf v).toNat)
    case atStart => exact ⟨0,rfl,by omega,HCH,HBL,hid (fun h => HSX.out (by omega))⟩
    case round =>
     obtain ⟨j,rfl,hjn,HCH2,HBL2,HSX2⟩ := hrel
     have d5 := HCH2.out.cell HGT.out (by decide) (by decide) (by decide) HM5.out
     by_cases hjt : j < rm.length
     ·have hjt' : (j : Int) < (rm.length : Int) := by omega
      obtain ⟨m,hmj⟩ : ∃ m,c.methods[j]? = some m := ⟨_,List.getElem?_eq_getElem (by omega)⟩
      obtain ⟨q,hqj,vp,vc,vh,eq,-,c2,-⟩ := Q4.out.at j m hmj
      obtain ⟨pc,cc,rfl⟩ := c2.slice
      obtain ⟨gm,capm,curm,e',hcpm,-,hgm,hcl⟩ := Q3.out.cell hqj
      simp only [Value.slice.injEq] at e'
      obtain ⟨rfl,-,rfl⟩ := e'
      rw [eq] at hcl
      have HM7 := hid (hcl 7 _ rfl)
      have HGM := hid hgm
      have C2 := hid c2
      have zm := (Z4.out m (List.mem_of_getElem? hmj)).2.1
      have HMJ := hid hmj
      clear hcl hgm c2 eq hqj hmj
      go_wp2_with fail
      clear d5
      go_loopw [11] (fun v wr3 => ∃ n : Nat,v = .int .i64 (n : Int) /\ n <= m.code.length /\ Hid (Ch w7 wr3) /\ Hid (Below w5.heap.size w7 wr3) /\ Hid (i0 < i ∨ (i0 = i /\ (0 < j ∨ (j = 0 /\ 0 < n))) -> Six wr3 gc0)) (fun v _ => m.code.length - (intOf v).toNat)
      case atStart => exact ⟨0,rfl,by omega,HCH2,HBL2,hid (fun h => HSX2.out (by omega))⟩
      case round =>
       obtain ⟨n,rfl,hnn,HCH3,HBL3,HSX3⟩ := hrel
       have d5 := HCH3.out.cell HGT.out (by decide) (by decide) (by decide) HM5.out
       have d7 := HCH3.out.cell HGM.out (by decide) (by decide) (by decide) HM7.out
       by_cases hnt : n < m.code.length
       ·have hnt' : (n : Int) < (m.code.length : Int) := by omega
        have HNT := hid (show n + 1 <= m.code.length from hnt)
        obtain ⟨gc,capc,curc,y,e',hcpc,hgcL,hgc,hcl⟩ := HCH3.out.code C2.out hnt
        simp only [Value.slice.injEq] at e'
        obtain ⟨rfl,-,rfl⟩ := e'
        have y0 := hcl 0 _ rfl
        have yz0 := unfrozen hgc (n * 7)
        have y1 := hcl 1 _ rfl
        have yz1 := unfrozen hgc (n * 7 + 1)
        have y2 := hcl 2 _ rfl
        have yz2 := unfrozen hgc (n * 7 + 2)
        have y3 := hcl 3 _ rfl
        have yz3 := unfrozen hgc (n * 7 + 3)
        have y4 := hcl 4 _ rfl
        have yz4 := unfrozen hgc (n * 7 + 4)
        have y5 := hcl 5 _ rfl
        have yz5 := unfrozen hgc (n * 7 + 5)
        have y6 := hcl 6 _ rfl
        have yz6 := unfrozen hgc (n * 7 + 6)
        simp only [Nat.add_zero] at y0
        have HGC := hid hgc
        have HY0 := hid (hcl 0 _ rfl)
        clear hgc hcl
        go_wp2_with fail
        go_roundw
        case rel =>
         have h7s := HCH3.out.1
         refine ⟨n + 1,by go_num,HNT.out,?_,?_,?_⟩
         ·exact hid (show Ch w7 (popW wr gc n) from HCH3.out.trans (Ch.pop HGC.out))
         ·exact hid (show Below w5.heap.size w7 (popW wr gc n) from HBL3.out.trans (Kpt.below (popW_kpt _ _ _) (fun x hx => by simp at hx; rw [hx]; exact hgcL) (by omega)))
         ·refine hid (show i0 < i ∨ (i0 = i /\ (0 < j ∨ (j = 0 /\ 0 < n + 1))) -> Six (popW wr gc n) gc0 from fun h => ?_)
          by_cases hold : i0 < i ∨ (i0 = i /\ (0 < j ∨ (j = 0 /\ 0 < n)))
          ·exact (HSX3.out hold).pop
          ·have hz : i0 = i /\ j = 0 /\ n = 0 := by omega
           obtain ⟨rfl,rfl,rfl⟩ := hz
           have hsame := HF.out.same (w' := w7) (gm' := gm) (gc' := gc) ⟨⟨_,_,HM5.out⟩,⟨_,_,by have := HM7.out; rwa [Nat.zero_mul,Nat.zero_add] at this⟩,⟨_,HGM.out⟩,by obtain ⟨cur,h⟩ := C2.out.1.type rfl; exact ⟨cur,h⟩⟩ (Ch.refl _) HGT.out
           obtain ⟨-,rfl⟩ := hsame
           exact Six.new (by have := HY0.out; rwa [Nat.zero_mul,Nat.zero_add] at this)
        case measure => simp [intOf]; omega
       ·obtain rfl : n = m.code.length := by omega
        clear hnt
        go_wp2_with fail
        go_roundw
        case rel =>
         have hz : i0 = i -> j = 0 -> 0 < m.code.length := fun e e0 => (first_len HI0.out HM0.out HX0.out HCI.out e).2 m (by have := HMJ.out; rwa [e0] at this)
         refine ⟨j + 1,by go_num,by omega,HCH3,HBL3,hid (fun h => HSX3.out ?_)⟩
         by_cases e : i0 = i
         ·by_cases e0 : j = 0
          ·have := hz e e0; omega
          ·omega
         ·omega
        case measure => simp [intOf]; omega
     ·obtain rfl : j = rm.length := by omega
      have HS4 : Hid (i0 <= i -> Six wr gc0) := hid (by intro h; refine HSX2.out ?_; by_cases e : i0 = i; (have := (first_len HI0.out HM0.out HX0.out HCI.out e).1; omega); omega)
      clear HSX2 hjt
      go_wp2_with fail
      clear d5
      go_loopw [12] (fun v wr5 => ∃ n : Nat,v = .int .i64 (n : Int) /\ n <= c.fields.length /\ Hid (Ch w7 wr5) /\ Hid (Below w5.heap.size w7 wr5) /\ Hid (i0 <= i -> Six wr5 gc0)) (fun v _ => c.fields.length - (intOf v).toNat)
      case atStart => exact ⟨0,rfl,by omega,HCH2,HBL2,HS4⟩
      case round =>
       obtain ⟨n,rfl,hnn,HCH5,HBL5,HSX5⟩ := hrel
       have d5 := HCH5.out.cell HGT.out (by decide) (by decide) (by decide) HM4.out
       by_cases hnt : n < c.fields.length
       ·have hnt' : (n : Int) < (c.fields.length : Int) := by omega
        obtain ⟨gf,capf,curf,sf,e',hcpf,hgfL,hgf,hy⟩ := HCH5.out.fields Q2.out hnt
        simp only [Value.slice.injEq] at e'
        obtain ⟨rfl,-,rfl⟩ := e'
        have yz := unfrozen hgf (n * 4)
        have HGF := hid hgf
        clear hgf
        go_wp2_with fail
        go_roundw
        case rel =>
         have h7s := HCH5.out.1
         refine ⟨n + 1,by go_num,by omega,hid (HCH5.out.trans (Ch.fld HGF.out)),hid (HBL5.out.trans (Kpt.below (Kpt.set [gf] _ _ _ _ (by simp)) (fun x hx => by simp at hx; rw [hx]; exact hgfL) (by omega))),hid fun h => (HSX5.out h).set ?_⟩
         rintro rfl
         obtain ⟨-,-,-,cur9,h9⟩ := HF.out
         obtain ⟨cs9,h9',-⟩ := HCH5.out.2.1 _ _ _ h9
         rw [HGF.out] at h9'
         simp only [Option.some.injEq,Obj.cells.injEq] at h9'
         exact absurd h9'.2.1 (by decide)
        case measure => simp [intOf]; omega
       ·obtain rfl : n = c.fields.length := by omega
        clear hnt
        go_wp2_with fail
        clear d5
        go_loopw [13] (fun v wr6 => ∃ n : Nat,v = .int .i64 (n : Int) /\ n <= c.ifaces.length /\ Hid (Ch w7 wr6) /\ Hid (Below w5.heap.size w7 wr6) /\ Hid (i0 <= i -> Six wr6 gc0)) (fun v _ => c.ifaces.length - (intOf v).toNat)
        case atStart => exact ⟨0,rfl,by omega,HCH5,HBL5,HSX5⟩
        case round =>
         obtain ⟨n,rfl,hnn,HCH5,HBL5,HSX5⟩ := hrel
         have d5 := HCH5.out.cell HGT.out (by decide) (by decide) (by decide) HM2.out
         by_cases hnt : n < c.ifaces.length
         ·have hnt' : (n : Int) < (c.ifaces.length : Int) := by omega
          obtain ⟨gf,capf,curf,sf,e',hcpf,hgfL,hgf,hy⟩ := HCH5.out.strs Q1.out hnt
          simp only [Value.slice.injEq] at e'
          obtain ⟨rfl,-,rfl⟩ := e'
          have yz := unfrozen hgf (n)
          have HGF := hid hgf
          clear hgf
          go_wp2_with fail
          go_roundw
          case rel =>
           have h7s := HCH5.out.1
           refine ⟨n + 1,by go_num,by omega,hid (HCH5.out.trans (Ch.str HGF.out)),hid (HBL5.out.trans (Kpt.below (Kpt.set [gf] _ _ _ _ (by simp)) (fun x hx => by simp at hx; rw [hx]; exact hgfL) (by omega))),hid fun h => (HSX5.out h).set ?_⟩
           rintro rfl
           obtain ⟨-,-,-,cur9,h9⟩ := HF.out
           obtain ⟨cs9,h9',-⟩ := HCH5.out.2.1 _ _ _ h9
           rw [HGF.out] at h9'
           simp only [Option.some.injEq,Obj.cells.injEq] at h9'
           exact absurd h9'.2.1 (by decide)
          case measure => simp [intOf]; omega
         ·obtain rfl : n = c.ifaces.length := by omega
          clear hnt
          go_wp2_with fail
          go_roundw
          case rel => exact ⟨i + 1,by go_num,by omega,HCH5,HBL5,hid (fun h => HSX5.out (by omega))⟩
          case measure => simp [intOf]; omega
   ·obtain rfl : i = A.length := by omega
    clear hlt
    have HTA1 := hid (HCH.out.box HTA.out (by decide) (by decide) (by decide))
    have HTC1 := hid (HCH.out.box HTC.out (by decide) (by decide) (by decide))
    have h7s := HCH.out.1
    skip
    obtain ⟨D,hD1,hD2⟩ := OwnA.ch HR2.out HCH.out
    have hD3 : OwnR 6 52 rawC (fun b => w5.heap.size <= b) wr (.slice (some ⟨gd,0,none⟩) A.length cD) rs := HR1.out.ch HCH.out (by decide) (by decide) (by decide)
    have HRD : Hid (RdX 6 cP (fun b => w5.heap.size <= b) wr (.slice (some ⟨gd,0,none⟩) A.length cD) D) := hid (OwnA.rd ⟨rs,hD3,hD1⟩)
    have hbdD : bdA D := RC.bd hD2 HBD.out
    have hne : ¬ A = D := by
     intro e
     subst e
     obtain ⟨gm1,gc1,f1,f2⟩ := First.of hD3 hD1 HI0.out HM0.out HX0.out
     obtain ⟨-,rfl⟩ := HF.out.same f1 HCH.out HGT.out
     have h6 := HSX.out (by omega)
     unfold Six at h6
     rw [h6] at f2
     simp only [Option.some.injEq,Value.int.injEq,true_and] at f2
     omega
    have HNE := hid hne
    have HBDD := hid hbdD
    clear hne hbdD hD1 hD2 hD3
    have HRC2 : Hid (RdX 6 cP anyB wr (.slice pC A.length cC) A) := hid (HRCB.out.step cP.grow (fun _ _ _ => trivial) (.of_below' HBL.out (fun _ h => h.1)) (by omega))
    have HRA2 : Hid (RdX 6 cP anyB wr (.slice pA A.length cA) A) := hid (HRAB.out.step cP.grow (fun _ _ _ => trivial) (.of_below' HBL.out (fun _ h => h.1)) (by omega))
    obtain ⟨al,ac,af⟩ := boxN HTA1.out
    have a0 := ac 0 _ rfl
    have az0 := af 0
    simp only [Nat.zero_add] at a0
    clear ac af
    obtain ⟨bl,bc,bf⟩ := boxN HTC1.out
    have b0 := bc 0 _ rfl
    have bz0 := bf 0
    simp only [Nat.zero_add] at b0
    clear bc bf
    go_wp2_with fail
    refine (same_a A A _ _ _ _ _ _ _ _ _ HBD.out HBD.out HRC2.out HRA2.out).mono ?_
    rintro e x1 ⟨rfl,hbb⟩
    rw [eqA_self]
    have HTD2 := hid ((hbb.block _ (boxN HTD1.out).1).trans HTD1.out)
    replace HTC1 := hid ((hbb.block _ bl).trans HTC1.out)
    replace HRC2 := hid (HRC2.out.any cP.grow hbb)
    replace HRD := hid (HRD.out.any cP.grow hbb)
    have HBX := hid (HBL.out.trans (hbb.mono (by omega)))
    clear hbb a0 az0 b0 bz0 al bl
    obtain ⟨bl,bc,bf⟩ := boxN HTC1.out
    have b0 := bc 0 _ rfl
    have bz0 := bf 0
    simp only [Nat.zero_add] at b0
    clear bc bf
    obtain ⟨dl,dc,df⟩ := boxN HTD2.out
    have d0 := dc 0 _ rfl
    have dz0 := df 0
    simp only [Nat.zero_add] at d0
    clear dc df
    go_wp2_with fail
    refine (same_a A D _ _ _ _ _ _ _ _ _ HBD.out HBDD.out HRC2.out HRD.out).mono ?_
    rintro e x2 ⟨rfl,hbb⟩
    rw [show eqA A D = false from Bool.eq_false_iff.2 (fun h => HNE.out (eqA_iff.1 h))]
    have HBY := hid (HBX.out.trans (hbb.mono (by have := HBX.out.size; omega)))
    clear hbb
    go_wp2_with fail
    go_ret
    exact ⟨rfl,HB7.out.trans (HBY.out.mono (by have := HB7.out.size; omega))⟩
end Go.Proofs.YtijnimjmimeefaaGreat.A
namespace Go.Proofs.YtijnimjmimeefaaGreat
open Go.ChangeShapes Go.WideShapes Go.ChangeAt Go.RowKit
theorem row_open {H : Type} {enc : TypeId × Value -> H} {W : World} {base : Nat} {spare : Nat -> Bool} {held : Bool} {t e : TypeId} {k : IntKind} {a : Option Addr} {len cap : Nat} {d : DataW H} {p : List MemPlace}
  (ht : Tryz.prog.underlying t = some (.slice e)) (he : Tryz.prog.underlying e = some (.int k)) (hc : Tryz.prog.cellsOf e = 1) (h : DataW.Trod enc Tryz.prog W base spare held t (.slice a len cap) d p) (hsp : ∀ b,spare b = true := by exact fun _ => rfl) :
  ∃ zs,IsRow k W a len cap zs := by
 obtain ⟨fuel,hf⟩ := h
 rcases open_ints ht he hc hf with ⟨hcs,_⟩ | ⟨x,l,c,zs,hcs,_,hl,hm,hz,_,hcell,hwz⟩
 ·simp [Value.cells] at hcs
  obtain ⟨rfl,rfl,rfl⟩ := hcs
  exact ⟨[],.inl ⟨rfl,rfl,rfl,rfl⟩⟩
 ·simp [Value.cells] at hcs
  obtain ⟨rfl,rfl,rfl⟩ := hcs
  exact ⟨zs,.inr ⟨_,rfl,hl,hm,by simpa [hsp] using hz,hcell,hwz⟩⟩
theorem row_le {k : IntKind} {w : World} {a : Option Addr} {len cap : Nat} {zs : List Int} (h : IsRow k w a len cap zs) : len <= 9223372036854775807 := by
 rcases h with ⟨_,h,_⟩ | ⟨_,_,h1,h2,_⟩
 ·omega
 ·unfold maxLen at h2; omega
end Go.Proofs.YtijnimjmimeefaaGreat
namespace Go.Proofs.YtijnimjmimeefaaGreat.A
open Go.ChangeShapes Go.WideShapes Go.ChangeAt Go.RowKit
theorem cells4 : Tryz.prog.cellsOf 25 = 4 := by kernel_rfl
theorem four_of {l : List Value} (h : l.length = 4) : ∃ c0 c1 c2 c3,l = [c0,c1,c2,c3] := by
 match l,h with
 | [c0,c1,c2,c3],_ => exact ⟨c0,c1,c2,c3,rfl⟩
theorem arr4_open {H : Type} {enc : TypeId × Value -> H} {w : World} {base b0 : Nat} {spare : Nat -> Bool} {held : Bool} {r : Reach} {v : Value} {d : DataW H} {p : List MemPlace}
  (hv : Value.okWide Tryz.prog w r b0 25 v) (h : DataW.Trod enc Tryz.prog w base spare held 25 v d p) :
  ∃ x0 x1 x2 x3 : Int,v = .agg #[.int .u8 x0,.int .u8 x1,.int .u8 x2,.int .u8 x3] /\ (Lit.int .u8 x0).wf = true /\ (Lit.int .u8 x1).wf = true /\ (Lit.int .u8 x2).wf = true /\ (Lit.int .u8 x3).wf = true := by
 obtain ⟨cs,rfl,hsz,_⟩ : ∃ cs,v = .agg cs /\ cs.size = Tryz.prog.cellsOf 25 /\ Row.okWide Tryz.prog w r b0 25 cs := by
  simpa [Value.okWide,Tryz.underlying25] using hv
 rw [cells4] at hsz
 obtain ⟨l⟩ := cs
 obtain ⟨c0,c1,c2,c3,rfl⟩ := four_of hsz
 obtain ⟨fuel,hf⟩ := h
 obtain ⟨y0,y1,y2,y3,m,hx,hy0,hy1,hy2,hy3⟩ := trod_array4 Tryz.underlying25 (by kernel_rfl) hf
 obtain ⟨x0,e0,rfl,w0⟩ := DataW.trod_int Tryz.underlying5 hy0
 obtain ⟨x1,e1,rfl,w1⟩ := DataW.trod_int Tryz.underlying5 hy1
 obtain ⟨x2,e2,rfl,w2⟩ := DataW.trod_int Tryz.underlying5 hy2
 obtain ⟨x3,e3,rfl,w3⟩ := DataW.trod_int Tryz.underlying5 hy3
 simp at e0 e1 e2 e3
 subst e0 e1 e2 e3
 exact ⟨x0,x1,x2,x3,rfl,w0,w1,w2,w3⟩
theorem bytes_open {H : Type} {enc : TypeId × Value -> H} {W : World} {base : Nat} {spare : Nat -> Bool} {held : Bool} {a : Option Addr} {len cap : Nat} {d : DataW H} {p : List MemPlace}
  (h : DataW.Trod enc Tryz.prog W base spare held 26 (.slice a len cap) d p) (hsp : ∀ b,spare b = true) : ∃ l : List UInt8,len = l.length /\ Rd W (.slice a len cap) l /\ (l = [] ∨ ∀ g,(Value.slice a len cap).ownBlock = some g -> g < W.heap.size) /\ len <= 9223372036854775807 := by
 obtain ⟨zs,hz⟩ := row_open Tryz.underlying26 Tryz.underlying5 (by kernel_rfl) h hsp
 obtain ⟨l,hl,hr⟩ := rd_of_row hz
 exact ⟨l,hl.symm,hr,live_of_row hz hl,row_le hz⟩
end Go.Proofs.YtijnimjmimeefaaGreat.A
