/- Texts that the proof is made of, joined. No condition. -/
import Derived.Test.YtfpeakkbbfnhcaaGreatC131
import Derived.WalkKit
import Derived.WalkSpells
import Derived.WalkLawsBesides
import Derived.Lib.Hide
import Derived.Below
import Derived.OwnWalk
import Derived.Maps.OwnSet
import Derived.Maps.RangeWalk
import Derived.Maps.AppendAt
import Derived.Laws.AppendOwnNone
import Derived.Laws.MakeOwn
import Derived.Deep.QuietTactic
import Derived.Deep.DeepCutAuto
import Derived.BigRegion
import Derived.BigQuiet
import Derived.StringKeys
import Derived.Test.YtfpeakkbbfnhcaaGreatC132
import Derived.Test.YtfpeakkbbfnhcaaGreatC13H
set_option linter.unusedVariables false
set_option linter.unusedSimpArgs false
set_option maxRecDepth 100000
set_option maxHeartbeats 16000000
namespace Go.Proofs.YtfpeakkbbfnhcaaGreat.S
open Go.RowKit Go.Maps
theorem add_add (x : Addr) (i : Nat) (h : x.spot = none) : x.add i = ⟨x.block,x.off + i,none⟩ := by
 obtain ⟨b,o,s⟩ := x
 simp only at h
 subst h
 unfold Addr.add
 split <;> simp_all
theorem grown_set (w : World) (rb j : Nat) (u : Value) : w.grownBy (w.setCell ⟨rb,j,none⟩ u) (some rb) :=
 ⟨rfl,rfl,rfl,by simp,fun k _ hk => heap_setCell_other w ⟨rb,j,none⟩ k u (fun e => hk (by simp [e]))⟩
theorem below_drewN (B : Nat) (w : World) (n : Nat) : Below B w (w.drewN n) := ⟨rfl,rfl,rfl,Nat.le_refl _,fun _ _ => rfl⟩
def Kpt (S : List Nat) (w w' : World) : Prop := Below 0 w w' /\ ∀ g,g < w.heap.size -> g ∉ S -> w'.heap[g]? = w.heap[g]?
theorem Kpt.size {S : List Nat} {w w' : World} (h : Kpt S w w') : w.heap.size <= w'.heap.size := h.1.size
theorem Kpt.refl (S : List Nat) (w : World) : Kpt S w w := ⟨Below.refl _ _,fun _ _ _ => rfl⟩
theorem Kpt.trans {S S' : List Nat} {a b c : World} (h : Kpt S a b) (k : Kpt S' b c) (hs : ∀ x ∈ S',x ∈ S ∨ a.heap.size <= x) : Kpt S a c :=
 ⟨h.1.trans k.1,fun g hg hn => (k.2 g (Nat.lt_of_lt_of_le hg h.size) (fun hx => by
  rcases hs g hx with h1 | h1
  ·exact hn h1
  ·omega)).trans (h.2 g hg hn)⟩
theorem Kpt.mono {S S' : List Nat} {a b : World} (h : Kpt S a b) (hs : ∀ x ∈ S,x < a.heap.size -> x ∈ S') : Kpt S' a b :=
 ⟨h.1,fun g hg hn => h.2 g hg (fun hx => hn (hs g hx hg))⟩
theorem Kpt.of_below {S : List Nat} {w w' : World} (h : Below w.heap.size w w') : Kpt S w w' := ⟨h.mono (Nat.zero_le _),fun g hg _ => h.block g hg⟩
theorem Kpt.of_grown {S : List Nat} {w w' : World} {r : Option Nat} (h : w.grownBy w' r) (hr : ∀ g,r = some g -> g ∈ S ∨ w.heap.size <= g) : Kpt S w w' :=
 ⟨⟨h.os,h.tape,h.output,h.size,fun k hk => absurd hk (Nat.not_lt_zero k)⟩,fun g hg hn => h.block g hg (fun e => by
  rcases hr g e.symm with h1 | h1
  ·exact hn h1
  ·omega)⟩
theorem Kpt.alloc (S : List Nat) (w : World) (o : Obj) : Kpt S w (w.alloc o) := .of_grown (World.grownBy_alloc w o none) (fun g h => by cases h)
theorem Kpt.drew {S : List Nat} {a w : World} (h : Kpt S a w) : Kpt S a w.drew := ⟨h.1.drew,h.2⟩
theorem Kpt.set (S : List Nat) (w : World) (b j : Nat) (u : Value) (h : b ∈ S) : Kpt S w (w.setCell ⟨b,j,none⟩ u) := .of_grown (grown_set w b j u) (fun g e => by cases e; exact .inl h)
theorem Kpt.below {S : List Nat} {w w' : World} {B : Nat} (h : Kpt S w w') (hS : ∀ x ∈ S,B <= x) (hB : B <= w.heap.size) : Below B w w' :=
 ⟨h.1.os,h.1.tape,h.1.output,h.1.size,fun k hk => h.2 k (Nat.lt_of_lt_of_le hk hB) (fun hx => by have := hS k hx; omega)⟩
theorem Kpt.block {S : List Nat} {w w' : World} (h : Kpt S w w') {b : Nat} {o : Obj} (hb : w.heap[b]? = some o) (hn : b ∉ S) : w'.heap[b]? = some o := (h.2 b (Array.getElem?_eq_some_iff.1 hb).1 hn).trans hb
theorem row_kpt {w w' : World} {B n sz : Nat} {e : TypeId} {v : Value} {xs : List Value} {S : List Nat} (h : w.ownsRow B e sz v n xs) (hk : Kpt S w w') (hS : ∀ g,v.ownBlock = some g -> g ∉ S) : w'.ownsRow B e sz v n xs := by
 refine ⟨h.1,?_⟩
 rcases h.2 with hn | ⟨g,cap,cur,rfl,hb,hgg,rest⟩
 ·exact .inl hn
 ·refine .inr ⟨g,cap,cur,rfl,hb,?_,rest⟩
  rw [hk.2 g (Array.getElem?_eq_some_iff.1 hgg).1 (hS g rfl)]
  exact hgg
section
variable {α : Type} {c : α -> Value}
def RdC (c : α -> Value) (ok : Nat -> Prop) (w : World) (v : Value) (xs : List α) : Prop :=
 ∃ (p : Option Addr) (cap : Nat),v = .slice p xs.length cap /\ xs.length <= cap /\ (p = none -> cap = 0) /\ cap <= maxLen /\
  (xs = [] ∨ ∃ b off,p = some ⟨b,off,none⟩ /\ ok b /\ b < w.heap.size /\ ∀ i x,xs[i]? = some x -> w.cell? ⟨b,off + i,none⟩ = some (c x))
theorem RdC.form {ok : Nat -> Prop} {w : World} {v : Value} {xs : List α} (h : RdC c ok w v xs) : ∃ p cap,v = .slice p xs.length cap /\ xs.length <= cap /\ cap <= maxLen := by
 obtain ⟨p,cap,h,h1,_,h2,_⟩ := h
 exact ⟨p,cap,h,h1,h2⟩
theorem RdC.at {ok : Nat -> Prop} {w : World} {p : Option Addr} {n cap : Nat} {xs : List α} (h : RdC c ok w (.slice p n cap) xs) (hn : xs ≠ []) :
  ∃ b off,p = some ⟨b,off,none⟩ /\ ok b /\ b < w.heap.size /\ ∀ i x,xs[i]? = some x -> w.cell? ⟨b,off + i,none⟩ = some (c x) := by
 obtain ⟨p',cap',e,_,_,_,h3⟩ := h
 simp only [Value.slice.injEq] at e
 obtain ⟨rfl,rfl,rfl⟩ := e
 rcases h3 with h3 | h3
 ·exact absurd h3 hn
 ·exact h3
theorem RdC.nil (ok : Nat -> Prop) (w : World) : RdC c ok w (.slice none 0 0) ([] : List α) := ⟨none,0,rfl,by simp,fun _ => rfl,by unfold maxLen; omega,.inl rfl⟩
def OwnC (c : α -> Value) (T : TypeId) (w : World) (B : Nat) (v : Value) (xs : List α) : Prop := w.ownsRow B T 1 v xs.length (xs.map c)
variable {T : TypeId}
theorem OwnC.nil (w : World) (B : Nat) : OwnC c T w B (.slice none 0 0) ([] : List α) := World.ownsRow_nil _ _ _ _
theorem OwnC.alloc {w : World} {B : Nat} {v : Value} {xs : List α} (h : OwnC c T w B v xs) (o : Obj) : OwnC c T (w.alloc o) B v xs := World.ownsRow.alloc h o
theorem OwnC.lt {w : World} {B : Nat} {v : Value} {xs : List α} (h : OwnC c T w B v xs) : ∀ k,v.ownBlock = some k -> B <= k /\ k < w.heap.size := World.ownsRow.lt h
theorem OwnC.kpt {w w' : World} {B : Nat} {v : Value} {xs : List α} {S : List Nat} (h : OwnC c T w B v xs) (hk : Kpt S w w') (hS : ∀ g,v.ownBlock = some g -> g ∉ S) : OwnC c T w' B v xs := row_kpt h hk hS
theorem OwnC.mono {w : World} {B B' : Nat} {v : Value} {xs : List α} (h : OwnC c T w B v xs) (hB : B' <= B) : OwnC c T w B' v xs := by
 refine ⟨h.1,?_⟩
 rcases h.2 with h' | ⟨g,cap,cur,e,hb,r⟩
 ·exact .inl h'
 ·exact .inr ⟨g,cap,cur,e,Nat.le_trans hB hb,r⟩
theorem OwnC.cells {w : World} {B : Nat} {v : Value} {xs : List α} (h : OwnC c T w B v xs) : (v = .slice none 0 0 /\ xs = []) ∨ ∃ g cap cur,v = .slice (some ⟨g,0,none⟩) xs.length cap /\ B <= g /\ g < w.heap.size /\ w.heap[g]? = some (.cells cur T (0,0)) /\ xs.length <= cap /\ cap <= maxLen /\
  (∀ i x,xs[i]? = some x -> w.cell? ⟨g,i,none⟩ = some (c x)) /\ (∀ i,w.frozen? ⟨g,i,none⟩ = false) /\ (∀ i,i < cap -> ∃ u,w.cell? ⟨g,i,none⟩ = some u) := by
 have hh := h
 rcases h.2 with ⟨rfl,hn⟩ | ⟨g,cap,cur,rfl,hb,hg,h1,h2,h3,h4⟩
 ·exact .inl ⟨rfl,List.eq_nil_of_length_eq_zero hn⟩
 ·refine .inr ⟨g,cap,cur,rfl,hb,(Array.getElem?_eq_some_iff.1 hg).1,hg,h1,h2,fun i x hx => ?_,fun i => by simp [World.frozen?,hg],fun i hi => ⟨cur[i]'(by omega),?_⟩⟩
  ·have := World.ownsRow.cells hh (g := g) rfl i (c x) (by simp [hx])
   rw [add_add _ i rfl,Nat.zero_add] at this
   exact this
  ·simp only [World.cell?,hg]
   exact Array.getElem?_eq_getElem (by omega)
theorem OwnC.rd {w : World} {B : Nat} {v : Value} {xs : List α} (h : OwnC c T w B v xs) : RdC c (fun b => B <= b) w v xs := by
 rcases h.cells with ⟨rfl,rfl⟩ | ⟨g,cap,cur,rfl,hb,hlt,_,h1,h2,h3,_⟩
 ·exact RdC.nil _ _
 ·exact ⟨_,cap,rfl,h1,(fun e => by cases e),h2,.inr ⟨g,0,rfl,hb,hlt,fun i x hx => by rw [Nat.zero_add]; exact h3 i x hx⟩⟩
theorem OwnC.slice {w : World} {B : Nat} {v : Value} {xs : List α} (h : OwnC c T w B v xs) : ∃ a n k,v = .slice a n k := by
 rcases h.cells with ⟨rfl,_⟩ | ⟨g,cap,cur,rfl,_⟩
 ·exact ⟨_,_,_,rfl⟩
 ·exact ⟨_,_,_,rfl⟩
theorem OwnC.set {w : World} {B g n cap : Nat} {xs : List α} (h : OwnC c T w B (.slice (some ⟨g,0,none⟩) n cap) xs) (i : Nat) (y : α) : OwnC c T (w.setCell ⟨g,i,none⟩ (c y)) B (.slice (some ⟨g,0,none⟩) n cap) (xs.set i y) := by
 have hn : n = xs.length := by
  rcases h.cells with ⟨e,_⟩ | ⟨g',cap',cur,e,_⟩
  ·cases e
  ·simp only [Value.slice.injEq] at e; exact e.2.1
 subst hn
 have := (World.ownsRow.stored h i (c y)).1
 unfold OwnC
 rw [List.length_set,List.map_set]
 exact this
theorem OwnC.front {w : World} {B n cap : Nat} {p : Option Addr} {xs : List α} (h : OwnC c T w B (.slice p n cap) xs) {k : Nat} (hk : k <= xs.length) (hp : xs ≠ []) : OwnC c T w B (.slice p k cap) (xs.take k) := by
 have hl : (xs.take k).length = k := by simp; omega
 rcases h.2 with ⟨e,hn⟩ | ⟨g,cap',cur,e,hb,hg,h1,h2,h3,h4⟩
 ·exact absurd (List.eq_nil_of_length_eq_zero hn) hp
 ·simp only [Value.slice.injEq] at e
  obtain ⟨rfl,rfl,rfl⟩ := e
  unfold OwnC
  rw [hl]
  refine ⟨by simp; omega,.inr ⟨g,cap,cur,rfl,hb,hg,by omega,h2,h3,?_⟩⟩
  rw [List.map_take,<- h4,List.take_take]
  congr 1
  omega
def Inf1 (T TS : TypeId) (bytes : Nat) (z : Value) : Prop := (Tryz.prog.info? T).map (fun i => (i.zero,i.size,i.bytes)) = some (some z,1,bytes) /\ Tryz.prog.underlying TS = some (.slice T) /\ z.cells.size = 1 /\ bytes <= 1000
theorem wp_appC {TS : TypeId} {bytes : Nat} {z : Value} (hI : Inf1 T TS bytes z) (h1 : ∀ x,(c x).oneCell' = true) {w : World} {ops : Array Oper} {rest : List Oper} {o : Oper} {a : Act} {Q : Exit -> Act -> World -> Prop} (hgd : o.guard = none) (s x : Operand)
  (ho : o.op = .call { callee := .builtin .append,args := #[s,x],argTypes := #[TS,TS] })
  (B : Nat) (v : Value) (xs : List α) (hs : a.eval s = v) (hown : OwnC c T w B v xs) (ok : Nat -> Prop) (v2 : Value) (ys : List α) (hx : a.eval x = v2) (hy : RdC c ok w v2 ys)
  (hb : xs.length + ys.length <= 1000000) (hbase : B <= w.heap.size)
  (h : ∀ v' w',OwnC c T w' B v' (xs ++ ys) -> w.grownBy w' v.ownBlock -> (v'.ownBlock = v.ownBlock ∨ v'.ownBlock = some w.heap.size) -> wpList Tryz.prog ops Q rest (a.put o.dst v') w') :
  wpList Tryz.prog ops Q (o :: rest) a w := by
 obtain ⟨hi1,hu,hz,hbb⟩ := hI
 obtain ⟨i0,hi,hz0,hz1,hz2⟩ := info_parts hi1
 have h1' : ∀ zs : List α,∀ u ∈ zs.map c,u.oneCell' = true := fun zs u hu => by
  obtain ⟨y,_,rfl⟩ := List.mem_map.1 hu
  exact h1 y
 obtain ⟨p,cap,e2,hle,hnone,_,hcs⟩ := hy
 subst e2
 cases p with
 | none =>
  have hc0 := hnone rfl
  have hl0 : ys.length = 0 := by omega
  have hm : ys = [] := List.eq_nil_of_length_eq_zero hl0
  subst hm
  subst hc0
  refine wpList_append_own_none hgd s x TS ho B T i0 1 hu hi v xs.length (xs.map c) hs hown hx ?_
  exact h v w (by rw [List.append_nil]; exact hown) ⟨rfl,rfl,rfl,Nat.le_refl _,fun _ _ _ => rfl⟩ (.inl rfl)
 | some ad =>
  refine wpList_append_own_at w hgd s x TS ho B T i0 z 1 bytes hu hi hz0 hz1 hz2 hz (by decide) v xs.length (xs.map c) hs hown ad ys.length cap (ys.map c) hx (by simp) ?_ (h1' ys) (by unfold maxLen; omega) ?_ hbase ?_
  ·intro j u hj
   rw [List.getElem?_map,Option.map_eq_some_iff] at hj
   obtain ⟨y,hy1,rfl⟩ := hj
   rcases hcs with rfl | ⟨b,off,e,_,_,hc⟩
   ·simp at hy1
   ·cases e
    rw [add_add _ j rfl]
    exact hc j y hy1
  ·have := Nat.mul_le_mul hb hbb
   omega
  ·intro v' w' g1 g2 _ g4
   refine h v' w' ?_ g2 g4
   unfold OwnC
   rw [List.length_append,List.map_append]
   exact g1
theorem rd_one {w : World} {b : Nat} {u : Value} {x : α} {fr : Nat × Nat} (h : w.heap[b]? = some (.cells #[u] T fr)) (hu : u = c x) : RdC c (fun _ => True) w (.slice (some ⟨b,0,none⟩) 1 1) [x] := by
 subst hu
 refine ⟨_,1,rfl,Nat.le_refl _,(fun e => by cases e),by unfold maxLen; omega,.inr ⟨b,0,rfl,trivial,(Array.getElem?_eq_some_iff.1 h).1,fun i y hy => ?_⟩⟩
 cases i with
 | zero =>
  simp only [List.getElem?_cons_zero,Option.some.injEq] at hy
  subst hy
  simp [World.cell?,h]
 | succ i => simp at hy
end
theorem run_mapHint (t k e : TypeId) (ht : Tryz.prog.underlying t = some (.map k e)) (n : Int) (w : World) : (Instr.makeMap t (some (.int .i64 n))).run Tryz.prog w = .ok (.map (some w.heap.size)) (w.alloc (.map #[] 0)) := by
 simp [Instr.makeMap,run_underlying ht,asInt,asIntOf,newObj,Sem.run,Result.andThen]
structure El {α : Type} (tk : TypeId) (c : α -> Value) (q : α -> Lit) (ok : α -> Prop) : Prop where
 law : Keyed Tryz.prog tk
 key : ∀ {x},ok x -> keyOf Tryz.prog tk (c x) = some (q x)
 inv : ∀ {v kl},keyOf Tryz.prog tk v = some kl -> ∃ x,v = c x /\ kl = q x /\ ok x
 inj : ∀ {x y},q x = q y -> x = y
 isKey : ∀ x,WideAt.IsKeyLit (q x)
 one : ∀ x,(c x).oneCell' = true
section
variable {α : Type} [DecidableEq α] {tk tm : TypeId} {c : α -> Value} {q : α -> Lit} {ok : α -> Prop}
def SetD (q : α -> Lit) (ok : α -> Prop) (D : DataW Unit) (L : List α) : Prop := (∀ x,Maps.has D (q x) = decide (x ∈ L)) /\ Maps.size D = L.length /\ L.Nodup /\ ∀ x ∈ L,ok x
theorem SetD.put (E : El tk c q ok) {D : DataW Unit} {L : List α} (h : SetD q ok D L) (hD : Tidy D) {x : α} (hx : x ∉ L) (hk : ok x) (d : DataW Unit) : SetD q ok (D.put (q x) d) (L ++ [x]) := by
 obtain ⟨h1,h2,h3,h4⟩ := h
 refine ⟨fun y => ?_,?_,?_,?_⟩
 ·by_cases e : y = x
  ·subst e
   rw [has_put_same hD.isMap (E.isKey y)]
   simp
  ·rw [has_put_other (fun h => e (E.inj h)),h1]
   simp [e]
 ·rw [size_put hD,h1,h2]
  simp [hx]
 ·rw [List.nodup_append]
  exact ⟨h3,by simp,fun y hy z hz e => hx (by rw [List.mem_singleton.1 hz] at e; rw [<- e]; exact hy)⟩
 ·intro y hy
  rcases List.mem_append.1 hy with hy | hy
  ·exact h4 y hy
  ·rw [List.mem_singleton.1 hy]; exact hk
theorem SetD.del (E : El tk c q ok) {D : DataW Unit} {L : List α} (h : SetD q ok D L) (hD : Tidy D) (x : α) : SetD q ok (D.del (q x)) (delS L x) := by
 obtain ⟨h1,h2,h3,h4⟩ := h
 have hsz := size_del (k := q x) hD
 rw [h1] at hsz
 refine ⟨fun y => ?_,?_,delS_nodup h3 x,fun y hy => h4 y (delS_mem.1 hy).1⟩
 ·by_cases e : y = x
  ·subst e
   rw [has_del_same]
   symm
   rw [decide_eq_false_iff_not,delS_mem]
   exact fun h => h.2 rfl
  ·rw [has_del_other (fun h => e (E.inj h)),h1,decide_eq_decide,delS_mem]
   exact ⟨fun h => ⟨h,e⟩,fun h => h.1⟩
 ·by_cases hx : x ∈ L
  ·rw [decide_eq_true hx,if_pos rfl,h2] at hsz
   have h5 : (x :: delS L x).length = L.length := nodup_len_eq (List.nodup_cons.2 ⟨fun h => (delS_mem.1 h).2 rfl,delS_nodup h3 x⟩) h3 (fun y => by
    rw [List.mem_cons,delS_mem]
    refine ⟨fun h => h.elim (fun e => e ▸ hx) (fun h => h.1),fun h => ?_⟩
    by_cases e : y = x
    ·exact .inl e
    ·exact .inr ⟨h,e⟩)
   rw [List.length_cons] at h5
   omega
  ·rw [decide_eq_false hx] at hsz
   have : delS L x = L := by
    unfold delS
    rw [List.filter_eq_self]
    intro y hy
    exact decide_eq_true (fun e => hx (e ▸ hy))
   rw [this]
   simpa using hsz.trans h2
def Mq (tk : TypeId) (q : α -> Lit) (ok : α -> Prop) (w : World) (b : Nat) (L : List α) : Prop := ∃ D : DataW Unit,w.ownsMap Tryz.prog tk unitElem b L.length D /\ SetD q ok D L
theorem Mq.made (w : World) : Mq tk q ok (w.alloc (.map #[] 0)) w.heap.size ([] : List α) := ⟨_,World.ownsMap_made _ _ _ _,fun _ => rfl,rfl,List.nodup_nil,fun x hx => by cases hx⟩
theorem Mq.map {w : World} {b : Nat} {L : List α} (h : Mq tk q ok w b L) : ∃ es k,w.heap[b]? = some (.map es k) := by
 obtain ⟨D,⟨es,k,hb,_⟩,_⟩ := h
 exact ⟨es,k,hb⟩
theorem Mq.kpt {w w' : World} {b : Nat} {L : List α} {S : List Nat} (h : Mq tk q ok w b L) (hk : Kpt S w w') (hS : b ∉ S) : Mq tk q ok w' b L := by
 obtain ⟨D,⟨es,k,hb,hr⟩,h2⟩ := h
 exact ⟨D,⟨es,k,hk.block hb hS,hr⟩,h2⟩
theorem Mq.nodup {w : World} {b : Nat} {L : List α} (h : Mq tk q ok w b L) : L.Nodup := by
 obtain ⟨D,_,_,_,h,_⟩ := h
 exact h
theorem Mq.oks {w : World} {b : Nat} {L : List α} (h : Mq tk q ok w b L) : ∀ x ∈ L,ok x := by
 obtain ⟨D,_,_,_,_,h⟩ := h
 exact h
theorem wp_lookQ (E : El tk c q ok) {te : TypeId} (ht : Tryz.prog.underlying tm = some (.map tk te)) {w : World} (hz : (zeroValue te).run Tryz.prog w = .ok (.agg #[]) w) {ops : Array Oper} {rest : List Oper} {o : Oper} {a : Act} {Q : Exit -> Act -> World -> Prop} (hg : o.guard = none) (m x : Operand) (hop : o.op = Op.lookup tm m x true)
  (b : Nat) (L : List α) (hm : a.eval m = .map (some b)) (h : Mq tk q ok w b L) (s : α) (hs : ok s) (hx : a.eval x = c s) (r : Bool) (hr : hasB L s = r)
  (hK : wpList Tryz.prog ops Q rest (a.put o.dst (.tuple #[.agg #[],.bool r])) w) :
  wpList Tryz.prog ops Q (o :: rest) a w := by
 obtain ⟨D,h1,h2,_⟩ := h
 refine wpList_lookup_own_unit w hg m x _ hop tk te E.law ht hz b _ D hm h1 _ (q s) hx (E.key hs) ?_
 rw [h2,show decide (s ∈ L) = r from hr]
 exact hK
theorem wp_storeQ (E : El tk c q ok) {te : TypeId} (ht : Tryz.prog.underlying tm = some (.map tk te)) {w : World} {ops : Array Oper} {rest : List Oper} {o : Oper} {a : Act} {Q : Exit -> Act -> World -> Prop} (hg : o.guard = none) (m x v : Operand) (hop : o.op = Op.mapUpdate tm m x v)
  (b : Nat) (L : List α) (hm : a.eval m = .map (some b)) (h : Mq tk q ok w b L) (s : α) (hs : ok s) (hx : a.eval x = c s) (hv : a.eval v = .agg #[]) (hn : s ∉ L) (hl : L.length <= 1000000)
  (hK : ∀ w',Mq tk q ok w' b (L ++ [s]) -> w.grownBy w' (some b) -> wpList Tryz.prog ops Q rest (a.put o.dst undef) w') :
  wpList Tryz.prog ops Q (o :: rest) a w := by
 obtain ⟨D,h1,h2⟩ := h
 refine wpList_mapUpdate_own w hg m x v _ hop tk te E.law ht unitElem b L.length D hm h1 (by unfold maxLen; omega) _ _ (q s) hx hv (E.key hs) (.agg []) [] unitElem_mk ?_
 intro w' hown hg
 refine hK w' ⟨D.put (q s) (.agg []),?_,h2.put E (h1.tidy E.law) hn hs _⟩ hg
 rw [List.length_append]
 exact hown
theorem wp_delQ (E : El tk c q ok) {te : TypeId} (ht : Tryz.prog.underlying tm = some (.map tk te)) {w : World} {ops : Array Oper} {rest : List Oper} {o : Oper} {a : Act} {Q : Exit -> Act -> World -> Prop} (hg : o.guard = none) (m x : Operand)
  (hop : o.op = Op.call { callee := Callee.builtin Builtin.delete,args := #[m,x],argTypes := #[tm,tk] })
  (b : Nat) (L : List α) (hm : a.eval m = .map (some b)) (h : Mq tk q ok w b L) (s : α) (hs : ok s) (hx : a.eval x = c s)
  (hK : ∀ w',Mq tk q ok w' b (delS L s) -> w.grownBy w' (some b) -> wpList Tryz.prog ops Q rest (a.put o.dst (.tuple #[])) w') :
  wpList Tryz.prog ops Q (o :: rest) a w := by
 obtain ⟨D,h1,h2⟩ := h
 refine wpList_delete_own w hg m x _ tk hop te E.law ht unitElem b L.length D hm h1 _ (q s) hx (E.key hs) ?_
 intro w' hown ht'
 have h3 := h2.del E (h1.tidy E.law) s
 refine hK w' ⟨_,?_,h3⟩ ht'.grown
 obtain ⟨es,k,g1,g2,g3,g4⟩ := hown
 refine ⟨es,k,g1,g2,?_,g4⟩
 have e : Maps.size (D.del (q s)) = es.size := by rw [g4]; simp [Maps.size,length_sorted]
 rw [<- e,h3.2.1]
 exact Nat.le_refl _
def Rg (tk : TypeId) (q : α -> Lit) (ok : α -> Prop) (w : World) (b r : Nat) (L R : List α) (n : Nat) : Prop := ∃ (D : DataW Unit) (left : Lit -> Bool),w.ranges Tryz.prog tk unitElem b r L.length D left n /\ SetD q ok D L /\
 R.Nodup /\ (∀ x ∈ R,x ∈ L) /\ (∀ x,left (q x) = decide (x ∈ L /\ x ∉ R)) /\ ∀ kl,left kl = true -> ∃ x,kl = q x
theorem Rg.lt {w : World} {b r n : Nat} {L R : List α} (h : Rg tk q ok w b r L R n) : r < w.heap.size := by
 obtain ⟨D,left,h1,_⟩ := h
 exact h1.lt
def St (tS tk : TypeId) (q : α -> Lit) (ok : α -> Prop) (w : World) (B sb mb : Nat) (L : List α) : Prop :=
 B <= sb /\ B <= mb /\ w.heap[sb]? = some (.cells #[.map (some mb),.slice none 0 0] tS (0,0)) /\ Mq tk q ok w mb L
variable {tS : TypeId}
theorem St.lt {w : World} {B sb mb : Nat} {L : List α} (h : St tS tk q ok w B sb mb L) : sb < w.heap.size /\ mb < w.heap.size /\ sb ≠ mb := by
 obtain ⟨_,_,h1,h2⟩ := h
 obtain ⟨es,k,h3⟩ := h2.map
 refine ⟨(Array.getElem?_eq_some_iff.1 h1).1,(Array.getElem?_eq_some_iff.1 h3).1,?_⟩
 rintro rfl
 rw [h1] at h3
 cases h3
theorem St.kpt {w w' : World} {B sb mb : Nat} {L : List α} {S : List Nat} (h : St tS tk q ok w B sb mb L) (hk : Kpt S w w') (h1 : sb ∉ S) (h2 : mb ∉ S) : St tS tk q ok w' B sb mb L :=
 ⟨h.1,h.2.1,hk.block h.2.2.1 h1,h.2.2.2.kpt hk h2⟩
theorem St.mono {w : World} {B B' sb mb : Nat} {L : List α} (h : St tS tk q ok w B sb mb L) (hB : B' <= B) : St tS tk q ok w B' sb mb L := ⟨Nat.le_trans hB h.1,Nat.le_trans hB h.2.1,h.2.2⟩
theorem St.cells {w : World} {B sb mb : Nat} {L : List α} (h : St tS tk q ok w B sb mb L) : w.cell? ⟨sb,0,none⟩ = some (.map (some mb)) /\ w.cell? ⟨sb,1,none⟩ = some (.slice none 0 0) /\ w.frozen? ⟨sb,1,none⟩ = false := by
 obtain ⟨_,_,h1,_⟩ := h
 refine ⟨?_,?_,?_⟩
 ·simp [World.cell?,h1]
 ·simp [World.cell?,h1]
 ·simp [World.frozen?,h1]
theorem St.bel {w w' : World} {B sb mb : Nat} {L : List α} (h : St tS tk q ok w B sb mb L) (hb : Below w.heap.size w w') : St tS tk q ok w' B sb mb L := h.kpt (.of_below (S := []) hb) (by simp) (by simp)
end
end Go.Proofs.YtfpeakkbbfnhcaaGreat.S
namespace Go.Proofs.YtfpeakkbbfnhcaaGreat.S
open Go.RowKit Go.Maps
abbrev cI (x : Int) : Value := .int .i64 x
abbrev cS (x : ByteArray) : Value := .string x
def qI (x : Int) : Lit := .int .i64 x
def qS (x : ByteArray) : Lit := .string x.data.toList
def okI (x : Int) : Prop := (Lit.int .i64 x).wf = true
def okS (x : ByteArray) : Prop := x.size <= maxLen
def ltI (x y : Int) : Bool := decide (x < y)
theorem elI : El 3 cI qI okI where
 law := int_keyed Tryz.underlying3
 key h := keyOf_int_mk Tryz.underlying3 h
 inv h := by
  obtain ⟨x,h1,h2,h3⟩ := Maps.keyOf_int_inv Tryz.underlying3 h
  exact ⟨x,h1,h2,h3⟩
 inj h := by simpa [qI] using h
 isKey x := by unfold qI WideAt.IsKeyLit; trivial
 one _ := rfl
theorem keyOf_string_inv {P : Program} {k : TypeId} (hk : P.underlying k = some .string) {key : Value} {kl : Lit} (h : keyOf P k key = some kl) : ∃ x : ByteArray,key = .string x /\ kl = .string x.data.toList /\ x.size <= maxLen := by
 cases key <;> simp [keyOf,hk,mapKey] at h
 rename_i s
 exact ⟨s,rfl,h.2.symm,h.1⟩
theorem qS_inj {a b : ByteArray} (h : qS a = qS b) : a = b := by
 unfold qS at h
 simp only [Lit.string.injEq] at h
 obtain ⟨a⟩ := a
 obtain ⟨b⟩ := b
 simp only at h
 rw [Array.toList_inj.1 h]
theorem elS : El 9 cS qS okS where
 law := string_keyed Tryz.underlying9
 key h := WideMaps.keyOf_string_mk Tryz.underlying9 h
 inv h := by
  obtain ⟨x,h1,h2,h3⟩ := keyOf_string_inv Tryz.underlying9 h
  exact ⟨x,h1,h2,h3⟩
 inj h := qS_inj h
 isKey x := by unfold qS WideAt.IsKeyLit; trivial
 one _ := rfl
theorem toI : TO ltI where
 irr x := by simp [ltI]
 tr h1 h2 := by simp [ltI] at *; omega
 tot h1 h2 := by simp [ltI] at *; omega
theorem txt_inj {a b : ByteArray} (h : a.toList = b.toList) : a = b := by
 rw [ByteArray.toList_eq,ByteArray.toList_eq] at h
 obtain ⟨⟨a⟩⟩ := a
 obtain ⟨⟨b⟩⟩ := b
 rw [show a = b from h]
theorem txt_ne {a b : ByteArray} (h : a ≠ b) : (a.toList == b.toList) = false := by rw [beq_eq_false_iff_ne]; exact fun e => h (txt_inj e)
theorem txt_eq {a b : ByteArray} (h : a = b) : (a.toList == b.toList) = true := by rw [h]; simp
theorem ret_int {k : IntKind} {a b : Int} (h : a = b) : Ending.returned (.int k a) = .returned (.int k b) := by rw [h]
theorem ret_bool {a b : Bool} (h : a = b) : Ending.returned (.bool a) = .returned (.bool b) := by rw [h]
theorem zero0 (w : World) : (zeroValue 171).run Tryz.prog w = .ok (.agg #[]) w := by kernel_rfl
theorem infI : Inf1 3 70 8 (.int .i64 0) := ⟨by kernel_rfl,Tryz.underlying70,rfl,by decide⟩
theorem infS : Inf1 9 38 16 (.string ⟨#[]⟩) := ⟨by kernel_rfl,Tryz.underlying38,rfl,by decide⟩
theorem odd_I (x : Int) (w : World) : Calls Tryz.prog 135 #[.int .i64 x] w fun e w' => e = .returned (.bool false) /\ w = w' := by
 go_enter Tryz.func135,Tryz.ntmps135
 go_wp2
 go_ret
 exact ⟨by simp,rfl⟩
theorem nan_I (x : Int) (w : World) : Calls Tryz.prog 183 #[.int .i64 x] w fun e w' => e = .returned (.bool false) /\ w = w' := by
 go_enter Tryz.func183,Tryz.ntmps183
 go_wp2
 go_ret
 exact ⟨by simp,rfl⟩
theorem less_I (x y : Int) (w : World) : Calls Tryz.prog 158 #[.int .i64 x,.int .i64 y] w fun e w' => e = .returned (.bool (ltI x y)) /\ w = w' := by
 go_enter Tryz.func158,Tryz.ntmps158
 go_wp2_with (go_at_call 183; refine (nan_I _ _).mono ?_; rintro e w' ⟨rfl,rfl⟩)
 all_goals go_ret
 all_goals exact ⟨by simp [ltI, *],rfl⟩
theorem lessq_I (x y : Int) (w : World) : Calls Tryz.prog 158 #[.int .i64 x,.int .i64 y] w fun e w' => e = .returned (.bool (ltI x y)) /\ w' = w := (less_I x y w).mono fun _ _ h => ⟨h.1,h.2.symm⟩
theorem odd_S (x : ByteArray) (w : World) : Calls Tryz.prog 110 #[.string x] w fun e w' => e = .returned (.bool false) /\ w = w' := by
 go_enter Tryz.func110,Tryz.ntmps110
 go_wp2
 go_ret
 exact ⟨by simp,rfl⟩
end Go.Proofs.YtfpeakkbbfnhcaaGreat.S
namespace Go.Proofs.YtfpeakkbbfnhcaaGreat.S
open Go.RowKit Go.Maps
abbrev StI (w : World) (B sb mb : Nat) (L : List Int) : Prop := St 190 3 qI okI w B sb mb L
theorem has_I (B sb mb : Nat) (L : List Int) (x : Int) (w : World) (h : StI w B sb mb L) (hx : okI x) :
  Calls Tryz.prog 132 #[.pointer (some ⟨sb,0,none⟩),.int .i64 x] w fun e w' => e = .returned (.bool (hasB L x)) /\ Below w.heap.size w w' := by
 obtain ⟨c0,c1,f1⟩ := h.cells
 obtain ⟨hlt,_,_⟩ := h.lt
 have hm := h.2.2.2
 obtain ⟨r,hr⟩ : ∃ r,hasB L x = r := ⟨_,rfl⟩
 go_enter Tryz.func132,Tryz.ntmps132
 go_wp2_with first | (go_at_call 135; refine (odd_I _ _).mono ?_; rintro e w' ⟨rfl,rfl⟩) | (at_lookup; refine wp_lookQ elI Tryz.underlying188 (zero0 _) rfl _ _ rfl mb L rfl hm x hx rfl r hr ?_)
 go_ret
 exact ⟨by rw [hr]; rfl,(Below.refl _ w).alloc (Nat.le_refl _) _⟩
theorem add_I (B sb mb : Nat) (L : List Int) (x : Int) (w : World) (h : StI w B sb mb L) (hx : okI x) (hl : L.length <= 100000) :
  Calls Tryz.prog 131 #[.pointer (some ⟨sb,0,none⟩),.int .i64 x] w fun e w' => e = .returned (.bool (!hasB L x)) /\ StI w' B sb mb (addS L x) /\ Kpt [mb] w w' := by
 by_cases hin : x ∈ L
 ·have hr := hasB_in hin
  go_enter Tryz.func131,Tryz.ntmps131
  go_wp2_with fail
  refine (has_I B sb mb L x w h hx).mono ?_
  rintro e w1 ⟨rfl,hb⟩
  rw [hr]
  go_wp2
  go_ret
  exact ⟨by rw [hr]; rfl,by rw [addS_in hin]; exact h.bel hb,.of_below hb⟩
 ·have hr := hasB_out hin
  go_enter Tryz.func131,Tryz.ntmps131
  go_wp2_with fail
  refine (has_I B sb mb L x w h hx).mono ?_
  rintro e w1 ⟨rfl,hb⟩
  rw [hr]
  have h1 : StI w1 B sb mb L := h.bel hb
  have HB := hid hb
  clear hb
  obtain ⟨c0,c1,f1⟩ := h1.cells
  obtain ⟨hlt,_,hne⟩ := h1.lt
  have hm := h1.2.2.2
  go_wp2_with first | (go_at_call 135; refine (odd_I _ _).mono ?_; rintro e w' ⟨rfl,rfl⟩) | (at_mapUpdate; refine wp_storeQ elI Tryz.underlying188 rfl _ _ _ rfl mb L rfl hm x hx rfl rfl hin (by omega) ?_)
  intro w2 hm2 hg
  have HM := hid hm2
  have HG := hid hg
  clear hm2 hg
  go_wp2
  go_ret
  have k2 : Kpt [mb] w1 w2 := .of_grown HG.out (fun g e => by cases e; exact .inl (by simp))
  exact ⟨by rw [hr]; rfl,by rw [addS_out hin]; exact ⟨h1.1,h1.2.1,k2.block h1.2.2.1 (by simpa using hne),HM.out⟩,Kpt.trans (.of_below HB.out) k2 (fun y hy => .inl hy)⟩
theorem drop_I (B sb mb : Nat) (L : List Int) (x : Int) (w : World) (h : StI w B sb mb L) (hx : okI x) :
  Calls Tryz.prog 89 #[.pointer (some ⟨sb,0,none⟩),.int .i64 x] w fun e w' => e = .returned (.tuple #[]) /\ StI w' B sb mb (delS L x) /\ Kpt [mb] w w' := by
 obtain ⟨c0,c1,f1⟩ := h.cells
 obtain ⟨hlt,_,hne⟩ := h.lt
 have hm := h.2.2.2
 go_enter Tryz.func89,Tryz.ntmps89
 go_wp2_with first | (go_at_call 135; refine (odd_I _ _).mono ?_; rintro e w' ⟨rfl,rfl⟩) | (at_delete; refine wp_delQ elI Tryz.underlying188 rfl _ _ rfl mb L rfl hm x hx rfl ?_)
 intro w2 hm2 hg
 have HM := hid hm2
 have HG := hid hg
 clear hm2 hg
 go_wp2
 go_end0
 have k2 : Kpt [mb] w w2 := .of_grown HG.out (fun g e => by cases e; exact .inl (by simp))
 exact ⟨rfl,⟨h.1,h.2.1,k2.block h.2.2.1 (by simpa using hne),HM.out⟩,k2⟩
theorem new_I (v : Value) (xs : List Int) (ok : Nat -> Prop) (w : World) (hr : RdC cI ok w v xs) (hx : ∀ x ∈ xs,okI x) (hl : xs.length <= 100000) :
  Calls Tryz.prog 84 #[v] w fun e w' => ∃ sb mb,e = .returned (.pointer (some ⟨sb,0,none⟩)) /\ StI w' w.heap.size sb mb (onceL xs) /\ Below w.heap.size w w' := by
 obtain ⟨p,cap,rfl,h1,h2⟩ := hr.form
 have hmm := run_mapHint _ _ _ Tryz.underlying188 xs.length
 unfold maxLen at h2
 go_enter Tryz.func84,Tryz.ntmps84
 go_wp2
 have hal := heap_alloc_new (w.alloc (.map #[] 0)) (.cells #[.map (some w.heap.size),.slice none 0 0] 190)
 rw [World.size_alloc] at hal
 have H0 : StI ((w.alloc (.map #[] 0)).alloc (.cells #[.map (some w.heap.size),.slice none 0 0] 190)) w.heap.size (w.heap.size + 1) w.heap.size [] := ⟨by omega,by omega,hal,(Mq.made w).kpt (Kpt.alloc [] _ _) (by simp)⟩
 obtain ⟨w0,hw0⟩ : ∃ x,x = (w.alloc (.map #[] 0)).alloc (.cells #[.map (some w.heap.size),.slice none 0 0] 190) := ⟨_,rfl⟩
 rw [<- hw0] at H0 ⊢
 have HB : Hid (Below w.heap.size w w0) := hid (by rw [hw0]; exact ((Below.refl _ w).alloc (Nat.le_refl _) _).alloc (by simp) _)
 have HR := hid hr
 have H1 := hid H0
 clear H0 hw0 hal hmm hr
 go_loopw [13] (fun v wr => ∃ i : Nat,v = .int .i64 (i : Int) /\ i <= xs.length /\ Hid (StI wr w.heap.size (w.heap.size + 1) w.heap.size (onceL (xs.take i))) /\ Hid (Below w.heap.size w wr)) (fun v _ => xs.length - (intOf v).toNat)
 case atStart => exact ⟨0,rfl,by omega,H1,HB⟩
 case round =>
  clear H1 HB
  obtain ⟨i,rfl,hi,H1,HB⟩ := hrel
  by_cases hlt : i < xs.length
  ·have hlt' : (i : Int) < (xs.length : Int) := by omega
   have hne : xs ≠ [] := by rintro rfl; simp at hlt
   obtain ⟨b,off,rfl,hb,hbl,hc⟩ := HR.out.at hne
   have ci : wr.cell? ⟨b,off + i,none⟩ = some (.int .i64 xs[i]) := (HB.out.cell hbl).trans (hc i _ (List.getElem?_eq_getElem hlt))
   have hox := hx _ (List.getElem_mem hlt)
   have HT := hid (once_take hlt)
   obtain ⟨x,hxx⟩ : ∃ x,xs[i] = x := ⟨_,rfl⟩
   rw [hxx] at ci hox HT
   clear hc hxx
   go_wp2_with fail
   refine (add_I _ _ _ _ x wr H1.out hox (by have := onceL_len (xs.take i); rw [List.length_take] at this; omega)).mono ?_
   rintro e w2 ⟨rfl,hs2,hk2⟩
   have HS := hid hs2
   have HK := hid hk2
   clear hs2 hk2 H1 ci
   go_wp2_with fail
   go_roundw
   case rel => exact ⟨i + 1,by go_num,by omega,by rw [HT.out]; exact HS,hid (HB.out.trans (HK.out.below (fun y hy => by rw [List.mem_singleton.1 hy]; exact Nat.le_refl _) HB.out.size))⟩
   case measure => simp [intOf]; omega
  ·obtain rfl : i = xs.length := by omega
   rw [List.take_length] at H1
   clear hlt hi
   go_wp2
   go_ret
   exact ⟨_,_,rfl,H1.out,HB.out⟩
abbrev StS (w : World) (B sb mb : Nat) (L : List ByteArray) : Prop := St 168 9 qS okS w B sb mb L
theorem has_S (B sb mb : Nat) (L : List ByteArray) (x : ByteArray) (w : World) (h : StS w B sb mb L) (hx : okS x) :
  Calls Tryz.prog 52 #[.pointer (some ⟨sb,0,none⟩),.string x] w fun e w' => e = .returned (.bool (hasB L x)) /\ Below w.heap.size w w' := by
 obtain ⟨c0,c1,f1⟩ := h.cells
 obtain ⟨hlt,_,_⟩ := h.lt
 have hm := h.2.2.2
 obtain ⟨r,hr⟩ : ∃ r,hasB L x = r := ⟨_,rfl⟩
 go_enter Tryz.func52,Tryz.ntmps52
 go_wp2_with first | (go_at_call 110; refine (odd_S _ _).mono ?_; rintro e w' ⟨rfl,rfl⟩) | (at_lookup; refine wp_lookQ elS Tryz.underlying166 (zero0 _) rfl _ _ rfl mb L rfl hm x hx rfl r hr ?_)
 go_ret
 exact ⟨by rw [hr]; rfl,(Below.refl _ w).alloc (Nat.le_refl _) _⟩
theorem add_S (B sb mb : Nat) (L : List ByteArray) (x : ByteArray) (w : World) (h : StS w B sb mb L) (hx : okS x) (hl : L.length <= 100000) :
  Calls Tryz.prog 108 #[.pointer (some ⟨sb,0,none⟩),.string x] w fun e w' => e = .returned (.bool (!hasB L x)) /\ StS w' B sb mb (addS L x) /\ Kpt [mb] w w' := by
 by_cases hin : x ∈ L
 ·have hr := hasB_in hin
  go_enter Tryz.func108,Tryz.ntmps108
  go_wp2_with fail
  refine (has_S B sb mb L x w h hx).mono ?_
  rintro e w1 ⟨rfl,hb⟩
  rw [hr]
  go_wp2
  go_ret
  exact ⟨by rw [hr]; rfl,by rw [addS_in hin]; exact h.bel hb,.of_below hb⟩
 ·have hr := hasB_out hin
  go_enter Tryz.func108,Tryz.ntmps108
  go_wp2_with fail
  refine (has_S B sb mb L x w h hx).mono ?_
  rintro e w1 ⟨rfl,hb⟩
  rw [hr]
  have h1 : StS w1 B sb mb L := h.bel hb
  have HB := hid hb
  clear hb
  obtain ⟨c0,c1,f1⟩ := h1.cells
  obtain ⟨hlt,_,hne⟩ := h1.lt
  have hm := h1.2.2.2
  go_wp2_with first | (go_at_call 110; refine (odd_S _ _).mono ?_; rintro e w' ⟨rfl,rfl⟩) | (at_mapUpdate; refine wp_storeQ elS Tryz.underlying166 rfl _ _ _ rfl mb L rfl hm x hx rfl rfl hin (by omega) ?_)
  intro w2 hm2 hg
  have HM := hid hm2
  have HG := hid hg
  clear hm2 hg
  go_wp2
  go_ret
  have k2 : Kpt [mb] w1 w2 := .of_grown HG.out (fun g e => by cases e; exact .inl (by simp))
  exact ⟨by rw [hr]; rfl,by rw [addS_out hin]; exact ⟨h1.1,h1.2.1,k2.block h1.2.2.1 (by simpa using hne),HM.out⟩,Kpt.trans (.of_below HB.out) k2 (fun y hy => .inl hy)⟩
theorem new_S (v : Value) (xs : List ByteArray) (ok : Nat -> Prop) (w : World) (hr : RdC cS ok w v xs) (hx : ∀ x ∈ xs,okS x) (hl : xs.length <= 100000) :
  Calls Tryz.prog 50 #[v] w fun e w' => ∃ sb mb,e = .returned (.pointer (some ⟨sb,0,none⟩)) /\ StS w' w.heap.size sb mb (onceL xs) /\ Below w.heap.size w w' := by
 obtain ⟨p,cap,rfl,h1,h2⟩ := hr.form
 have hmm := run_mapHint _ _ _ Tryz.underlying166 xs.length
 unfold maxLen at h2
 go_enter Tryz.func50,Tryz.ntmps50
 go_wp2
 have hal := heap_alloc_new (w.alloc (.map #[] 0)) (.cells #[.map (some w.heap.size),.slice none 0 0] 168)
 rw [World.size_alloc] at hal
 have H0 : StS ((w.alloc (.map #[] 0)).alloc (.cells #[.map (some w.heap.size),.slice none 0 0] 168)) w.heap.size (w.heap.size + 1) w.heap.size [] := ⟨by omega,by omega,hal,(Mq.made w).kpt (Kpt.alloc [] _ _) (by simp)⟩
 obtain ⟨w0,hw0⟩ : ∃ x,x = (w.alloc (.map #[] 0)).alloc (.cells #[.map (some w.heap.size),.slice none 0 0] 168) := ⟨_,rfl⟩
 rw [<- hw0] at H0 ⊢
 have HB : Hid (Below w.heap.size w w0) := hid (by rw [hw0]; exact ((Below.refl _ w).alloc (Nat.le_refl _) _).alloc (by simp) _)
 have HR := hid hr
 have H1 := hid H0
 clear H0 hw0 hal hmm hr
 go_loopw [13] (fun v wr => ∃ i : Nat,v = .int .i64 (i : Int) /\ i <= xs.length /\ Hid (StS wr w.heap.size (w.heap.size + 1) w.heap.size (onceL (xs.take i))) /\ Hid (Below w.heap.size w wr)) (fun v _ => xs.length - (intOf v).toNat)
 case atStart => exact ⟨0,rfl,by omega,H1,HB⟩
 case round =>
  clear H1 HB
  obtain ⟨i,rfl,hi,H1,HB⟩ := hrel
  by_cases hlt : i < xs.length
  ·have hlt' : (i : Int) < (xs.length : Int) := by omega
   have hne : xs ≠ [] := by rintro rfl; simp at hlt
   obtain ⟨b,off,rfl,hb,hbl,hc⟩ := HR.out.at hne
   have ci : wr.cell? ⟨b,off + i,none⟩ = some (.string xs[i]) := (HB.out.cell hbl).trans (hc i _ (List.getElem?_eq_getElem hlt))
   have hox := hx _ (List.getElem_mem hlt)
   have HT := hid (once_take hlt)
   obtain ⟨x,hxx⟩ : ∃ x,xs[i] = x := ⟨_,rfl⟩
   rw [hxx] at ci hox HT
   clear hc hxx
   go_wp2_with fail
   refine (add_S _ _ _ _ x wr H1.out hox (by have := onceL_len (xs.take i); rw [List.length_take] at this; omega)).mono ?_
   rintro e w2 ⟨rfl,hs2,hk2⟩
   have HS := hid hs2
   have HK := hid hk2
   clear hs2 hk2 H1 ci
   go_wp2_with fail
   go_roundw
   case rel => exact ⟨i + 1,by go_num,by omega,by rw [HT.out]; exact HS,hid (HB.out.trans (HK.out.below (fun y hy => by rw [List.mem_singleton.1 hy]; exact Nat.le_refl _) HB.out.size))⟩
   case measure => simp [intOf]; omega
  ·obtain rfl : i = xs.length := by omega
   rw [List.take_length] at H1
   clear hlt hi
   go_wp2
   go_ret
   exact ⟨_,_,rfl,H1.out,HB.out⟩
end Go.Proofs.YtfpeakkbbfnhcaaGreat.S
namespace Go.Proofs.YtfpeakkbbfnhcaaGreat.R
open Go.RowKit Go.Proofs.YtfpeakkbbfnhcaaGreat.D Go.Proofs.YtfpeakkbbfnhcaaGreat.O Go.Proofs.YtfpeakkbbfnhcaaGreat.A
def ChI (B sb mb : Nat) (v : Value) (L l : List ByteArray) (w0 w : World) : Prop :=
 Below B w0 w /\ B <= w.heap.size /\ S.StS w B sb mb L /\ S.OwnC S.cS 9 w B v l /\ v.ownBlock ≠ some sb /\ v.ownBlock ≠ some mb
theorem ChI.bel {B sb mb : Nat} {v : Value} {L l : List ByteArray} {w0 w w' : World} (h : ChI B sb mb v L l w0 w) (hb : Below w.heap.size w w') : ChI B sb mb v L l w0 w' := by
 obtain ⟨h1,h2,h3,h4,h5,h6⟩ := h
 exact ⟨h1.trans (hb.mono h2),Nat.le_trans h2 hb.size,h3.bel hb,h4.kpt (S.Kpt.of_below (S := []) hb) (by simp),h5,h6⟩
theorem ChI.add {B sb mb : Nat} {v : Value} {L L' l : List ByteArray} {w0 w w' : World} (h : ChI B sb mb v L l w0 w) (hs : S.StS w' B sb mb L') (hk : S.Kpt [mb] w w') : ChI B sb mb v L' l w0 w' := by
 obtain ⟨h1,h2,h3,h4,h5,h6⟩ := h
 exact ⟨h1.trans (hk.below (fun x hx => by rw [List.mem_singleton.1 hx]; exact h3.2.1) h2),Nat.le_trans h2 hk.size,hs,h4.kpt hk (fun g e => by rw [e] at h6; simpa using h6),h5,h6⟩
theorem ChI.app {B sb mb : Nat} {v v' : Value} {L l l' : List ByteArray} {w0 w w' : World} (h : ChI B sb mb v L l w0 w) (ho : S.OwnC S.cS 9 w' B v' l') (hg : w.grownBy w' v.ownBlock) (hl : v'.ownBlock = v.ownBlock ∨ v'.ownBlock = some w.heap.size) : ChI B sb mb v' L l' w0 w' := by
 obtain ⟨h1,h2,h3,h4,h5,h6⟩ := h
 have k : S.Kpt v.ownBlock.toList w w' := .of_grown hg (fun g e => .inl (by rw [e]; simp))
 obtain ⟨l1,l2,_⟩ := h3.lt
 refine ⟨h1.trans (k.below (fun x hx => ?_) h2),Nat.le_trans h2 k.size,h3.kpt k (by simpa using h5) (by simpa using h6),ho,?_,?_⟩
 ·have : v.ownBlock = some x := by simpa using hx
  exact (h4.lt x this).1
 ·rcases hl with e | e
  ·rw [e]; exact h5
  ·rw [e]; simp only [ne_eq,Option.some.injEq]; omega
 ·rcases hl with e | e
  ·rw [e]; exact h6
  ·rw [e]; simp only [ne_eq,Option.some.injEq]; omega
theorem chain_t (ok : Nat -> Prop) (tb mt : Nat) (vs : Value) (K : List Cls) (n : ByteArray) (w : World) (h : TrW w ok tb mt vs K) (hn : n.size <= maxLen) :
  Calls Tryz.prog 109 #[.pointer (some ⟨tb,0,none⟩),.string n] w fun e w' => ∃ p c,e = .returned (.tuple #[.slice p (chainT (K.map skOf) n).1.length c,.bool (chainT (K.map skOf) n).2]) /\ S.OwnC S.cS 9 w' w.heap.size (.slice p (chainT (K.map skOf) n).1.length c) (chainT (K.map skOf) n).1 /\ Below w.heap.size w w' := by
 obtain ⟨R,hR⟩ : ∃ x,chainT (K.map skOf) n = x := ⟨_,rfl⟩
 obtain ⟨T,hT⟩ : ∃ x,K.map skOf = x := ⟨_,rfl⟩
 have HT := hid h
 have HS : Hid (SzT T) := hid (by rw [<- hT]; exact h.2.2.2.2.2)
 have HR : Hid (chainF T (T.length + 8) [] n = R) := hid (by rw [<- hT]; exact hR)
 have HTT := hid hT
 have hTl := HS.out.1
 rw [hR]
 clear h hR hT
 go_enter Tryz.func109,Tryz.ntmps109
 go_wp2_with fail
 refine (S.new_S (.slice none 0 0) [] (fun _ => True) w (S.RdC.nil _ _) (fun x hx => by cases hx) (by simp)).mono ?_
 rintro e w1 ⟨sb,mb,rfl,hs,hb⟩
 have H1 : Hid (ChI w.heap.size sb mb (.slice none 0 0) [] [] w w1) := hid ⟨hb,hb.size,hs,S.OwnC.nil _ _,by simp [Value.ownBlock],by simp [Value.ownBlock]⟩
 clear hs hb
 go_wp2_with fail
 go_loopg [1,6] (T.length + 8) (fun g x v wr => ∃ (m : ByteArray) (l : List ByteArray),x = .string m /\ m.size <= maxLen /\ l.length + g = T.length + 8 /\ Hid (Kn T l) /\ Hid (chainF T g l m = R) /\ Hid (ChI w.heap.size sb mb v l l w wr))
 case atStart => exact ⟨n,[],rfl,hn,by simp,hid (Kn.nil T),HR,H1⟩
 case round =>
  clear H1 HR hn
  obtain ⟨m,l,rfl,hm,hlg,HKn,HF,HI⟩ := hrel
  obtain ⟨pv,kv,hv,-⟩ := HI.out.2.2.2.1.rd.form
  have HV := hid hv
  clear hv
  cases hk : knownT T m with
  | false =>
   have HE : Hid (R = (l,S.hasB l m)) := hid (by rw [<- HF.out]; exact chain_stop (.inl hk))
   go_wp2_with fail
   refine (known_t ok tb mt vs K m wr (HT.out.below HI.out.1) hm).mono ?_
   rintro e w2 ⟨rfl,hb2⟩
   rw [HTT.out,hk]
   have HI2 := hid (HI.out.bel hb2)
   clear hb2 HI hk
   go_wp2_with fail
   refine (S.has_S w.heap.size sb mb l m w2 HI2.out.2.2.1 hm).mono ?_
   rintro e w3 ⟨rfl,hb3⟩
   have HI3 := hid (HI2.out.bel hb3)
   clear hb3 HI2
   go_wp2_with fail
   go_ret2
   obtain rfl := HV.out
   rw [HE.out]
   exact ⟨_,_,rfl,HI3.out.2.2.2.1,HI3.out.1⟩
  | true =>
   cases hn : S.hasB l m with
   | true =>
    have HE : Hid (R = (l,true)) := hid (by rw [<- HF.out,<- hn]; exact chain_stop (.inr hn))
    have hlen := HKn.out.len
    go_wp2_with fail
    refine (known_t ok tb mt vs K m wr (HT.out.below HI.out.1) hm).mono ?_
    rintro e w2 ⟨rfl,hb2⟩
    rw [HTT.out,hk]
    have HI2 := hid (HI.out.bel hb2)
    clear hb2 HI hk
    go_wp2_with fail
    refine (S.add_S w.heap.size sb mb l m w2 HI2.out.2.2.1 hm (by omega)).mono ?_
    rintro e w3 ⟨rfl,hs3,hk3⟩
    rw [hn]
    have HI3 := hid (HI2.out.add hs3 hk3)
    rw [S.addS_in (S.hasB_iff.1 hn)] at HI3
    clear hs3 hk3 HI2
    go_wp2_with fail
    refine (S.has_S w.heap.size sb mb l m w3 HI3.out.2.2.1 hm).mono ?_
    rintro e w4 ⟨rfl,hb4⟩
    have HI4 := hid (HI3.out.bel hb4)
    clear hb4 HI3
    go_wp2_with fail
    go_ret2
    obtain rfl := HV.out
    rw [HE.out]
    exact ⟨_,_,rfl,HI4.out.2.2.2.1,HI4.out.1⟩
   | false =>
    have hml : m ∉ l := fun hh => by rw [S.hasB_in hh] at hn; cases hn
    have hkn := HKn.out.snoc hk hml
    have hlen := hkn.len
    rw [List.length_append] at hlen
    simp only [List.length_cons,List.length_nil,Nat.zero_add] at hlen
    obtain ⟨g',rfl⟩ : ∃ g',gk = g' + 1 := ⟨gk - 1,by omega⟩
    have HF2 : Hid (chainF T g' (l ++ [m]) (superT T m) = R) := hid (by rw [<- HF.out]; exact (chain_next hk hn).symm)
    have HKn2 := hid hkn
    have hms := HS.out.super m
    clear hkn HF HKn
    go_wp2_with fail
    refine (known_t ok tb mt vs K m wr (HT.out.below HI.out.1) hm).mono ?_
    rintro e w2 ⟨rfl,hb2⟩
    rw [HTT.out,hk]
    have HI2 := hid (HI.out.bel hb2)
    clear hb2 HI hk
    go_wp2_with fail
    refine (S.add_S w.heap.size sb mb l m w2 HI2.out.2.2.1 hm (by omega)).mono ?_
    rintro e w3 ⟨rfl,hs3,hk3⟩
    rw [hn]
    have HI3 := HI2.out.add hs3 hk3
    rw [S.addS_out hml] at HI3
    have HI4 := hid (HI3.bel (below_alR w3 (.cells #[.string m] 9)))
    have hb4 := HI4.out.2.1
    have HX := hid (S.rd_one (c := S.cS) (x := m) (heap_alloc_new w3 (.cells #[.string m] 9)) rfl)
    have HO := hid HI4.out.2.2.2.1
    clear hs3 hk3 HI2 HI3 hn hml
    dsimp only [S.cS] at *
    go_wp2_with (at_builtin; refine S.wp_appC S.infS (fun _ => rfl) rfl _ _ rfl w.heap.size _ l rfl HO.out (fun _ => True) _ [m] rfl HX.out (by simp; omega) hb4 ?_)
    intro v6 w6 ho6 hg6 hl6
    have HI6 := hid (HI4.out.app ho6 hg6 (by simpa using hl6))
    clear ho6 hg6 hl6 HI4 HX HO hb4
    go_wp2_with fail
    refine (super_t ok tb mt vs K m w6 (HT.out.below HI6.out.1) hm).mono ?_
    rintro e w7 ⟨rfl,hb7⟩
    rw [HTT.out]
    have HI7 := hid (HI6.out.bel hb7)
    clear hb7 HI6
    go_wp2_with fail
    go_roundg g'
    case measure => omega
    case rel => exact ⟨superT T m,l ++ [m],rfl,hms,by simp; omega,HKn2,HF2,HI7⟩
end Go.Proofs.YtfpeakkbbfnhcaaGreat.R
namespace Go.Proofs.YtfpeakkbbfnhcaaGreat.R
open Go.RowKit Go.Proofs.YtfpeakkbbfnhcaaGreat.D Go.Proofs.YtfpeakkbbfnhcaaGreat.O Go.Proofs.YtfpeakkbbfnhcaaGreat.A
theorem rdX_at {ok : Nat -> Prop} {w : World} {p : Option Addr} {n c : Nat} {ys : List ByteArray} (h : RdX 1 (sP strC) ok w (.slice p n c) ys) {i : Nat} {y : ByteArray} (hi : ys[i]? = some y) :
  ∃ b off,p = some ⟨b,off,none⟩ /\ n = ys.length /\ n <= c /\ ok b /\ b < w.heap.size /\ w.cell? ⟨b,off + i,none⟩ = some (.string y) := by
 obtain ⟨b,off,rfl,rfl,h1,h2,h3,h4⟩ := h.place (fun e => by rw [e] at hi; simp at hi)
 obtain ⟨l,e,hc⟩ := h4 i y hi
 have e : l = strC y := e
 subst e
 have := hc 0 _ rfl
 rw [Nat.mul_one,Nat.add_zero] at this
 exact ⟨b,off,rfl,rfl,h1,h2,h3,this⟩
theorem back_next {ys : List ByteArray} {k : Nat} {y : ByteArray} (h : ys[k]? = some y) (xs : List ByteArray) : xs ++ (ys.drop k).reverse = (xs ++ (ys.drop (k + 1)).reverse) ++ [y] := by
 obtain ⟨hk,rfl⟩ := List.getElem?_eq_some_iff.1 h
 rw [List.drop_eq_getElem_cons hk,List.reverse_cons,List.append_assoc]
def Next (w w' : World) (v v' : Value) : Prop := S.Kpt v.ownBlock.toList w w' /\ ∀ g,v'.ownBlock = some g -> v.ownBlock = some g ∨ w.heap.size <= g
theorem Next.app {w wr w' : World} {v0 v v' : Value} (h : Next w wr v0 v) (o : Obj) (hg : (wr.alloc o).grownBy w' v.ownBlock) (hl : v'.ownBlock = v.ownBlock ∨ v'.ownBlock = some (wr.heap.size + 1)) : Next w w' v0 v' := by
 have k : S.Kpt v.ownBlock.toList wr w' := (S.Kpt.alloc _ wr o).trans (.of_grown (S := v.ownBlock.toList) hg (fun g e => .inl (by rw [e]; simp))) (fun x hx => .inl hx)
 refine ⟨h.1.trans k (fun x hx => ?_),fun g e => ?_⟩
 ·rcases h.2 x (by simpa using hx) with e | e
  ·exact .inl (by simpa using e)
  ·exact .inr e
 ·rcases hl with e' | e'
  ·rw [e'] at e; exact h.2 g e
  ·rw [e'] at e
   cases e
   exact .inr (by have := h.1.size; omega)
theorem behind_t (B : Nat) (v : Value) (xs ys : List ByteArray) (p : Option Addr) (c : Nat) (ok : Nat -> Prop) (w : World) (hown : S.OwnC S.cS 9 w B v xs) (hr : RdX 1 (sP strC) ok w (.slice p ys.length c) ys) (hok : ∀ b,ok b -> v.ownBlock ≠ some b) (hB : B <= w.heap.size) (hl : xs.length + ys.length <= 900000) :
  Calls Tryz.prog 151 #[v,.slice p ys.length c] w fun e w' => ∃ v',e = .returned v' /\ S.OwnC S.cS 9 w' B v' (xs ++ ys.reverse) /\ Next w w' v v' := by
 obtain ⟨va,vn,vk,hv⟩ := hown.slice
 have HO := hid hown
 have HR := hid hr
 have hcap : ys.length <= c := by obtain ⟨_,_,e,h,_⟩ := hr; simp only [Value.slice.injEq] at e; rw [e.2.2]; exact h
 clear hown hr
 subst hv
 go_enter Tryz.func151,Tryz.ntmps151
 go_wp2_with fail
 go_loopg [0,5] ys.length (fun g v x wr => x = .int .i64 ((g : Int) - 1) /\ g <= ys.length /\ Hid (S.OwnC S.cS 9 wr B v (xs ++ (ys.drop g).reverse)) /\ Hid (Next w wr (.slice va vn vk) v))
 case atStart => exact ⟨rfl,Nat.le_refl _,by rw [List.drop_length,List.reverse_nil,List.append_nil]; exact HO,hid ⟨S.Kpt.refl _ _,fun g h => .inl h⟩⟩
 case round =>
  clear HO
  obtain ⟨rfl,hg,HO,HN⟩ := hrel
  cases gk with
  | zero =>
   go_wp2_with fail
   go_ret
   rw [List.drop_zero] at HO
   exact ⟨_,rfl,HO.out,HN.out⟩
  | succ g =>
   rw [show ((g + 1 : Nat) : Int) - 1 = (g : Int) by omega]
   obtain ⟨y,hy⟩ : ∃ y,ys[g]? = some y := ⟨_,List.getElem?_eq_getElem (by omega)⟩
   obtain ⟨b,off,rfl,-,-,hb,hbl,hc⟩ := rdX_at HR.out hy
   have hne : b ∉ (Value.slice va vn vk).ownBlock.toList := by have := hok b hb; simpa using this
   have hc2 : wr.cell? ⟨b,off + g,none⟩ = some (.string y) := by rw [World.cell?_of_block (w := w) (a := ⟨b,off + g,none⟩) (HN.out.1.2 b hbl hne)]; exact hc
   have hbl2 : b < wr.heap.size := Nat.lt_of_lt_of_le hbl HN.out.1.size
   have HY := hid hy
   have HNE := hid hne
   have hBr : B <= wr.heap.size := Nat.le_trans hB HN.out.1.size
   have g0 : (0 : Int) <= (g : Int) := by omega
   have g1 : (g : Int) < (ys.length : Int) := by omega
   clear hy hne hc
   obtain ⟨ua,un,uk,hu⟩ := HO.out.slice
   have HU := hid hu
   clear hu
   have HX := hid (S.rd_one (c := S.cS) (x := y) (heap_alloc_new wr (.cells #[.string y] 9)) rfl)
   have HOa := hid (HO.out.alloc (.cells #[.string y] 9))
   have hlen : (xs ++ (ys.drop (g + 1)).reverse).length + 1 <= 1000000 := by simp; omega
   go_wp2_with (at_builtin; refine S.wp_appC S.infS (fun _ => rfl) rfl _ _ rfl B _ _ rfl HOa.out (fun _ => True) _ [y] rfl HX.out hlen (by simp; omega) ?_)
   intro v6 w6 ho6 hg6 hl6
   have HO6 : Hid (S.OwnC S.cS 9 w6 B v6 (xs ++ (ys.drop g).reverse)) := hid (by rw [back_next HY.out,List.append_assoc]; exact ho6)
   have HN6 := hid (HN.out.app _ hg6 hl6)
   clear ho6 hg6 hl6 HO HX HOa HN hc2 hlen HU
   go_wp2_with fail
   go_roundg g
   case measure => omega
   case rel => exact ⟨by go_num,by omega,HO6,HN6⟩
def ClI (B sb mb : Nat) (v v7 : Value) (L l lf : List ByteArray) (w0 w : World) : Prop :=
 ChI B sb mb v L l w0 w /\ S.OwnC S.cS 9 w B v7 lf.reverse /\ v7.ownBlock ≠ some sb /\ v7.ownBlock ≠ some mb /\ ∀ g,v.ownBlock = some g -> v7.ownBlock ≠ some g
theorem ClI.bel {B sb mb : Nat} {v v7 : Value} {L l lf : List ByteArray} {w0 w w' : World} (h : ClI B sb mb v v7 L l lf w0 w) (hb : Below w.heap.size w w') : ClI B sb mb v v7 L l lf w0 w' := by
 obtain ⟨h1,h2,h3,h4,h5⟩ := h
 exact ⟨h1.bel hb,h2.kpt (S.Kpt.of_below (S := []) hb) (by simp),h3,h4,h5⟩
theorem ClI.add {B sb mb : Nat} {v v7 : Value} {L L' l lf : List ByteArray} {w0 w w' : World} (h : ClI B sb mb v v7 L l lf w0 w) (hs : S.StS w' B sb mb L') (hk : S.Kpt [mb] w w') : ClI B sb mb v v7 L' l lf w0 w' := by
 obtain ⟨h1,h2,h3,h4,h5⟩ := h
 exact ⟨h1.add hs hk,h2.kpt hk (fun g e => by rw [e] at h4; simpa using h4),h3,h4,h5⟩
theorem ClI.app {B sb mb : Nat} {v v' v7 : Value} {L l l' lf : List ByteArray} {w0 w w' : World} (h : ClI B sb mb v v7 L l lf w0 w) (ho : S.OwnC S.cS 9 w' B v' l') (hg : w.grownBy w' v.ownBlock) (hl : v'.ownBlock = v.ownBlock ∨ v'.ownBlock = some w.heap.size) : ClI B sb mb v' v7 L l' lf w0 w' := by
 obtain ⟨h1,h2,h3,h4,h5⟩ := h
 have k : S.Kpt v.ownBlock.toList w w' := .of_grown hg (fun g e => .inl (by rw [e]; simp))
 refine ⟨h1.app ho hg hl,h2.kpt k (fun g e hx => h5 g (by simpa using hx) e),h3,h4,fun g e e7 => ?_⟩
 rcases hl with e' | e'
 ·rw [e'] at e; exact h5 g e e7
 ·rw [e'] at e
  cases e
  exact Nat.lt_irrefl _ (h2.lt _ e7).2
theorem ClI.left {B sb mb : Nat} {v v7 v7' : Value} {L l lf lf' : List ByteArray} {w0 w w' : World} (h : ClI B sb mb v v7 L l lf w0 w) (ho : S.OwnC S.cS 9 w' B v7' lf'.reverse) (hn : Next w w' v7 v7') : ClI B sb mb v v7' L l lf' w0 w' := by
 obtain ⟨⟨a1,a2,a3,a4,a5,a6⟩,h2,h3,h4,h5⟩ := h
 obtain ⟨k,hn⟩ := hn
 obtain ⟨l1,l2,_⟩ := a3.lt
 have out : ∀ {x : Nat},x < w.heap.size -> v7.ownBlock ≠ some x -> v7'.ownBlock ≠ some x := fun {x} hx hne e => by
  rcases hn x e with e' | e'
  ·exact hne e'
  ·omega
 refine ⟨⟨a1.trans (k.below (fun x hx => ?_) a2),Nat.le_trans a2 k.size,a3.kpt k (by simpa using h3) (by simpa using h4),a4.kpt k (fun g e hx => h5 g e (by simpa using hx)),a5,a6⟩,ho,out l1 h3,out l2 h4,fun g e => out (a4.lt g e).2 (h5 g e)⟩
 have : v7.ownBlock = some x := by simpa using hx
 exact (h2.lt x this).1
theorem ClI.pop {B sb mb g N cap : Nat} {v : Value} {L l lf : List ByteArray} {n : ByteArray} {w0 w : World} (h : ClI B sb mb v (.slice (some ⟨g,0,none⟩) (N + 1) cap) L l (n :: lf) w0 w) (hN : N = lf.length) : ClI B sb mb v (.slice (some ⟨g,0,none⟩) N cap) L l lf w0 w := by
 obtain ⟨h1,h2,h3,h4,h5⟩ := h
 refine ⟨h1,?_,h3,h4,h5⟩
 have := h2.front (k := N) (by simp; omega) (by simp)
 rwa [List.reverse_cons,List.take_left' (by simp; omega)] at this
theorem ClI.form {B sb mb : Nat} {v v7 : Value} {L l lf : List ByteArray} {n : ByteArray} {w0 w : World} (h : ClI B sb mb v v7 L l (n :: lf) w0 w) : ∃ g N cap,v7 = .slice (some ⟨g,0,none⟩) (N + 1) cap /\ N = lf.length /\ N + 1 <= cap /\ g < w.heap.size /\ w.cell? ⟨g,N,none⟩ = some (.string n) := by
 rcases h.2.1.cells with ⟨_,e⟩ | ⟨g,cap,cur,e,_,hg,_,hc,_,hcc,_⟩
 ·simp at e
 ·have hl : (n :: lf).reverse.length = lf.length + 1 := by simp
  rw [hl] at e hc
  refine ⟨g,lf.length,cap,e,rfl,hc,hg,?_⟩
  have := hcc lf.length n (by simp)
  exact this
theorem ClI.none {B sb mb : Nat} {v v7 : Value} {L l : List ByteArray} {w0 w : World} (h : ClI B sb mb v v7 L l [] w0 w) : ∃ p cap,v7 = .slice p 0 cap := by
 obtain ⟨p,cap,e,_⟩ := h.2.1.rd.form
 exact ⟨p,cap,e⟩
theorem closed_t (ok : Nat -> Prop) (tb mt : Nat) (vs : Value) (K : List Cls) (w : World) (h : TrW w ok tb mt vs K) (ys : List ByteArray) (p : Option Addr) (c : Nat) (ok2 : Nat -> Prop) (hr : RdX 1 (sP strC) ok2 w (.slice p ys.length c) ys) (hl : ys.length <= 200000) (hs : ∀ x ∈ ys,x.size <= maxLen) :
  Calls Tryz.prog 113 #[.pointer (some ⟨tb,0,none⟩),.slice p ys.length c] w fun e w' => ∃ p' c',e = .returned (.slice p' (closedT (K.map skOf) ys).length c') /\ S.OwnC S.cS 9 w' w.heap.size (.slice p' (closedT (K.map skOf) ys).length c') (closedT (K.map skOf) ys) /\ Below w.heap.size w w' := by
 obtain ⟨R,hR⟩ : ∃ x,closedT (K.map skOf) ys = x := ⟨_,rfl⟩
 obtain ⟨T,hT⟩ : ∃ x,K.map skOf = x := ⟨_,rfl⟩
 have HT := hid h
 have HS : Hid (SzT T) := hid (by rw [<- hT]; exact h.2.2.2.2.2)
 have HF : Hid (closedF T (ys.length + costT [] T) [] ys = R) := hid (by rw [<- hT]; exact hR)
 have HTT := hid hT
 have HSY := hid hs
 have HRY := hid hr
 have hTl := HS.out.1
 have hcost := HS.out.cost
 rw [hR]
 clear h hR hT hs hr
 go_enter Tryz.func113,Tryz.ntmps113
 go_wp2_with fail
 refine (S.new_S (.slice none 0 0) [] (fun _ => True) w (S.RdC.nil _ _) (fun x hx => by cases hx) (by simp)).mono ?_
 rintro e w1 ⟨sb,mb,rfl,hs,hb⟩
 have H1 : Hid (ChI w.heap.size sb mb (.slice none 0 0) [] [] w w1) := hid ⟨hb,hb.size,hs,S.OwnC.nil _ _,by simp [Value.ownBlock],by simp [Value.ownBlock]⟩
 clear hs hb
 go_wp2_with fail
 refine (behind_t w.heap.size (.slice none 0 0) [] ys p c ok2 w1 (S.OwnC.nil _ _) (HRY.out.any (sP.grow _) H1.out.1) (by simp [Value.ownBlock]) H1.out.2.1 (by simp; omega)).mono ?_
 rintro e w2 ⟨v7,rfl,ho,hn⟩
 have H2 : Hid (ClI w.heap.size sb mb (.slice none 0 0) v7 [] [] ys w w2) := hid (ClI.left (v7 := .slice none 0 0) (lf := []) ⟨H1.out,S.OwnC.nil _ _,by simp [Value.ownBlock],by simp [Value.ownBlock],by simp [Value.ownBlock]⟩ (by simpa using ho) hn)
 clear ho hn H1 HRY
 go_wp2_with fail
 obtain ⟨f0,hf0⟩ : ∃ x,x = ys.length + costT [] T := ⟨_,rfl⟩
 rw [<- hf0] at HF
 have hf1 : f0 <= 300000 := by omega
 go_loopg [5,7] f0 (fun g v x wr => ∃ (out lf : List ByteArray),g <= f0 /\ Hid (lf.length + costT out T <= g) /\ Hid (Kn T out) /\ Hid (∀ y ∈ lf,y.size <= maxLen) /\ Hid (closedF T g out lf = R) /\ Hid (ClI w.heap.size sb mb v x out out lf w wr))
 case atStart => exact ⟨[],ys,Nat.le_refl _,hid (by omega),hid (Kn.nil T),HSY,HF,H2⟩
 case round =>
  clear H2 HF HSY hf0 hcost hl
  obtain ⟨out,lf,hg,HG,HKn,HSL,HF,HI⟩ := hrel
  cases lf with
  | nil =>
   obtain ⟨q,cap,hx⟩ := HI.out.none
   subst hx
   have HE : Hid (R = out) := hid (by rw [<- HF.out]; exact closed_nil)
   obtain ⟨pv,kv,hv,-⟩ := HI.out.1.2.2.2.1.rd.form
   have HV := hid hv
   clear hv
   go_wp2_with fail
   go_ret
   obtain rfl := HV.out
   rw [HE.out]
   exact ⟨_,_,rfl,HI.out.1.2.2.2.1,HI.out.1.1⟩
  | cons n lf =>
   obtain ⟨gg,N,cap,hx,hN,hNc,hgl,hcell⟩ := HI.out.form
   subst hx
   have hG := HG.out
   rw [List.length_cons] at hG
   obtain ⟨g',rfl⟩ : ∃ g',gk = g' + 1 := ⟨gk - 1,by omega⟩
   have hNb : N <= 300000 := by omega
   have hnm : n.size <= maxLen := HSL.out n (by simp)
   have HSL2 : Hid (∀ y ∈ lf,y.size <= maxLen) := hid (fun y hy => HSL.out y (List.mem_cons_of_mem _ hy))
   have HIp := hid (HI.out.pop hN)
   have HNN := hid hN
   have n0 : (0 : Int) <= (N : Int) := by omega
   have n1 : (0 : Int) < (N : Int) + 1 := by omega
   clear HI hN HG HSL
   have HGG := hid hG
   clear hG
   cases hk : knownT T n with
   | false =>
    have HF2 : Hid (closedF T g' out lf = R) := hid (by rw [<- HF.out]; exact (closed_skip (.inl hk)).symm)
    clear HF
    go_wp2_with fail
    refine (known_t ok tb mt vs K n wr (HT.out.below HIp.out.1.1) hnm).mono ?_
    rintro e w3 ⟨rfl,hb3⟩
    rw [HTT.out,hk]
    have HI3 := hid (HIp.out.bel hb3)
    clear hb3 HIp hk
    go_wp2_with fail
    go_roundg g'
    case measure => omega
    case rel => exact ⟨out,lf,by omega,hid (by have := HGG.out; omega),HKn,HSL2,HF2,HI3⟩
   | true =>
    have hlen := HKn.out.len
    cases hm : S.hasB out n with
    | true =>
     have HF2 : Hid (closedF T g' out lf = R) := hid (by rw [<- HF.out]; exact (closed_skip (.inr hm)).symm)
     clear HF
     go_wp2_with fail
     refine (known_t ok tb mt vs K n wr (HT.out.below HIp.out.1.1) hnm).mono ?_
     rintro e w3 ⟨rfl,hb3⟩
     rw [HTT.out,hk]
     have HI3 := hid (HIp.out.bel hb3)
     clear hb3 HIp hk
     go_wp2_with fail
     refine (S.add_S w.heap.size sb mb out n w3 HI3.out.1.2.2.1 hnm (by omega)).mono ?_
     rintro e w4 ⟨rfl,hs4,hk4⟩
     rw [hm]
     have HI4 := hid (HI3.out.add hs4 hk4)
     rw [S.addS_in (S.hasB_iff.1 hm)] at HI4
     clear hs4 hk4 HI3 hm
     go_wp2_with fail
     go_roundg g'
     case measure => omega
     case rel => exact ⟨out,lf,by omega,hid (by have := HGG.out; omega),HKn,HSL2,HF2,HI4⟩
    | false =>
     have HF2 : Hid (closedF T g' (out ++ [n]) (ifsT T n ++ lf) = R) := hid (by rw [<- HF.out]; exact (closed_next hk hm).symm)
     have hmo : n ∉ out := fun hh => by rw [S.hasB_in hh] at hm; cases hm
     have HC := hid (cost_ifs (T := T) hm)
     have HKn2 := hid (HKn.out.snoc hk hmo)
     have HSL3 : Hid (∀ y ∈ ifsT T n ++ lf,y.size <= maxLen) := hid (fun y hy => by
      rcases List.mem_append.1 hy with hy | hy
      ·exact (HS.out.ifs n).2 y hy
      ·exact HSL2.out y hy)
     have hif := (HS.out.ifs n).1
     clear HF HKn HSL2
     go_wp2_with fail
     refine (known_t ok tb mt vs K n wr (HT.out.below HIp.out.1.1) hnm).mono ?_
     rintro e w3 ⟨rfl,hb3⟩
     rw [HTT.out,hk]
     have HI3 := hid (HIp.out.bel hb3)
     clear hb3 HIp hk
     go_wp2_with fail
     refine (S.add_S w.heap.size sb mb out n w3 HI3.out.1.2.2.1 hnm (by omega)).mono ?_
     rintro e w4 ⟨rfl,hs4,hk4⟩
     rw [hm]
     have HI4 := HI3.out.add hs4 hk4
     rw [S.addS_out hmo] at HI4
     have HI5 := hid (HI4.bel (below_alR w4 (.cells #[.string n] 9)))
     have hb5 := HI5.out.1.2.1
     have HX := hid (S.rd_one (c := S.cS) (x := n) (heap_alloc_new w4 (.cells #[.string n] 9)) rfl)
     have HO := hid HI5.out.1.2.2.2.1
     clear hs4 hk4 HI3 HI4 hm hmo
     obtain ⟨va,vn,vk,hv⟩ := HO.out.slice
     have HV := hid hv
     clear hv
     dsimp only [S.cS] at *
     go_wp2_with (at_builtin; refine S.wp_appC S.infS (fun _ => rfl) rfl _ _ rfl w.heap.size _ out rfl HO.out (fun _ => True) _ [n] rfl HX.out (by simp; omega) hb5 ?_)
     intro v6 w6 ho6 hg6 hl6
     have HI6 := hid (HI5.out.app ho6 hg6 (by simpa using hl6))
     clear ho6 hg6 hl6 HI5 HX HO hb5 HV
     go_wp2_with fail
     refine (own_t (fun b => ok b /\ b < w.heap.size) tb mt vs K n w6 (HT.out.old HI6.out.1.1) hnm).mono ?_
     rw [HTT.out]
     rintro e w7 ⟨q,c7,rfl,hr7,hb7⟩
     have HI7 := hid (HI6.out.bel hb7)
     have HR7 := hid (hr7.any (sP.grow _) hb7)
     clear hr7 hb7 HI6
     go_wp2_with fail
     refine (behind_t w.heap.size _ lf.reverse (ifsT T n) q c7 _ w7 HI7.out.2.1 HR7.out (fun b hb e => by have := (HI7.out.2.1.lt b e).1; have := hb.2; omega) HI7.out.1.2.1 (by have := HNN.out; simp; omega)).mono ?_
     rintro e w8 ⟨v8,rfl,ho8,hn8⟩
     have HI8 : Hid (ClI w.heap.size sb mb v6 v8 (out ++ [n]) (out ++ [n]) (ifsT T n ++ lf) w w8) := hid (HI7.out.left (by rw [List.reverse_append]; exact ho8) hn8)
     clear ho8 hn8 HI7 HR7
     go_wp2_with fail
     go_roundg g'
     case measure => omega
     case rel => exact ⟨out ++ [n],ifsT T n ++ lf,by omega,hid (by have := HGG.out; have := HC.out; rw [List.length_append]; omega),HKn2,HSL3,HF2,HI8⟩
end Go.Proofs.YtfpeakkbbfnhcaaGreat.R
