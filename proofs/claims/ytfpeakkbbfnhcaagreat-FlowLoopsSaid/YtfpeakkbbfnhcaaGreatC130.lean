/- Texts that the proof is made of, joined. No condition. -/
import Derived.Test.YtfpeakkbbfnhcaaGreatRows
import Derived.WalkKit
import Derived.WalkSpells
import Derived.WalkLawsBesides
import Derived.Lib.Hide
import Derived.Lib.AppendStr
import Derived.Laws.AppendOwnNone
import Derived.Laws.BitsAllLaws
import Derived.Deep.QuietTactic
import Derived.BigQuiet
import Derived.OpenShut
import Derived.SliceStrings
import Derived.Shelf.Strings.Builder1
import Derived.Shelf.Small.Wraps
import Derived.Shelf.Strings.BuilderF
import Derived.Shelf.Strings.BuilderK
import Derived.Shelf.Strings.Search1
import Derived.Shelf.Strings.Search2
import Derived.Shelf.Strings.Cut
import Derived.Shelf.LaysM
import Derived.Shelf.Strings.Shaped
import Derived.Shelf.Strings.Prefix
import Derived.Test.YtfpeakkbbfnhcaaGreatProg
import Derived.Maps.OwnSet
import Derived.StringKeys
import Derived.Maps.AppendAt
import Derived.Deep.SlicePairs
import Derived.Laws.Bits128
import Derived.Outline
import Derived.Lib.Strings
import Derived.Below
import Derived.Lib.IndexMore
import Derived.RegionTactic
import Derived.ChangeAlike
import Derived.Deep.RegionHeld3
import Derived.OrdersHeld
import Derived.Shelf.Strings.BuilderX
import Derived.Test.YtfpeakkbbfnhcaaGreatC13H
set_option linter.unusedVariables false
set_option linter.unusedSimpArgs false
set_option maxRecDepth 100000
set_option maxHeartbeats 16000000
namespace Go.Proofs.YtfpeakkbbfnhcaaGreat
open Go.RowKit
def nb (v : Nat) : List UInt8 :=
 if v < 128 then [UInt8.ofNat v] else UInt8.ofNat (v % 128 + 128) :: nb (v / 128)
termination_by v
decreasing_by omega
def cnt (z : Int) : Nat := z.toNat
def u8 (x : UInt8) : Value := .int .u8 (x.toNat : Int)
def Rd (w : World) (v : Value) (l : List UInt8) : Prop :=
 ∃ (p : Option Addr) (cap : Nat),v = .slice p l.length cap /\ l.length <= cap /\ (p = none -> cap = 0) /\
  ∀ a,p = some a -> ∀ (i : Nat) x,l[i]? = some x -> w.cell? (a.add i) = some (u8 x)
def Own (w : World) (B : Nat) (v : Value) (l : List UInt8) : Prop := w.ownsRow B 5 1 v l.length (l.map u8)
theorem ret_int {k : IntKind} {a b : Int} (h : a = b) : Ending.returned (.int k a) = .returned (.int k b) := by rw [h]
theorem add_block (a : Addr) (i : Nat) : (a.add i).block = a.block := by unfold Addr.add; split <;> rfl
theorem Rd.below {B : Nat} {w w' : World} {v : Value} {l : List UInt8} (h : Rd w v l) (hb : Below B w w') (hv : l = [] ∨ ∀ g,v.ownBlock = some g -> g < B) : Rd w' v l := by
 obtain ⟨p,cap,rfl,h1,h2,h3⟩ := h
 rcases hv with rfl | hv
 ·exact ⟨p,cap,rfl,h1,h2,fun a ha i x hx => by simp at hx⟩
 refine ⟨p,cap,rfl,h1,h2,fun a ha i x hx => ?_⟩
 have hlt := hv a.block (by rw [ha]; rfl)
 rw [hb.cell (p := a.add i) (by rw [add_block]; exact hlt)]
 exact h3 a ha i x hx
theorem Own.mono {w : World} {B B' : Nat} {v : Value} {l : List UInt8} (h : Own w B v l) (hB : B' <= B) : Own w B' v l := by
 refine ⟨h.1,?_⟩
 rcases h.2 with h' | ⟨g,cap,cur,e,hb,r⟩
 ·exact .inl h'
 ·exact .inr ⟨g,cap,cur,e,Nat.le_trans hB hb,r⟩
theorem Own.below {w w' : World} {B C : Nat} {v : Value} {l : List UInt8} (h : Own w B v l) (hb : Below C w w') (hC : ∀ g,v.ownBlock = some g -> g < C) : Own w' B v l := by
 refine ⟨h.1,?_⟩
 rcases h.2 with h' | ⟨g,cap,cur,e,hB,hg,r⟩
 ·exact .inl h'
 ·refine .inr ⟨g,cap,cur,e,hB,?_,r⟩
  rw [hb.block g (hC g (by rw [e]; rfl))]
  exact hg
end Go.Proofs.YtfpeakkbbfnhcaaGreat
namespace Go.Proofs.YtfpeakkbbfnhcaaGreat
open Go.RowKit
def sb (s : ByteArray) : List UInt8 := s.data.toList
end Go.Proofs.YtfpeakkbbfnhcaaGreat
namespace Go.Proofs.YtfpeakkbbfnhcaaGreat
open Go.RowKit
theorem Own.alloc {w : World} {B : Nat} {v : Value} {l : List UInt8} (h : Own w B v l) (o : Obj) : Own (w.alloc o) B v l := World.ownsRow.alloc h o
theorem Own.lt {w : World} {B : Nat} {v : Value} {l : List UInt8} (h : Own w B v l) : ∀ k,v.ownBlock = some k -> B <= k /\ k < w.heap.size := World.ownsRow.lt h
end Go.Proofs.YtfpeakkbbfnhcaaGreat
namespace Go.Proofs.YtfpeakkbbfnhcaaGreat
open Go.RowKit
def RdI (w : World) (v : Value) (zs : List Int) : Prop :=
 ∃ (p : Option Addr) (cap : Nat),v = .slice p zs.length cap /\ (∀ a,p = some a -> zs ≠ [] -> a.spot = none) /\ (p = none -> zs = []) /\
  (∀ (i : Nat) x,zs[i]? = some x -> -9223372036854775808 <= x /\ x <= 9223372036854775807) /\
  ∀ a,p = some a -> ∀ (i : Nat) x,zs[i]? = some x -> w.cell? ⟨a.block,a.off + i,none⟩ = some (.int .i64 x)
theorem RdI.below {B : Nat} {w w' : World} {v : Value} {l : List Int} (h : RdI w v l) (hb : Below B w w') (hv : l = [] ∨ ∀ g,v.ownBlock = some g -> g < B) : RdI w' v l := by
 obtain ⟨p,cap,rfl,h1,h2,hr,h3⟩ := h
 rcases hv with rfl | hv
 ·exact ⟨p,cap,rfl,h1,h2,hr,fun a ha i x hx => by simp at hx⟩
 refine ⟨p,cap,rfl,h1,h2,hr,fun a ha i x hx => ?_⟩
 have hlt := hv a.block (by rw [ha]; rfl)
 rw [hb.cell (p := ⟨a.block,a.off + i,none⟩) hlt]
 exact h3 a ha i x hx
end Go.Proofs.YtfpeakkbbfnhcaaGreat
namespace Go.Proofs.YtfpeakkbbfnhcaaGreat
open Go.RowKit
def twoN (n : Int) : Nat := min (cnt n) 65535
def two (n : Int) : List UInt8 := [UInt8.ofNat (twoN n % 256),UInt8.ofNat (twoN n / 256)]
theorem Rd.alloc {w : World} {v : Value} {l : List UInt8} (h : Rd w v l) (o : Obj) (hv : l = [] ∨ ∀ g,v.ownBlock = some g -> g < w.heap.size) : Rd (w.alloc o) v l :=
 h.below ((Below.refl _ _).alloc (Nat.le_refl _) o) hv
end Go.Proofs.YtfpeakkbbfnhcaaGreat
namespace Go.Proofs.YtfpeakkbbfnhcaaGreat
open Go.RowKit
def Byte (w : World) (g : Nat) (bs : List UInt8) (i n : Nat) : Prop := ∃ c : UInt8,n = c.toNat /\ bs[i]? = some c /\ w.cell? ⟨g,i,none⟩ = some (.int .u8 (n : Int))
theorem Byte.cell {w : World} {g : Nat} {bs : List UInt8} {i n : Nat} (h : Byte w g bs i n) : w.cell? ⟨g,i,none⟩ = some (.int .u8 (n : Int)) := by
 obtain ⟨_,_,_,h⟩ := h
 exact h
end Go.Proofs.YtfpeakkbbfnhcaaGreat
namespace Go.Proofs.YtfpeakkbbfnhcaaGreat
open Go.RowKit
theorem grown_set (w : World) (rb j : Nat) (u : Value) : w.grownBy (w.setCell ⟨rb,j,none⟩ u) (some rb) :=
 ⟨rfl,rfl,rfl,by simp,fun k _ hk => heap_setCell_other w ⟨rb,j,none⟩ k u (fun e => hk (by simp [e]))⟩
end Go.Proofs.YtfpeakkbbfnhcaaGreat
namespace Go.Proofs.YtfpeakkbbfnhcaaGreat
open Go.RowKit
theorem rd_nil (w : World) : Rd w (.slice none 0 0) [] := ⟨none,0,rfl,Nat.le_refl _,fun _ => rfl,fun a ha => by cases ha⟩
def kb : List UInt8 := [172,2,3,2,97,98,1,2,128]
end Go.Proofs.YtfpeakkbbfnhcaaGreat
namespace Go.Proofs.YtfpeakkbbfnhcaaGreat
open Go.RowKit
theorem add_add (x : Addr) (i : Nat) (h : x.spot = none) : x.add i = ⟨x.block,x.off + i,none⟩ := by
 obtain ⟨b,o,s⟩ := x
 simp only at h
 subst h
 unfold Addr.add
 split <;> simp_all
end Go.Proofs.YtfpeakkbbfnhcaaGreat
namespace Go.Proofs.YtfpeakkbbfnhcaaGreat
open Go.RowKit
def RowAt (w : World) (b off len : Nat) (V : Nat -> Value) : Prop := b < w.heap.size /\ ∀ i,i < len -> w.cell? ⟨b,off + i,none⟩ = some (V i)
theorem RowAt.below {w w' : World} {b off len i : Nat} {V : Nat -> Value} (h : RowAt w b off len V) (hb : Below w.heap.size w w') (hi : i < len) : w'.cell? ⟨b,off + i,none⟩ = some (V i) :=
 (hb.cell (p := ⟨b,off + i,none⟩) h.1).trans (h.2 i hi)
end Go.Proofs.YtfpeakkbbfnhcaaGreat
namespace Go.Proofs.YtfpeakkbbfnhcaaGreat
open Go.RowKit Go.Maps
def Kpt (S : List Nat) (w w' : World) : Prop := Below 0 w w' /\ ∀ g,g < w.heap.size -> g ∉ S -> w'.heap[g]? = w.heap[g]?
theorem Kpt.size {S : List Nat} {w w' : World} (h : Kpt S w w') : w.heap.size <= w'.heap.size := h.1.size
theorem Kpt.refl (S : List Nat) (w : World) : Kpt S w w := ⟨Below.refl _ _,fun _ _ _ => rfl⟩
theorem Kpt.trans {S S' : List Nat} {a b c : World} (h : Kpt S a b) (k : Kpt S' b c) (hs : ∀ x ∈ S',x ∈ S ∨ a.heap.size <= x) : Kpt S a c :=
 ⟨h.1.trans k.1,fun g hg hn => (k.2 g (Nat.lt_of_lt_of_le hg h.size) (fun hx => by
  rcases hs g hx with h1 | h1
  ·exact hn h1
  ·omega)).trans (h.2 g hg hn)⟩
theorem Kpt.mono {S S' : List Nat} {a b : World} (h : Kpt S a b) (hs : ∀ x ∈ S,x < a.heap.size -> x ∈ S') : Kpt S' a b :=
 ⟨h.1,fun g hg hn => h.2 g hg (fun hx => hn (hs g hx hg))⟩
theorem Kpt.of_below {S : List Nat} {w w' : World} (h : Below w.heap.size w w') : Kpt S w w' := ⟨h.mono (Nat.zero_le _),fun g hg _ => h.block g hg⟩
theorem Kpt.of_grown {S : List Nat} {w w' : World} {r : Option Nat} (h : w.grownBy w' r) (hr : ∀ g,r = some g -> g ∈ S ∨ w.heap.size <= g) : Kpt S w w' :=
 ⟨⟨h.os,h.tape,h.output,h.size,fun k hk => absurd hk (Nat.not_lt_zero k)⟩,fun g hg hn => h.block g hg (fun e => by
  rcases hr g e.symm with h1 | h1
  ·exact hn h1
  ·omega)⟩
theorem Kpt.alloc (S : List Nat) (w : World) (o : Obj) : Kpt S w (w.alloc o) := .of_grown (World.grownBy_alloc w o none) (fun g h => by cases h)
theorem Kpt.drew {S : List Nat} {a w : World} (h : Kpt S a w) : Kpt S a w.drew := ⟨h.1.drew,h.2⟩
theorem Kpt.set (S : List Nat) (w : World) (b j : Nat) (u : Value) (h : b ∈ S) : Kpt S w (w.setCell ⟨b,j,none⟩ u) := .of_grown (grown_set w b j u) (fun g e => by cases e; exact .inl h)
theorem Kpt.below {S : List Nat} {w w' : World} {B : Nat} (h : Kpt S w w') (hS : ∀ x ∈ S,B <= x) (hB : B <= w.heap.size) : Below B w w' :=
 ⟨h.1.os,h.1.tape,h.1.output,h.1.size,fun k hk => h.2 k (Nat.lt_of_lt_of_le hk hB) (fun hx => by have := hS k hx; omega)⟩
theorem row_kpt {w w' : World} {B n sz : Nat} {e : TypeId} {v : Value} {xs : List Value} {S : List Nat} (h : w.ownsRow B e sz v n xs) (hk : Kpt S w w') (hS : ∀ g,v.ownBlock = some g -> g ∉ S) : w'.ownsRow B e sz v n xs := by
 refine ⟨h.1,?_⟩
 rcases h.2 with hn | ⟨g,cap,cur,rfl,hb,hgg,rest⟩
 ·exact .inl hn
 ·refine .inr ⟨g,cap,cur,rfl,hb,?_,rest⟩
  rw [hk.2 g (Array.getElem?_eq_some_iff.1 hgg).1 (hS g rfl)]
  exact hgg
theorem Rd.kpt {w w' : World} {v : Value} {l : List UInt8} {S : List Nat} (h : Rd w v l) (hk : Kpt S w w') (hv : l = [] ∨ ∀ g,v.ownBlock = some g -> g < w.heap.size /\ g ∉ S) : Rd w' v l := by
 obtain ⟨p,cap,rfl,h1,h2,h3⟩ := h
 refine ⟨p,cap,rfl,h1,h2,fun a ha i x hx => ?_⟩
 rcases hv with rfl | hv
 ·simp at hx
 ·have := hv a.block (by rw [ha]; rfl)
  have hb := hk.2 a.block this.1 this.2
  rw [World.cell?_of_block (w := w) (a := a.add i) (by rw [add_block]; exact hb)]
  exact h3 a ha i x hx
def OwnS (w : World) (B : Nat) (v : Value) (L : List ByteArray) : Prop := w.ownsRow B 9 1 v L.length (L.map Value.string)
theorem OwnS.alloc {w : World} {B : Nat} {v : Value} {L : List ByteArray} (h : OwnS w B v L) (o : Obj) : OwnS (w.alloc o) B v L := World.ownsRow.alloc h o
theorem OwnS.lt {w : World} {B : Nat} {v : Value} {L : List ByteArray} (h : OwnS w B v L) : ∀ k,v.ownBlock = some k -> B <= k /\ k < w.heap.size := World.ownsRow.lt h
theorem OwnS.form {w : World} {B : Nat} {v : Value} {L : List ByteArray} (h : OwnS w B v L) : ∃ a c,v = .slice a L.length c /\ L.length <= c /\ c <= maxLen /\ (0 < L.length -> ∃ g,a = some ⟨g,0,none⟩ /\ ∀ i (hi : i < L.length),w.cell? ⟨g,i,none⟩ = some (.string L[i])) := by
 have hh := h
 rcases h.2 with ⟨rfl,hn⟩ | ⟨g,cap,cur,rfl,_,_,h1,h2,_⟩
 ·exact ⟨none,0,by rw [hn],by omega,by unfold maxLen; omega,fun h0 => by omega⟩
 ·refine ⟨_,cap,rfl,h1,h2,fun _ => ⟨g,rfl,fun i hi => ?_⟩⟩
  have := World.ownsRow.cells hh (g := g) rfl i (.string L[i]) (by simp [hi])
  rw [add_add _ i rfl,Nat.zero_add] at this
  exact this
theorem OwnS.slice {w : World} {B : Nat} {v : Value} {L : List ByteArray} (h : OwnS w B v L) : ∃ a n c,v = .slice a n c := by
 obtain ⟨a,c,h,_⟩ := h.form
 exact ⟨a,_,c,h⟩
def pos (L : List ByteArray) (s : ByteArray) : Nat := L.findIdx (fun t => decide (t = s))
instance memDec (s : ByteArray) (L : List ByteArray) : Decidable (s ∈ L) := decidable_of_iff (L.any (fun t => decide (t = s)) = true) (by simp)
theorem pos_lt {L : List ByteArray} {s : ByteArray} (h : s ∈ L) : pos L s < L.length := List.findIdx_lt_length_of_exists ⟨s,h,by simp⟩
theorem pos_not {L : List ByteArray} {s : ByteArray} (h : s ∉ L) : pos L s = L.length := by
 unfold pos
 rw [List.findIdx_eq_length]
 intro x hx
 simp only [decide_eq_false_iff_not]
 rintro rfl
 exact h hx
theorem pos_app {L : List ByteArray} {s : ByteArray} (M : List ByteArray) (h : s ∈ L) : pos (L ++ M) s = pos L s := by
 have h1 := pos_lt h
 unfold pos at h1 ⊢
 rw [List.findIdx_append,if_pos h1]
theorem pos_new {L : List ByteArray} {s : ByteArray} (h : s ∉ L) : pos (L ++ [s]) s = L.length := by
 unfold pos
 rw [List.findIdx_append,if_neg (by have := pos_not h; unfold pos at this; omega)]
 simp [List.findIdx_cons]
theorem txt_inj {a b : ByteArray} (h : a.toList = b.toList) : a = b := by
 rw [Lib.toList_data,Lib.toList_data] at h
 obtain ⟨⟨a⟩⟩ := a
 obtain ⟨⟨b⟩⟩ := b
 rw [show a = b from h]
theorem txt_ne {a b : ByteArray} (h : a ≠ b) : (a.toList == b.toList) = false := by rw [beq_eq_false_iff_ne]; exact fun e => h (txt_inj e)
theorem txt_eq {a b : ByteArray} (h : a = b) : (a.toList == b.toList) = true := by rw [h]; simp
def kS (s : ByteArray) : Lit := .string s.data.toList
theorem kS_inj {a b : ByteArray} (h : kS a = kS b) : a = b := by
 unfold kS at h
 simp only [Lit.string.injEq] at h
 obtain ⟨a⟩ := a
 obtain ⟨b⟩ := b
 simp only at h
 rw [Array.toList_inj.1 h]
theorem kS_key (s : ByteArray) : WideAt.IsKeyLit (kS s) := by unfold kS WideAt.IsKeyLit; trivial
def NumD (D : DataW Unit) (L : List ByteArray) : Prop :=
 ∀ s : ByteArray,Maps.has D (kS s) = decide (s ∈ L) /\ D.atKey (kS s) (.lit (.int .i64 0)) = .lit (.int .i64 ((if s ∈ L then pos L s else 0 : Nat) : Int))
theorem NumD.nil : NumD (.map []) [] := fun _ => ⟨rfl,rfl⟩
theorem NumD.put {D : DataW Unit} {L : List ByteArray} (h : NumD D L) (hD : IsMap D) {s : ByteArray} (hs : s ∉ L) : NumD (D.put (kS s) (.lit (.int .i64 (L.length : Int)))) (L ++ [s]) := by
 intro t
 by_cases e : t = s
 ·subst e
  rw [has_put_same hD (kS_key t),atKey_put_same hD (kS_key t),pos_new hs]
  simp
 ·have hne : kS t ≠ kS s := fun h => e (kS_inj h)
  obtain ⟨h1,h2⟩ := h t
  rw [has_put_other hne,atKey_put_other hne,h1,h2]
  by_cases ht : t ∈ L
  ·rw [pos_app _ ht]
   simp [ht]
  ·simp [ht,e]
theorem lawS : Keyed Tryz.prog 9 := string_keyed Tryz.underlying9
theorem zeroI (w : World) : (zeroValue 3).run Tryz.prog w = .ok (.int .i64 0) w := by kernel_rfl
def Mp (w : World) (b : Nat) (n : Nat) (L : List ByteArray) : Prop := ∃ D : DataW Unit,w.ownsMap Tryz.prog 9 (plainElem Tryz.prog 3) b n D /\ NumD D L
theorem Mp.made (w : World) : Mp (w.alloc (.map #[] 0)) w.heap.size 0 [] := ⟨_,World.ownsMap_made _ _ _ _,NumD.nil⟩
theorem Mp.mono {w : World} {b n m : Nat} {L : List ByteArray} (h : Mp w b n L) (hm : n <= m) : Mp w b m L := by
 obtain ⟨D,h1,h2⟩ := h
 exact ⟨D,h1.mono hm,h2⟩
theorem Mp.map {w : World} {b n : Nat} {L : List ByteArray} (h : Mp w b n L) : ∃ es c,w.heap[b]? = some (.map es c) := by
 obtain ⟨D,⟨es,c,hb,_⟩,_⟩ := h
 exact ⟨es,c,hb⟩
theorem Mp.kpt {w w' : World} {b n : Nat} {L : List ByteArray} {S : List Nat} (h : Mp w b n L) (hk : Kpt S w w') (hS : b ∉ S) : Mp w' b n L := by
 obtain ⟨D,⟨es,c,hb,hr⟩,h2⟩ := h
 refine ⟨D,⟨es,c,?_,hr⟩,h2⟩
 rw [hk.2 b (Array.getElem?_eq_some_iff.1 hb).1 hS]
 exact hb
theorem wp_look {w : World} {ops : Array Oper} {rest : List Oper} {o : Oper} {a : Act} {Q : Exit -> Act -> World -> Prop} (hg : o.guard = none) (m x : Operand) (hop : o.op = Op.lookup 97 m x true)
  (b n : Nat) (L : List ByteArray) (hm : a.eval m = .map (some b)) (h : Mp w b n L) (s : ByteArray) (hs : s.size <= maxLen) (hx : a.eval x = .string s) (ok : Bool) (hok : decide (s ∈ L) = ok) (p : Nat) (hp : (if s ∈ L then pos L s else 0) = p)
  (hK : wpList Tryz.prog ops Q rest (a.put o.dst (.tuple #[.int .i64 p,.bool ok])) w) :
  wpList Tryz.prog ops Q (o :: rest) a w := by
 obtain ⟨D,h1,h2⟩ := h
 refine wpList_lookup_own_ok_int w hg m x _ hop 9 3 .i64 lawS Tryz.underlying97 Tryz.underlying3 (zeroI w) b n D hm h1 _ (kS s) hx (WideMaps.keyOf_string_mk Tryz.underlying9 hs) ?_
 intro c hat _
 obtain ⟨e1,e2⟩ := h2 s
 rw [e2] at hat
 simp only [DataW.lit.injEq,Lit.int.injEq,true_and] at hat
 rw [e1,hok,<- hat,hp]
 exact hK
theorem wp_store {w : World} {ops : Array Oper} {rest : List Oper} {o : Oper} {a : Act} {Q : Exit -> Act -> World -> Prop} (hg : o.guard = none) (m x v : Operand) (hop : o.op = Op.mapUpdate 97 m x v)
  (b : Nat) (L : List ByteArray) (hm : a.eval m = .map (some b)) (h : Mp w b L.length L) (s : ByteArray) (hs : s.size <= maxLen) (hx : a.eval x = .string s) (hv : a.eval v = .int .i64 (L.length : Int)) (hn : s ∉ L) (hl : L.length <= 100000000)
  (hK : ∀ w',Mp w' b (L ++ [s]).length (L ++ [s]) -> w.grownBy w' (some b) -> wpList Tryz.prog ops Q rest (a.put o.dst undef) w') :
  wpList Tryz.prog ops Q (o :: rest) a w := by
 obtain ⟨D,h1,h2⟩ := h
 have hwf : (Lit.int .i64 (L.length : Int)).wf = true := WalkArith.wf_i64 (by omega)
 refine wpList_mapUpdate_own w hg m x v _ hop 9 3 lawS Tryz.underlying97 (plainElem Tryz.prog 3) b L.length D hm h1 (by unfold maxLen; omega) _ _ (kS s) hx hv (WideMaps.keyOf_string_mk Tryz.underlying9 hs) (.lit (.int .i64 (L.length : Int))) [] (plainElem_int Tryz.underlying3 hwf) ?_
 intro w' hown hg
 refine hK w' ⟨_,?_,h2.put h1.isMap hn⟩ hg
 rw [List.length_append]
 exact hown
def Rp (w : World) (B qb : Nat) (sl : Value) (L : List ByteArray) : Prop :=
 B <= qb /\ w.heap[qb]? = some (.cells #[sl] 93 (0,0)) /\ OwnS w B sl L /\ sl.ownBlock ≠ some qb
def fq (qb : Nat) (sl : Value) : List Nat := qb :: sl.ownBlock.toList
theorem mem_fq {qb x : Nat} {sl : Value} : x ∈ fq qb sl ↔ x = qb ∨ sl.ownBlock = some x := by
 unfold fq
 simp
theorem Rp.lt {w : World} {B qb : Nat} {sl : Value} {L : List ByteArray} (h : Rp w B qb sl L) : ∀ x ∈ fq qb sl,B <= x /\ x < w.heap.size := by
 obtain ⟨h1,hp,ho,_⟩ := h
 intro x hx
 rcases mem_fq.1 hx with rfl | hx
 ·exact ⟨h1,(Array.getElem?_eq_some_iff.1 hp).1⟩
 ·exact ho.lt x hx
theorem Rp.cells {w : World} {B qb : Nat} {sl : Value} {L : List ByteArray} (h : Rp w B qb sl L) : qb < w.heap.size /\ w.cell? ⟨qb,0,none⟩ = some sl /\ w.frozen? ⟨qb,0,none⟩ = false := by
 obtain ⟨_,hp,_⟩ := h
 refine ⟨(Array.getElem?_eq_some_iff.1 hp).1,?_,?_⟩
 ·simp [World.cell?,hp]
 ·simp [World.frozen?,hp]
end Go.Proofs.YtfpeakkbbfnhcaaGreat
namespace Go.Proofs.YtfpeakkbbfnhcaaGreat
open Go.RowKit Go.Maps
def tb (s : ByteArray) : List UInt8 := nb s.size ++ sb s
end Go.Proofs.YtfpeakkbbfnhcaaGreat
namespace Go.Proofs.YtfpeakkbbfnhcaaGreat
open Go.RowKit
def ActAt (w : World) (b off i : Nat) (A M : Int) : Prop :=
 b < w.heap.size /\ w.cell? ⟨b,off + i * 2,none⟩ = some (.int .u8 A) /\ w.cell? ⟨b,off + i * 2 + 1,none⟩ = some (.int .i64 M)
theorem ActAt.below {w w' : World} {b off i : Nat} {A M : Int} (h : ActAt w b off i A M) (hb : Below w.heap.size w w') : w'.cell? ⟨b,off + i * 2,none⟩ = some (.int .u8 A) /\ w'.cell? ⟨b,off + i * 2 + 1,none⟩ = some (.int .i64 M) :=
 ⟨(hb.cell (p := ⟨b,off + i * 2,none⟩) h.1).trans h.2.1,(hb.cell (p := ⟨b,off + i * 2 + 1,none⟩) h.1).trans h.2.2⟩
end Go.Proofs.YtfpeakkbbfnhcaaGreat
namespace Go.Proofs.YtfpeakkbbfnhcaaGreat.D
open Go.RowKit
def letB (c : Int) : Bool := decide ((97 <= c /\ c <= 122) ∨ (65 <= c /\ c <= 90))
def digB (c : Int) : Bool := decide (48 <= c /\ c <= 57)
theorem ret_bool {a b : Bool} (h : a = b) : Ending.returned (.bool a) = .returned (.bool b) := by rw [h]
theorem letter_any (c : Int) (w : World) :
  Calls Tryz.prog 200 #[.int .u8 c] w fun e w' => e = .returned (.bool (letB c)) /\ w = w' := by
 go_enter Tryz.func200,Tryz.ntmps200
 go_wp2
 all_goals go_ret
 all_goals refine ⟨ret_bool ?_,rfl⟩
 all_goals (rw [Bool.eq_iff_iff]; simp [letB]; try omega)
theorem digit_any (c : Int) (w : World) :
  Calls Tryz.prog 201 #[.int .u8 c] w fun e w' => e = .returned (.bool (digB c)) /\ w = w' := by
 go_enter Tryz.func201,Tryz.ntmps201
 go_wp2
 all_goals go_ret
 all_goals refine ⟨ret_bool ?_,rfl⟩
 all_goals (rw [Bool.eq_iff_iff]; simp [digB]; try omega)
end Go.Proofs.YtfpeakkbbfnhcaaGreat.D
namespace Go.Proofs.YtfpeakkbbfnhcaaGreat.D
open Go.RowKit
def midB (c : Int) : Bool := letB c || digB c || decide (c = 95)
def nameL (l : List UInt8) : Bool :=
 decide (0 < l.length) && decide (l.length <= 64) && letB ((l.getD 0 0).toNat : Int) && l.all fun c => midB (c.toNat : Int)
def nameB (s : ByteArray) : Bool := nameL s.data.toList
theorem toList_ne {s : ByteArray} (h : 0 < s.size) : ¬ s.toList = [] := by
 intro e
 have := congrArg List.length e
 rw [Lib.toList_data,<- Lib.size_eq] at this
 simp only [List.length_nil] at this
 omega
theorem isEmpty_ne {s : ByteArray} (h : 0 < s.size) : s.toList.isEmpty = false := by
 cases he : s.toList.isEmpty with
 | false => rfl
 | true => exact absurd (List.isEmpty_iff.1 he) (toList_ne h)
theorem nameB_short {s : ByteArray} (h : s.size = 0) : nameB s = false := by
 have : s.data.toList.length = 0 := by simpa using h
 unfold nameB nameL; simp [this]
theorem nameB_long {s : ByteArray} (h : 64 < s.size) : nameB s = false := by
 have : s.data.toList.length = s.size := (Lib.size_eq s).symm
 unfold nameB nameL; rw [this]; simp [show ¬ s.size <= 64 by omega]
theorem getD0 {s : ByteArray} (h : 0 < s.size) : s.data.toList.getD 0 0 = s[0] := by
 rw [List.getD_eq_getElem?_getD,List.getElem?_eq_getElem (by simpa using h)]; rfl
theorem nameB_first {s : ByteArray} (h0 : 0 < s.size) (h : letB (s[0].toNat : Int) = false) : nameB s = false := by
 unfold nameB nameL; rw [getD0 h0,h]; simp
theorem nameB_mid {s : ByteArray} (k : Nat) (hk : k < s.size) (h : midB (s[k].toNat : Int) = false) : nameB s = false := by
 have : s.data.toList.all (fun c => midB (c.toNat : Int)) = false := by
  rw [List.all_eq_false]
  exact ⟨s[k],by show s.data[k] ∈ _; simp,by rw [h]; simp⟩
 unfold nameB nameL; rw [this]; simp
theorem nameB_true {s : ByteArray} (h0 : 0 < s.size) (h1 : s.size <= 64) (h2 : letB (s[0].toNat : Int) = true) (h : ∀ (j : Nat) (hj : j < s.size),midB (s[j].toNat : Int) = true) : nameB s = true := by
 have e : s.data.toList.all (fun c => midB (c.toNat : Int)) = true := by
  rw [List.all_eq_true]
  intro x hx
  obtain ⟨j,hj,rfl⟩ := List.mem_iff_getElem.1 hx
  exact h j (by simpa using hj)
 have hl : s.data.toList.length = s.size := (Lib.size_eq s).symm
 unfold nameB nameL; rw [e,getD0 h0,h2,hl]; simp [h0,h1]
theorem name_any (s : ByteArray) (w : World) (hs : s.size <= maxLen) :
  Calls Tryz.prog 185 #[.string s] w fun e w' => e = .returned (.bool (nameB s)) /\ w = w' := by
 unfold maxLen at hs
 by_cases h0 : s.size = 0
 ·have HF := hid (nameB_short h0)
  obtain rfl : s = ByteArray.empty := by
   obtain ⟨⟨l⟩⟩ := s
   have : l.length = 0 := h0
   rw [List.eq_nil_of_length_eq_zero this]; rfl
  clear h0
  go_enter Tryz.func185,Tryz.ntmps185
  go_wp2
  go_ret
  exact ⟨ret_bool HF.out.symm,rfl⟩
 have h0' : 0 < s.size := by omega
 have hE := isEmpty_ne h0'
 have hN := toList_ne h0'
 clear h0
 by_cases h1 : 64 < s.size
 ·go_enter Tryz.func185,Tryz.ntmps185
  go_wp2
  go_ret
  exact ⟨ret_bool (nameB_long h1).symm,rfl⟩
 have h1' : s.size <= 64 := by omega
 clear h1
 cases h2 : letB (s[0].toNat : Int) with
 | false =>
  have HF := hid (nameB_first h0' h2)
  go_enter Tryz.func185,Tryz.ntmps185
  go_wp2_with (go_at_call 200; refine (letter_any _ _).mono ?_; rintro e w' ⟨rfl,rfl⟩)
  go_ret
  exact ⟨ret_bool HF.out.symm,rfl⟩
 | true =>
  have H2 := hid h2
  go_enter Tryz.func185,Tryz.ntmps185
  go_wp2_with (go_at_call 200; refine (letter_any _ _).mono ?_; rintro e w' ⟨rfl,rfl⟩)
  clear h2
  go_loop [19] (fun i => ∃ k : Nat,k <= s.size /\ i = .int .i64 k /\ ∀ (j : Nat) (hj : j < s.size),j < k -> midB (s[j].toNat : Int) = true) (fun i => s.size - (intOf i).toNat)
  case atStart => exact ⟨0,Nat.zero_le _,rfl,fun j _ h => absurd h (Nat.not_lt_zero _)⟩
  case round =>
   obtain ⟨k,hk,rfl,hr⟩ := hrel
   have HR := hid hr
   clear hr
   by_cases hlt : k < s.size
   ·cases hm : midB (s[k].toNat : Int) with
    | false =>
     have HF := hid (nameB_mid k hlt hm)
     unfold midB at hm
     simp only [Bool.or_eq_false_iff,decide_eq_false_iff_not] at hm
     obtain ⟨⟨hm1,hm2⟩,hm3⟩ := hm
     have hm4 : (((s[k].toNat : Int)) != 95) = true := by rw [bne_iff_ne]; exact hm3
     have hm5 : (((s[k].toNat : Int)) == 95) = false := by rw [beq_eq_false_iff_ne]; exact hm3
     go_wp2_with ((first | (go_at_call 200; refine (letter_any _ _).mono ?_) | (go_at_call 201; refine (digit_any _ _).mono ?_)); rintro e w' ⟨rfl,rfl⟩)
     go_ret
     exact ⟨ret_bool HF.out.symm,rfl⟩
    | true =>
     have HM := hid hm
     clear hm
     have hs1 : ∀ (j : Nat) (hj : j < s.size),j < k + 1 -> midB (s[j].toNat : Int) = true := by
      intro j hj h
      by_cases e : j = k
      ·subst e; exact HM.out
      ·exact HR.out j hj (by omega)
     have HS := hid hs1
     clear hs1
     have hm := HM.out
     unfold midB at hm
     simp only [Bool.or_eq_true,decide_eq_true_eq] at hm
     cases c1 : letB (s[k].toNat : Int)
     ·cases c2 : digB (s[k].toNat : Int)
      ·have c3 : (s[k].toNat : Int) = 95 := by rw [c1,c2] at hm; simpa using hm
       have c4 : (((s[k].toNat : Int)) != 95) = false := by rw [c3]; rfl
       have c5 : (((s[k].toNat : Int)) == 95) = true := by rw [c3]; rfl
       clear hm c3
       go_wp2_with ((first | (go_at_call 200; refine (letter_any _ _).mono ?_) | (go_at_call 201; refine (digit_any _ _).mono ?_)); rintro e w' ⟨rfl,rfl⟩)
       go_round
       case rel => exact ⟨k + 1,by omega,by go_num,HS.out⟩
       case measure => simp [intOf]; omega
      ·clear hm
       go_wp2_with ((first | (go_at_call 200; refine (letter_any _ _).mono ?_) | (go_at_call 201; refine (digit_any _ _).mono ?_)); rintro e w' ⟨rfl,rfl⟩)
       go_round
       case rel => exact ⟨k + 1,by omega,by go_num,HS.out⟩
       case measure => simp [intOf]; omega
     ·clear hm
      go_wp2_with ((first | (go_at_call 200; refine (letter_any _ _).mono ?_) | (go_at_call 201; refine (digit_any _ _).mono ?_)); rintro e w' ⟨rfl,rfl⟩)
      go_round
      case rel => exact ⟨k + 1,by omega,by go_num,HS.out⟩
      case measure => simp [intOf]; omega
   ·go_wp2
    go_ret
    exact ⟨ret_bool (nameB_true h0' h1' H2.out (fun j hj => HR.out j hj (by omega))).symm,rfl⟩
end Go.Proofs.YtfpeakkbbfnhcaaGreat.D
namespace Go.Proofs.YtfpeakkbbfnhcaaGreat.D
open Go.RowKit
def rightB (k : Int) (c : ByteArray) : Bool := if k = 4 then nameB c else decide (1 <= k /\ k <= 5) && decide (c.size = 0)
def typeT (k : Int) (c : ByteArray) : ByteArray :=
 if k = 1 then ⟨#[73]⟩ else if k = 2 then ⟨#[83]⟩ else if k = 3 then ⟨#[65]⟩ else if k = 5 then ⟨#[86]⟩ else if k = 4 then (⟨#[76]⟩ ++ c) ++ ⟨#[59]⟩ else ⟨#[]⟩
end Go.Proofs.YtfpeakkbbfnhcaaGreat.D
namespace Go.Proofs.YtfpeakkbbfnhcaaGreat.D
open Go.RowKit
abbrev Ty := Int × ByteArray
def tyv (t : Ty) : Value := .agg #[.int .i64 t.1,.string t.2]
def bx (l : List UInt8) : ByteArray := ⟨l.toArray⟩
def t0 : Ty := (0,⟨#[]⟩)
theorem data_app (a b : ByteArray) : (a ++ b).data.toList = a.data.toList ++ b.data.toList := by simp
def cutAt : List UInt8 -> Option (List UInt8 × List UInt8)
 | [] => none
 | c :: r => if c = 59 then some ([],r) else (cutAt r).map fun p => (c :: p.1,p.2)
theorem cutAt_some : ∀ {r a b : List UInt8},cutAt r = some (a,b) -> r = a ++ 59 :: b /\ (59 : UInt8) ∉ a
 | [],_,_,h => by simp [cutAt] at h
 | c :: r,a,b,h => by
  unfold cutAt at h
  by_cases hc : c = 59
  ·rw [if_pos hc] at h
   simp only [Option.some.injEq,Prod.mk.injEq] at h
   obtain ⟨rfl,rfl⟩ := h
   subst hc
   exact ⟨rfl,by simp⟩
  ·rw [if_neg hc] at h
   obtain ⟨⟨a',b'⟩,h1,h2⟩ := Option.map_eq_some_iff.1 h
   simp only [Prod.mk.injEq] at h2
   obtain ⟨rfl,rfl⟩ := h2
   obtain ⟨rfl,h3⟩ := cutAt_some h1
   exact ⟨rfl,by simp only [List.mem_cons,not_or]; exact ⟨fun e => hc e.symm,h3⟩⟩
theorem index_cut : ∀ (r : List UInt8),(cutAt r = none /\ Lib.index r [59] = -1) ∨ ∃ a b,cutAt r = some (a,b) /\ Lib.index r [59] = (a.length : Int)
 | [] => .inl ⟨rfl,rfl⟩
 | c :: r => by
  by_cases hc : c = 59
  ·subst hc
   exact .inr ⟨[],r,by simp [cutAt],by simp [Lib.index]⟩
  ·have hp : List.isPrefixOf [59] (c :: r) = false := by
    simp only [List.isPrefixOf,Bool.and_true,beq_eq_false_iff_ne,ne_eq]
    exact fun e => hc e.symm
   rcases index_cut r with ⟨h1,h2⟩ | ⟨a,b,h1,h2⟩
   ·refine .inl ⟨by unfold cutAt; rw [if_neg hc,h1]; rfl,?_⟩
    unfold Lib.index; rw [hp,h2]; rfl
   ·refine .inr ⟨c :: a,b,by unfold cutAt; rw [if_neg hc,h1]; rfl,?_⟩
    have hn : ((a.length : Int) == -1) = false := by rw [beq_eq_false_iff_ne]; omega
    unfold Lib.index; rw [hp,h2,hn]; simp
theorem cut_eq (r : List UInt8) : Lib.cut r [59] = match cutAt r with | some (a,b) => (a,b,true) | none => (r,[],false) := by
 unfold Lib.cut
 rcases index_cut r with ⟨h1,h2⟩ | ⟨a,b,h1,h2⟩
 ·rw [h1,h2]; rfl
 ·rw [h1,h2,if_pos (by omega)]
  obtain ⟨rfl,_⟩ := cutAt_some h1
  simp
def refR (r : List UInt8) : Ty × List UInt8 × Bool :=
 match cutAt r with
 | some (a,b) => if nameL a then ((4,bx a),b,true) else (t0,[],false)
 | none => (t0,[],false)
def firstR : List UInt8 -> Ty × List UInt8 × Bool
 | [] => (t0,[],false)
 | c :: r =>
  if c = 73 then ((1,bx []),r,true) else if c = 83 then ((2,bx []),r,true) else if c = 65 then ((3,bx []),r,true)
  else if c = 86 then ((5,bx []),r,true) else if c = 76 then refR r else (t0,[],false)
def typeL (t : Ty) : List UInt8 := (typeT t.1 t.2).data.toList
def oneR (s : List UInt8) : Ty × Bool := if (firstR s).2.2 && (firstR s).2.1.isEmpty then ((firstR s).1,true) else (t0,false)
def listR : Nat -> List Ty -> List UInt8 -> List Ty × List UInt8 × Bool
 | 0,_,_ => ([],[],false)
 | n + 1,ps,s =>
  if Lib.hasPrefix s [41] then (ps,s.drop 1,true)
  else if (firstR s).2.2 = false ∨ (firstR s).1.1 = 5 ∨ ps.length = 8 then ([],[],false)
  else listR n (ps ++ [(firstR s).1]) (firstR s).2.1
def parseR (s : List UInt8) : List Ty × Ty × Bool :=
 if Lib.hasPrefix s [40] then
  (if (listR s.length [] (s.drop 1)).2.2 && (oneR (listR s.length [] (s.drop 1)).2.1).2 then ((listR s.length [] (s.drop 1)).1,(oneR (listR s.length [] (s.drop 1)).2.1).1,true) else ([],t0,false))
 else ([],t0,false)
def ofL (ps : List Ty) (r : Ty) : List UInt8 := 40 :: (ps.flatMap typeL ++ 41 :: typeL r)
end Go.Proofs.YtfpeakkbbfnhcaaGreat.D
namespace Go.Proofs.YtfpeakkbbfnhcaaGreat.D
open Go.RowKit
def Glob (w : World) : Prop := ∃ m : Int,w.cell? ⟨0,0,none⟩ = some (.int .i64 m)
theorem Glob.below {w w' : World} {B : Nat} (h : Glob w) (hb : Below B w w') (hB : w.heap.size <= B) : Glob w' := by
 obtain ⟨m,hm⟩ := h
 have := World.block_lt_of_cell? _ _ hm
 exact ⟨m,by rw [hb.cell (p := ⟨0,0,none⟩) (by simp only at this ⊢; omega)]; exact hm⟩
theorem Glob.alloc {w : World} (h : Glob w) (o : Obj) : Glob (w.alloc o) := h.below ((Below.refl w.heap.size w).alloc (Nat.le_refl _) o) (Nat.le_refl _)
theorem below_drewN {B : Nat} {a w : World} (h : Below B a w) (n : Nat) : Below B a (w.drewN n) := ⟨h.os,h.tape,h.output,h.size,h.block⟩
end Go.Proofs.YtfpeakkbbfnhcaaGreat.D
namespace Go.Proofs.YtfpeakkbbfnhcaaGreat.D
open Go.RowKit
def RdT (w : World) (v : Value) (ts : List Ty) : Prop :=
 ∃ (p : Option Addr) (cap : Nat),v = .slice p ts.length cap /\ (∀ a,p = some a -> ts ≠ [] -> a.spot = none) /\ (p = none -> ts = []) /\
  ∀ a,p = some a -> ∀ (i : Nat) t,ts[i]? = some t -> w.cell? ⟨a.block,a.off + i * 2,none⟩ = some (.int .i64 t.1) /\ w.cell? ⟨a.block,a.off + i * 2 + 1,none⟩ = some (.string t.2)
theorem RdT.below {B : Nat} {w w' : World} {v : Value} {ts : List Ty} (h : RdT w v ts) (hb : Below B w w') (hB : w.heap.size <= B) : RdT w' v ts := by
 obtain ⟨p,cap,rfl,h1,h2,h3⟩ := h
 refine ⟨p,cap,rfl,h1,h2,fun a ha i t ht => ?_⟩
 obtain ⟨c0,c1⟩ := h3 a ha i t ht
 have hlt := World.block_lt_of_cell? _ _ c0
 simp only at hlt
 exact ⟨by rw [hb.cell (p := ⟨a.block,a.off + i * 2,none⟩) (by simp only; omega)]; exact c0,by rw [hb.cell (p := ⟨a.block,a.off + i * 2 + 1,none⟩) (by simp only; omega)]; exact c1⟩
def tyCells (ts : List Ty) : List Value := ts.flatMap fun t => [.int .i64 t.1,.string t.2]
def OwnT (w : World) (B : Nat) (v : Value) (ts : List Ty) : Prop := w.ownsRow B 45 2 v ts.length (tyCells ts)
theorem add0 (g i : Nat) : (⟨g,0,none⟩ : Addr).add i = ⟨g,0 + i,none⟩ := by unfold Addr.add; split <;> simp_all
theorem OwnT.lt {w : World} {B : Nat} {v : Value} {ts : List Ty} (h : OwnT w B v ts) {g : Nat} (hg : v.ownBlock = some g) : B <= g /\ g < w.heap.size := World.ownsRow.lt h g hg
theorem OwnT.below {w w' : World} {B C : Nat} {v : Value} {ts : List Ty} (h : OwnT w B v ts) (hb : Below C w w') (hC : w.heap.size <= C) : OwnT w' B v ts := by
 have hh := h
 refine ⟨h.1,?_⟩
 rcases h.2 with h' | ⟨g,cap,cur,e,hB,hg,r⟩
 ·exact .inl h'
 ·refine .inr ⟨g,cap,cur,e,hB,?_,r⟩
  rw [hb.block g (Nat.lt_of_lt_of_le (hh.lt (by rw [e]; rfl)).2 hC)]
  exact hg
theorem toList_inj {a b : ByteArray} (h : a.toList = b.toList) : a = b := by
 rw [Lib.toList_data,Lib.toList_data] at h
 obtain ⟨⟨a⟩⟩ := a
 obtain ⟨⟨b⟩⟩ := b
 rw [show a = b from h]
def sameB (ts us : List Ty) : Bool := decide (ts = us)
theorem sameB_get {ts us : List Ty} (hl : ts.length = us.length) (h : ∀ i : Nat,i < ts.length -> ts[i]? = us[i]?) : sameB ts us = true := by
 unfold sameB
 rw [decide_eq_true_eq]
 refine List.ext_getElem? fun i => ?_
 by_cases hi : i < ts.length
 ·exact h i hi
 ·rw [List.getElem?_eq_none (by omega),List.getElem?_eq_none (by omega)]
theorem sameB_ne {ts us : List Ty} {k : Nat} (h : ¬ ts[k]? = us[k]?) : sameB ts us = false := by
 unfold sameB
 rw [decide_eq_false_iff_not]
 intro e
 exact h (by rw [e])
theorem sameB_len {ts us : List Ty} (h : ¬ ts.length = us.length) : sameB ts us = false := by
 unfold sameB
 rw [decide_eq_false_iff_not]
 intro e
 exact h (by rw [e])
theorem same_any (va vb : Value) (ts us : List Ty) (w : World) (ha : RdT w va ts) (hb : RdT w vb us) (hlen : ts.length <= 1000000) (hlen2 : us.length <= 1000000) :
  Calls Tryz.prog 159 #[va,vb] w fun e w' => e = .returned (.bool (sameB ts us)) /\ Below w.heap.size w w' := by
 obtain ⟨p,cap,rfl,h1,h2,h3⟩ := id ha
 obtain ⟨q,dap,rfl,k1,k2,k3⟩ := id hb
 clear ha hb
 by_cases hl : ts.length = us.length
 ·have HL := hid hl
  have hnn : (((ts.length : Nat) : Int) != (us.length : Nat)) = false := by rw [bne_eq_false_iff_eq]; omega
  by_cases h0 : ts.length = 0
  ·have e1 : ts = [] := List.eq_nil_of_length_eq_zero h0
   have e2 : us = [] := List.eq_nil_of_length_eq_zero (by omega)
   subst e1 e2
   clear hl hnn h0
   go_enter Tryz.func159,Tryz.ntmps159
   go_wp2_with fail
   go_loop [14] (fun i => i = .int .i64 0) (fun _ => 0)
   case atStart => exact rfl
   case round =>
    obtain rfl := hrel
    go_wp2_with fail
    go_ret
    exact ⟨rfl,Below.refl _ _⟩
  have hne1 : ts ≠ [] := fun e => h0 (by rw [e]; rfl)
  have hne2 : us ≠ [] := fun e => h0 (by rw [hl,e]; rfl)
  obtain ⟨⟨b,off,spot⟩,rfl⟩ : ∃ a,p = some a := by
   cases p with
   | none => exact absurd (h2 rfl) hne1
   | some a => exact ⟨a,rfl⟩
  obtain ⟨⟨c,ofc,spoc⟩,rfl⟩ : ∃ a,q = some a := by
   cases q with
   | none => exact absurd (k2 rfl) hne2
   | some a => exact ⟨a,rfl⟩
  obtain rfl : spot = none := h1 _ rfl hne1
  obtain rfl : spoc = none := k1 _ rfl hne2
  have H3 := hid (h3 _ rfl)
  have K3 := hid (k3 _ rfl)
  have hl1 : ts.length <= us.length := by omega
  have hl2 : us.length <= ts.length := by omega
  clear h3 k3 h1 h2 k1 k2 hne1 hne2 hl h0
  go_enter Tryz.func159,Tryz.ntmps159
  go_wp2_with fail
  go_loopw [14] (fun i wr => ∃ k : Nat,k <= ts.length /\ i = .int .i64 k /\ (∀ j : Nat,j < k -> ts[j]? = us[j]?) /\ Below w.heap.size w wr) (fun i _ => ts.length - (intOf i).toNat)
  case atStart => exact ⟨0,Nat.zero_le _,rfl,fun j h => absurd h (Nat.not_lt_zero _),Below.refl _ _⟩
  case round =>
   obtain ⟨k,hk,rfl,hr,hbl⟩ := hrel
   have HR := hid hr
   clear hr
   have hs := hbl.size
   by_cases hlt : k < ts.length
   ·obtain ⟨⟨x0,x1⟩,hx⟩ : ∃ t,ts[k]? = some t := ⟨_,List.getElem?_eq_getElem hlt⟩
    obtain ⟨⟨y0,y1⟩,hy⟩ : ∃ t,us[k]? = some t := ⟨_,List.getElem?_eq_getElem (by omega)⟩
    obtain ⟨cx0,cx1⟩ := H3.out k _ hx
    obtain ⟨cy0,cy1⟩ := K3.out k _ hy
    simp only at cx0 cx1 cy0 cy1
    have gx := World.block_lt_of_cell? _ _ cx0
    have gy := World.block_lt_of_cell? _ _ cy0
    simp only at gx gy
    rw [<- hbl.cell (p := ⟨_,_,_⟩) gx] at cx0 cx1
    rw [<- hbl.cell (p := ⟨_,_,_⟩) gy] at cy0 cy1
    have gy1 : c < wr.heap.size := by omega
    have gy2 : ¬ c = wr.heap.size := by omega
    have HX := hid hx
    have HY := hid hy
    clear hx hy
    by_cases e : x0 = y0
    ·subst e
     by_cases e : x1 = y1
     ·subst e
      have HS : Hid (∀ j : Nat,j < k + 1 -> ts[j]? = us[j]?) := hid (by
       intro j hj
       by_cases e : j = k
       ·subst e; rw [HX.out,HY.out]
       ·exact HR.out j (by omega))
      go_wp2_with fail
      go_quiet (fail)
      go_wp2_with fail
      go_roundw
      case rel => exact ⟨k + 1,by omega,by go_num,HS.out,by repeat (first | assumption | refine below_drewN ?_ _ | refine Below.drew ?_ | refine Below.alloc ?_ (by omega) _)⟩
      case measure => simp [intOf]; omega
     ·have HF : Hid (sameB ts us = false) := hid (sameB_ne (k := k) (by rw [HX.out,HY.out]; intro h; simp only [Option.some.injEq,Prod.mk.injEq] at h; exact e h.2))
      have e1 : ¬ x1.toList = y1.toList := fun h => e (toList_inj h)
      have e2 : (x1.toList == y1.toList) = false := by rw [beq_eq_false_iff_ne]; exact e1
      clear e
      go_wp2_with fail
      go_quiet (fail)
      go_wp2_with fail
      go_ret
      refine ⟨ret_bool HF.out.symm,?_⟩
      repeat (first | assumption | refine below_drewN ?_ _ | refine Below.drew ?_ | refine Below.alloc ?_ (by omega) _)
    ·have HF : Hid (sameB ts us = false) := hid (sameB_ne (k := k) (by rw [HX.out,HY.out]; intro h; simp only [Option.some.injEq,Prod.mk.injEq] at h; exact e h.1))
     have e2 : (x0 == y0) = false := by rw [beq_eq_false_iff_ne]; exact e
     go_wp2_with fail
     go_quiet (fail)
     go_wp2_with fail
     go_ret
     refine ⟨ret_bool HF.out.symm,?_⟩
     repeat (first | assumption | refine below_drewN ?_ _ | refine Below.drew ?_ | refine Below.alloc ?_ (by omega) _)
   ·go_wp2_with fail
    go_ret
    exact ⟨ret_bool (sameB_get HL.out (fun i hi => HR.out i (by omega))).symm,hbl⟩
 ·have hnn : (((ts.length : Nat) : Int) != (us.length : Nat)) = true := by rw [bne_iff_ne]; omega
  have HF := hid (sameB_len hl)
  clear hl h1 h2 h3 k1 k2 k3
  go_enter Tryz.func159,Tryz.ntmps159
  go_wp2_with fail
  go_ret
  exact ⟨ret_bool HF.out.symm,Below.refl _ _⟩
end Go.Proofs.YtfpeakkbbfnhcaaGreat.D
namespace Go.Proofs.YtfpeakkbbfnhcaaGreat.D
open Go.RowKit
theorem OwnT.setCell {w : World} {B : Nat} {v : Value} {ts : List Ty} (h : OwnT w B v ts) {a : Addr} (ha : a.block < B) (u : Value) : OwnT (w.setCell a u) B v ts := ownsRow_setCell_below h ha u
theorem OwnT.alloc {w : World} {B : Nat} {v : Value} {ts : List Ty} (h : OwnT w B v ts) (o : Obj) : OwnT (w.alloc o) B v ts := h.below ((Below.refl w.heap.size w).alloc (Nat.le_refl _) o) (Nat.le_refl _)
theorem OwnT.mono {w : World} {B C : Nat} {v : Value} {ts : List Ty} (h : OwnT w B v ts) (hC : C <= B) : OwnT w C v ts := by
 refine ⟨h.1,?_⟩
 rcases h.2 with h' | ⟨g,cap,cur,e,hB,r⟩
 ·exact .inl h'
 ·exact .inr ⟨g,cap,cur,e,Nat.le_trans hC hB,r⟩
end Go.Proofs.YtfpeakkbbfnhcaaGreat.D
namespace Go.Proofs.YtfpeakkbbfnhcaaGreat.O
open Go.Proofs.YtfpeakkbbfnhcaaGreat.D
open Go.RowKit
def usesI (o : Int) : Int :=
 if o = 1 then 1 else if o = 2 then 2 else if o = 4 then 3 else if o = 5 then 3 else if o = 19 then 3 else if o = 20 then 3 else
 if o = 26 then 4 else if o = 27 then 4 else if o = 28 then 4 else if o = 29 then 4 else
 if o = 34 then 5 else if o = 35 then 5 else if o = 36 then 5 else if o = 37 then 5 else
 if o = 25 then 6 else if o = 30 then 6 else if o = 31 then 6 else 0
def endsB (o : Int) : Bool := decide (o = 19 ∨ o = 38 ∨ o = 39 ∨ o = 40 ∨ o = 43)
def jumpsB (o : Int) : Bool := decide (o = 19 ∨ o = 20)
def knownB (o : Int) : Bool := decide (0 < o /\ o < 44)
theorem ret_i64 {a b : Int} (h : a = b) : Ending.returned (.int .i64 a) = .returned (.int .i64 b) := by rw [h]
theorem knownop_any (o : Int) (w : World) :
  Calls Tryz.prog 161 #[.int .i64 o] w fun e w' => e = .returned (.bool (knownB o)) /\ w = w' := by
 go_enter Tryz.func161,Tryz.ntmps161
 go_wp2
 all_goals go_ret
 all_goals refine ⟨ret_bool ?_,rfl⟩
 all_goals (rw [Bool.eq_iff_iff]; simp [knownB]; try omega)
theorem uses_any (o : Int) (w : World) :
  Calls Tryz.prog 164 #[.int .i64 o] w fun e w' => e = .returned (.int .i64 (usesI o)) /\ w = w' := by
 go_enter Tryz.func164,Tryz.ntmps164
 go_wp2
 all_goals go_ret
 all_goals refine ⟨ret_i64 ?_,rfl⟩
 all_goals simp_all [usesI]
theorem ends_any (o : Int) (w : World) :
  Calls Tryz.prog 56 #[.int .i64 o] w fun e w' => e = .returned (.bool (endsB o)) /\ w = w' := by
 go_enter Tryz.func56,Tryz.ntmps56
 go_wp2
 all_goals go_ret
 all_goals refine ⟨ret_bool ?_,rfl⟩
 all_goals (rw [Bool.eq_iff_iff]; simp_all [endsB])
theorem jumps_any (o : Int) (w : World) :
  Calls Tryz.prog 57 #[.int .i64 o] w fun e w' => e = .returned (.bool (jumpsB o)) /\ w = w' := by
 go_enter Tryz.func57,Tryz.ntmps57
 go_wp2
 all_goals go_ret
 all_goals refine ⟨ret_bool ?_,rfl⟩
 all_goals (rw [Bool.eq_iff_iff]; simp_all [jumpsB])
end Go.Proofs.YtfpeakkbbfnhcaaGreat.O
namespace Go.Proofs.YtfpeakkbbfnhcaaGreat.O
open Go.Proofs.YtfpeakkbbfnhcaaGreat.D
open Go.RowKit
theorem str_ext {a b : ByteArray} (h : a.toList = b.toList) : a = b := by
 rw [Lib.toList_data,Lib.toList_data] at h
 obtain ⟨⟨x⟩⟩ := a
 obtain ⟨⟨y⟩⟩ := b
 simp only at h
 rw [h]
abbrev Ins : Type := Int × Int × Int × ByteArray × ByteArray × ByteArray × ByteArray
def insV (x : Ins) : Value := .agg #[.int .i64 x.1,.int .i32 x.2.1,.int .i64 x.2.2.1,.string x.2.2.2.1,.string x.2.2.2.2.1,.string x.2.2.2.2.2.1,.string x.2.2.2.2.2.2]
def usedI (x : Ins) : Ins :=
 (x.1,(if usesI x.1 = 1 then x.2.1 else 0),(if usesI x.1 = 3 then x.2.2.1 else 0),(if usesI x.1 = 2 then x.2.2.2.1 else ⟨#[]⟩),
  (if usesI x.1 = 4 ∨ usesI x.1 = 5 ∨ usesI x.1 = 6 then x.2.2.2.2.1 else ⟨#[]⟩),(if usesI x.1 = 4 ∨ usesI x.1 = 5 then x.2.2.2.2.2.1 else ⟨#[]⟩),(if usesI x.1 = 5 then x.2.2.2.2.2.2 else ⟨#[]⟩))
theorem insV_mk (o n k : Int) (s c m d : ByteArray) : insV (o,n,k,s,c,m,d) = .agg #[.int .i64 o,.int .i32 n,.int .i64 k,.string s,.string c,.string m,.string d] := rfl
theorem used_any (o n k : Int) (s c m d : ByteArray) (w : World) :
  Calls Tryz.prog 162 #[insV (o,n,k,s,c,m,d)] w fun e w' => e = .returned (insV (usedI (o,n,k,s,c,m,d))) /\ Below w.heap.size w w' := by
 rw [insV_mk]
 go_enter Tryz.func162,Tryz.ntmps162
 go_wp2_with (go_at_call 164; refine (uses_any _ _).mono ?_; rintro e w' ⟨rfl,rfl⟩)
 all_goals refine bodyPost_ret (v := insV (usedI (o,n,k,s,c,m,d))) ?_ rfl ⟨rfl,?_⟩
 all_goals simp_all [results,Tryz.results162,go_sem,insV,usedI]
 all_goals exact ((Below.refl _ _).alloc (Nat.le_refl _) _).alloc (by simp) _
end Go.Proofs.YtfpeakkbbfnhcaaGreat.O
namespace Go.Proofs.YtfpeakkbbfnhcaaGreat.O
open Go.Proofs.YtfpeakkbbfnhcaaGreat.D
open Go.RowKit
def parsesB (s : ByteArray) : Bool := (parseR s.data.toList).2.2
def withinB (x : Ins) : Bool :=
 if usesI x.1 = 2 then decide (x.2.2.2.1.size <= 1000) else if usesI x.1 = 3 then decide (0 <= x.2.2.1 /\ x.2.2.1 <= 2000) else
 if usesI x.1 = 4 then nameB x.2.2.2.2.1 && nameB x.2.2.2.2.2.1 else if usesI x.1 = 5 then nameB x.2.2.2.2.1 && nameB x.2.2.2.2.2.1 && parsesB x.2.2.2.2.2.2 else
 if usesI x.1 = 6 then nameB x.2.2.2.2.1 else true
def rightI (x : Ins) : Bool := knownB x.1 && decide (x = usedI x) && withinB x
theorem ibox_next {w w' : World} {X : Nat} {o n k : Int} {s c m d : ByteArray} (h : w.cell? ⟨X,0,none⟩ = some (.int .i64 o) /\ w.cell? ⟨X,1,none⟩ = some (.int .i32 n) /\ w.cell? ⟨X,2,none⟩ = some (.int .i64 k) /\ w.cell? ⟨X,3,none⟩ = some (.string s) /\ w.cell? ⟨X,4,none⟩ = some (.string c) /\ w.cell? ⟨X,5,none⟩ = some (.string m) /\ w.cell? ⟨X,6,none⟩ = some (.string d)) (hX : X < w.heap.size) (hb : Below w.heap.size w w') :
  w'.cell? ⟨X,0,none⟩ = some (.int .i64 o) /\ w'.cell? ⟨X,1,none⟩ = some (.int .i32 n) /\ w'.cell? ⟨X,2,none⟩ = some (.int .i64 k) /\ w'.cell? ⟨X,3,none⟩ = some (.string s) /\ w'.cell? ⟨X,4,none⟩ = some (.string c) /\ w'.cell? ⟨X,5,none⟩ = some (.string m) /\ w'.cell? ⟨X,6,none⟩ = some (.string d) := by
 obtain ⟨h0,h1,h2,h3,h4,h5,h6⟩ := h
 exact ⟨(hb.cell (p := ⟨X,0,none⟩) hX).trans h0,(hb.cell (p := ⟨X,1,none⟩) hX).trans h1,(hb.cell (p := ⟨X,2,none⟩) hX).trans h2,(hb.cell (p := ⟨X,3,none⟩) hX).trans h3,(hb.cell (p := ⟨X,4,none⟩) hX).trans h4,(hb.cell (p := ⟨X,5,none⟩) hX).trans h5,(hb.cell (p := ⟨X,6,none⟩) hX).trans h6⟩
theorem ibox_new (w : World) (o n k : Int) (s c m d : ByteArray) (w' : World) (hw : w' = (w.alloc (.cells #[.int .i64 o,.int .i32 n,.int .i64 k,.string s,.string c,.string m,.string d] 59)).drew) :
  w'.cell? ⟨w.heap.size,0,none⟩ = some (.int .i64 o) /\ w'.cell? ⟨w.heap.size,1,none⟩ = some (.int .i32 n) /\ w'.cell? ⟨w.heap.size,2,none⟩ = some (.int .i64 k) /\ w'.cell? ⟨w.heap.size,3,none⟩ = some (.string s) /\ w'.cell? ⟨w.heap.size,4,none⟩ = some (.string c) /\ w'.cell? ⟨w.heap.size,5,none⟩ = some (.string m) /\ w'.cell? ⟨w.heap.size,6,none⟩ = some (.string d) := by
 subst hw
 refine ⟨?_,?_,?_,?_,?_,?_,?_⟩ <;> simp
end Go.Proofs.YtfpeakkbbfnhcaaGreat.O
namespace Go.Proofs.YtfpeakkbbfnhcaaGreat.D
open Go.RowKit
def Bld (w : World) (B b : Nat) (l : List UInt8) : Prop := Lib.IsBuilder 268 5 B b (Lib.byteCells l) w
theorem Bld.lt {w : World} {B b : Nat} {l : List UInt8} (h : Bld w B b l) : b < w.heap.size := by
 rcases h with h | h <;> exact h.lt
theorem ownsRow_below {w w' : World} {B C : Nat} {E : TypeId} {v : Value} {n : Nat} {l : List Value} (h : w.ownsRow B E 1 v n l) (hb : Below C w w') (hC : ∀ g,v.ownBlock = some g -> g < C) : w'.ownsRow B E 1 v n l := by
 refine ⟨h.1,?_⟩
 rcases h.2 with h' | ⟨g,cap,cur,e,hB,hg,r⟩
 ·exact .inl h'
 ·refine .inr ⟨g,cap,cur,e,hB,?_,r⟩
  rw [hb.block g (hC g (by rw [e]; rfl))]
  exact hg
theorem bldAt_below {w w' : World} {B C b : Nat} {T E : TypeId} {p : Value} {l : List Value} (h : Lib.BuilderAt T E B b p l w) (hb : Below C w w') (hC : w.heap.size <= C) : Lib.BuilderAt T E B b p l w' := by
 have hlt := h.lt
 obtain ⟨h1,v,h2,h3,h4⟩ := h
 refine ⟨h1,v,?_,?_,h4⟩
 ·rw [hb.block b (by omega)]; exact h2
 ·exact ownsRow_below h3 hb (fun g hg => Nat.lt_of_lt_of_le (h3.lt g hg).2 hC)
theorem Bld.below {w w' : World} {B C b : Nat} {l : List UInt8} (h : Bld w B b l) (hb : Below C w w') (hC : w.heap.size <= C) : Bld w' B b l := by
 rcases h with h | h
 ·exact .inl (bldAt_below h hb hC)
 ·exact .inr (bldAt_below h hb hC)
end Go.Proofs.YtfpeakkbbfnhcaaGreat.D
namespace Go.Proofs.YtfpeakkbbfnhcaaGreat.D
open Go.RowKit
theorem typeL_len (t : Ty) : (typeL t).length <= t.2.size + 2 := by
 unfold typeL typeT
 split
 ·show 1 <= _; omega
 split
 ·show 1 <= _; omega
 split
 ·show 1 <= _; omega
 split
 ·show 1 <= _; omega
 split
 ·rw [data_app,data_app,List.length_append,List.length_append,Lib.size_eq]
  show 1 + _ + 1 <= _
  omega
 ·show 0 <= _; omega
theorem flat_len (ts : List Ty) (m : Nat) (h : ∀ u ∈ ts,u.2.size <= m) : (ts.flatMap typeL).length <= ts.length * (m + 2) := by
 induction ts with
 | nil => simp
 | cons t ts ih =>
  have h1 := ih (fun u hu => h u (List.mem_cons_of_mem _ hu))
  have h2 := typeL_len t
  have h3 := h t (List.mem_cons_self ..)
  rw [List.flatMap_cons,List.length_append,List.length_cons,Nat.add_mul]
  omega
end Go.Proofs.YtfpeakkbbfnhcaaGreat.D
namespace Go.Proofs.YtfpeakkbbfnhcaaGreat.A
open Go.RowKit Go.Proofs.YtfpeakkbbfnhcaaGreat.D Go.Proofs.YtfpeakkbbfnhcaaGreat.O
abbrev Fld : Type := ByteArray × Ty × Bool
abbrev Hnd : Type := Int × Int × Int × ByteArray
structure Mth where
 name : ByteArray
 params : List Ty
 ret : Ty
 st : Bool
 ab : Bool
 locals : Int
 code : List Ins
 hs : List Hnd
structure Cls where
 name : ByteArray
 super : ByteArray
 ifaces : List ByteArray
 kind : Int
 fields : List Fld
 methods : List Mth
abbrev Arch : Type := List Cls
instance tyDec : DecidableEq Ty := inferInstanceAs (DecidableEq (Int × ByteArray))
instance b4Dec : DecidableEq (ByteArray × ByteArray × ByteArray × ByteArray) := inferInstance
instance insDec : DecidableEq Ins := @instDecidableEqProd _ _ inferInstance (@instDecidableEqProd _ _ inferInstance (@instDecidableEqProd _ _ inferInstance b4Dec))
instance hndDec : DecidableEq Hnd := inferInstanceAs (DecidableEq (Int × Int × Int × ByteArray))
instance fldDec : DecidableEq Fld := inferInstanceAs (DecidableEq (ByteArray × Ty × Bool))
theorem Mth.eq_iff (a b : Mth) : (a.name = b.name /\ a.params = b.params /\ a.ret = b.ret /\ a.st = b.st /\ a.ab = b.ab /\ a.locals = b.locals /\ a.code = b.code /\ a.hs = b.hs) ↔ a = b := by
 cases a; cases b; simp
instance : DecidableEq Mth := fun a b => decidable_of_iff (a.name = b.name /\ a.params = b.params /\ a.ret = b.ret /\ a.st = b.st /\ a.ab = b.ab /\ a.locals = b.locals /\ a.code = b.code /\ a.hs = b.hs) (Mth.eq_iff a b)
theorem Cls.eq_iff (a b : Cls) : (a.name = b.name /\ a.super = b.super /\ a.ifaces = b.ifaces /\ a.kind = b.kind /\ a.fields = b.fields /\ a.methods = b.methods) ↔ a = b := by
 cases a; cases b; simp
instance : DecidableEq Cls := fun a b => decidable_of_iff (a.name = b.name /\ a.super = b.super /\ a.ifaces = b.ifaces /\ a.kind = b.kind /\ a.fields = b.fields /\ a.methods = b.methods) (Cls.eq_iff a b)
abbrev WS : Type := List ByteArray × List UInt8
abbrev Ps (α : Type) : Type := List UInt8 -> Except Nat (α × List UInt8)
def pb {α β : Type} (p : Ps α) (q : α -> Ps β) : Ps β := fun l => match p l with | .ok (x,r) => q x r | .error e => .error e
def pr {α : Type} (x : α) : Ps α := fun l => .ok (x,l)
def es : ByteArray := ⟨#[]⟩
abbrev St : Type := Except Nat (List UInt8)
def Wr {α : Type} (f : WS -> WS) (p : List ByteArray -> Ps α) (x : α) : Prop :=
 ∀ st : WS,∃ M bs,f st = (st.1 ++ M,st.2 ++ bs) /\ ∀ N r,(st.1 ++ M ++ N).length <= 65536 -> p (st.1 ++ M ++ N) (bs ++ r) = .ok (x,r)
theorem Wr.pr {α : Type} (x : α) : Wr (fun st => st) (fun _ => pr x) x := fun st => ⟨[],[],by simp,fun N r _ => rfl⟩
theorem Wr.pb {α β : Type} {f g F : WS -> WS} {p : List ByteArray -> Ps α} {q : List ByteArray -> α -> Ps β} {x : α} {y : β} (h1 : Wr f p x) (h2 : Wr g (fun L => q L x) y) (hF : ∀ st,F st = g (f st)) : Wr F (fun L => A.pb (p L) (q L)) y := by
 intro st
 obtain ⟨M1,b1,e1,r1⟩ := h1 st
 obtain ⟨M2,b2,e2,r2⟩ := h2 (f st)
 refine ⟨M1 ++ M2,b1 ++ b2,by rw [hF,e2,e1]; simp,fun N r hN => ?_⟩
 rw [e1] at r2
 simp only at r2
 have hL : st.1 ++ (M1 ++ M2) ++ N = st.1 ++ M1 ++ (M2 ++ N) := by simp
 have hL2 : st.1 ++ (M1 ++ M2) ++ N = st.1 ++ M1 ++ M2 ++ N := by simp
 show A.pb (p (st.1 ++ (M1 ++ M2) ++ N)) (q (st.1 ++ (M1 ++ M2) ++ N)) (b1 ++ b2 ++ r) = _
 unfold A.pb
 rw [List.append_assoc b1 b2 r,hL,r1 (M2 ++ N) (b2 ++ r) (by rw [<- hL]; exact hN),<- hL,hL2]
 exact r2 N r (by rw [<- hL2]; exact hN)
theorem Wr.map {α β : Type} {f : WS -> WS} {p : List ByteArray -> Ps α} {x : α} (g : α -> β) (h : Wr f p x) : Wr f (fun L => A.pb (p L) fun v => A.pr (g v)) (g x) :=
 Wr.pb (q := fun _ v => A.pr (g v)) h (Wr.pr (g x)) (fun _ => rfl)
end Go.Proofs.YtfpeakkbbfnhcaaGreat.A
namespace Go.Proofs.YtfpeakkbbfnhcaaGreat.D
open Go.RowKit
def kb : ByteArray := ⟨#[40,73,76,65,59,41,86]⟩
def kts : List Ty := [(1,⟨#[]⟩),(4,⟨#[65]⟩)]
theorem k1 : parseR kb.data.toList = (kts,(5,⟨#[]⟩),true) := by kernel_rfl
theorem k2 : parseR (⟨#[40,86,41,86]⟩ : ByteArray).data.toList = ([],t0,false) := by kernel_rfl
theorem k3 : oneR (⟨#[83]⟩ : ByteArray).data.toList = ((2,⟨#[]⟩),true) := by kernel_rfl
theorem k4 : nameB ⟨#[97,95,49]⟩ = true := by kernel_rfl
theorem k5 : nameB ⟨#[49,97]⟩ = false := by kernel_rfl
theorem k6 : rightB 2 ⟨#[]⟩ = true := by kernel_rfl
theorem k7 : typeT 4 ⟨#[65]⟩ = ⟨#[76,65,59]⟩ := by kernel_rfl
theorem k8 : bx (ofL kts (5,⟨#[]⟩)) = kb := by kernel_rfl
end Go.Proofs.YtfpeakkbbfnhcaaGreat.D
namespace Go.Proofs.YtfpeakkbbfnhcaaGreat.A
open Go.RowKit Go.Proofs.YtfpeakkbbfnhcaaGreat.D Go.Proofs.YtfpeakkbbfnhcaaGreat.O
def okI (x : Ins) : Prop := -2147483648 <= x.2.1 /\ x.2.1 <= 2147483647
def wfM (m : Mth) : Prop := ∀ x ∈ m.code,okI x
end Go.Proofs.YtfpeakkbbfnhcaaGreat.A
namespace Go.Proofs.YtfpeakkbbfnhcaaGreat.A
open Go.RowKit Go.Proofs.YtfpeakkbbfnhcaaGreat.D Go.Proofs.YtfpeakkbbfnhcaaGreat.O
def Ext (f : WS -> WS) (n : Nat) : Prop := ∀ st : WS,∃ M bs,f st = (st.1 ++ M,st.2 ++ bs) /\ M.length <= n /\ bs.length <= 30 * n /\ ∀ s ∈ M,s.size <= 1000
theorem Ext.id : Ext (fun st => st) 0 := fun st => ⟨[],[],by simp,by simp,by simp,by simp⟩
theorem Ext.comp {f g F : WS -> WS} {a b n : Nat} (h1 : Ext f a) (h2 : Ext g b) (hF : ∀ st,F st = g (f st)) (hn : a + b <= n) : Ext F n := by
 intro st
 obtain ⟨M1,b1,e1,l1,m1,s1⟩ := h1 st
 obtain ⟨M2,b2,e2,l2,m2,s2⟩ := h2 (f st)
 refine ⟨M1 ++ M2,b1 ++ b2,by rw [hF,e2,e1]; simp,by rw [List.length_append]; omega,by rw [List.length_append]; omega,fun s hs => ?_⟩
 rcases List.mem_append.1 hs with h | h
 ·exact s1 s h
 ·exact s2 s h
theorem Ext.mono {f : WS -> WS} {a n : Nat} (h : Ext f a) (hn : a <= n) : Ext f n := Ext.comp h Ext.id (fun _ => rfl) hn
end Go.Proofs.YtfpeakkbbfnhcaaGreat.A
