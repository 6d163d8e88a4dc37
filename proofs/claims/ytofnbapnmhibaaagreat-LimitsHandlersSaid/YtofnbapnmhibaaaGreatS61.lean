/- Texts that the proof is made of, joined. No condition. -/
import Derived.Test.YtofnbapnmhibaaaGreatS60
import Derived.Maps.OwnSet
import Derived.StringKeys
import Derived.Maps.AppendAt
import Derived.Deep.SlicePairs
import Derived.Laws.Bits128
import Derived.Test.YtofnbapnmhibaaaGreatRows
import Derived.WalkKit
import Derived.WalkSpells
import Derived.WalkLawsBesides
import Derived.Lib.Hide
import Derived.Outline
import Derived.Lib.Strings
import Derived.Below
import Derived.Test.YtofnbapnmhibaaaGreatS6H
set_option linter.unusedVariables false
set_option linter.unusedSimpArgs false
set_option maxRecDepth 100000
set_option maxHeartbeats 16000000
namespace Go.Proofs.YtofnbapnmhibaaaGreat
open Go.RowKit Go.Maps
def Kpt (S : List Nat) (w w' : World) : Prop := Below 0 w w' /\ ∀ g,g < w.heap.size -> g ∉ S -> w'.heap[g]? = w.heap[g]?
theorem Kpt.size {S : List Nat} {w w' : World} (h : Kpt S w w') : w.heap.size <= w'.heap.size := h.1.size
theorem Kpt.refl (S : List Nat) (w : World) : Kpt S w w := ⟨Below.refl _ _,fun _ _ _ => rfl⟩
theorem Kpt.trans {S S' : List Nat} {a b c : World} (h : Kpt S a b) (k : Kpt S' b c) (hs : ∀ x ∈ S',x ∈ S ∨ a.heap.size <= x) : Kpt S a c :=
 ⟨h.1.trans k.1,fun g hg hn => (k.2 g (Nat.lt_of_lt_of_le hg h.size) (fun hx => by
  rcases hs g hx with h1 | h1
  ·exact hn h1
  ·omega)).trans (h.2 g hg hn)⟩
theorem Kpt.mono {S S' : List Nat} {a b : World} (h : Kpt S a b) (hs : ∀ x ∈ S,x < a.heap.size -> x ∈ S') : Kpt S' a b :=
 ⟨h.1,fun g hg hn => h.2 g hg (fun hx => hn (hs g hx hg))⟩
theorem Kpt.of_below {S : List Nat} {w w' : World} (h : Below w.heap.size w w') : Kpt S w w' := ⟨h.mono (Nat.zero_le _),fun g hg _ => h.block g hg⟩
theorem Kpt.of_grown {S : List Nat} {w w' : World} {r : Option Nat} (h : w.grownBy w' r) (hr : ∀ g,r = some g -> g ∈ S ∨ w.heap.size <= g) : Kpt S w w' :=
 ⟨⟨h.os,h.tape,h.output,h.size,fun k hk => absurd hk (Nat.not_lt_zero k)⟩,fun g hg hn => h.block g hg (fun e => by
  rcases hr g e.symm with h1 | h1
  ·exact hn h1
  ·omega)⟩
theorem Kpt.alloc (S : List Nat) (w : World) (o : Obj) : Kpt S w (w.alloc o) := .of_grown (World.grownBy_alloc w o none) (fun g h => by cases h)
theorem Kpt.drew {S : List Nat} {a w : World} (h : Kpt S a w) : Kpt S a w.drew := ⟨h.1.drew,h.2⟩
theorem Kpt.set (S : List Nat) (w : World) (b j : Nat) (u : Value) (h : b ∈ S) : Kpt S w (w.setCell ⟨b,j,none⟩ u) := .of_grown (grown_set w b j u) (fun g e => by cases e; exact .inl h)
theorem Kpt.below {S : List Nat} {w w' : World} {B : Nat} (h : Kpt S w w') (hS : ∀ x ∈ S,B <= x) (hB : B <= w.heap.size) : Below B w w' :=
 ⟨h.1.os,h.1.tape,h.1.output,h.1.size,fun k hk => h.2 k (Nat.lt_of_lt_of_le hk hB) (fun hx => by have := hS k hx; omega)⟩
theorem row_kpt {w w' : World} {B n sz : Nat} {e : TypeId} {v : Value} {xs : List Value} {S : List Nat} (h : w.ownsRow B e sz v n xs) (hk : Kpt S w w') (hS : ∀ g,v.ownBlock = some g -> g ∉ S) : w'.ownsRow B e sz v n xs := by
 refine ⟨h.1,?_⟩
 rcases h.2 with hn | ⟨g,cap,cur,rfl,hb,hgg,rest⟩
 ·exact .inl hn
 ·refine .inr ⟨g,cap,cur,rfl,hb,?_,rest⟩
  rw [hk.2 g (Array.getElem?_eq_some_iff.1 hgg).1 (hS g rfl)]
  exact hgg
theorem Own.kpt {w w' : World} {B : Nat} {v : Value} {l : List UInt8} {S : List Nat} (h : Own w B v l) (hk : Kpt S w w') (hS : ∀ g,v.ownBlock = some g -> g ∉ S) : Own w' B v l := row_kpt h hk hS
theorem Rd.kpt {w w' : World} {v : Value} {l : List UInt8} {S : List Nat} (h : Rd w v l) (hk : Kpt S w w') (hv : l = [] ∨ ∀ g,v.ownBlock = some g -> g < w.heap.size /\ g ∉ S) : Rd w' v l := by
 obtain ⟨p,cap,rfl,h1,h2,h3⟩ := h
 refine ⟨p,cap,rfl,h1,h2,fun a ha i x hx => ?_⟩
 rcases hv with rfl | hv
 ·simp at hx
 ·have := hv a.block (by rw [ha]; rfl)
  have hb := hk.2 a.block this.1 this.2
  rw [World.cell?_of_block (w := w) (a := a.add i) (by rw [add_block]; exact hb)]
  exact h3 a ha i x hx
theorem Tryz.infoS : (Tryz.prog.info? 9).map (fun i => (i.zero,i.size,i.bytes)) = some (some (.string ⟨#[]⟩),1,16) := by kernel_rfl
def OwnS (w : World) (B : Nat) (v : Value) (L : List ByteArray) : Prop := w.ownsRow B 9 1 v L.length (L.map Value.string)
theorem strs_one (L : List ByteArray) : ∀ u ∈ L.map Value.string,u.oneCell' = true := by
 intro u hu
 obtain ⟨_,_,rfl⟩ := List.mem_map.1 hu
 rfl
theorem OwnS.nil (w : World) (B : Nat) : OwnS w B (.slice none 0 0) [] := World.ownsRow_nil _ _ _ _
theorem OwnS.alloc {w : World} {B : Nat} {v : Value} {L : List ByteArray} (h : OwnS w B v L) (o : Obj) : OwnS (w.alloc o) B v L := World.ownsRow.alloc h o
theorem OwnS.lt {w : World} {B : Nat} {v : Value} {L : List ByteArray} (h : OwnS w B v L) : ∀ k,v.ownBlock = some k -> B <= k /\ k < w.heap.size := World.ownsRow.lt h
theorem OwnS.kpt {w w' : World} {B : Nat} {v : Value} {L : List ByteArray} {S : List Nat} (h : OwnS w B v L) (hk : Kpt S w w') (hS : ∀ g,v.ownBlock = some g -> g ∉ S) : OwnS w' B v L := row_kpt h hk hS
theorem OwnS.form {w : World} {B : Nat} {v : Value} {L : List ByteArray} (h : OwnS w B v L) : ∃ a c,v = .slice a L.length c /\ L.length <= c /\ c <= maxLen /\ (0 < L.length -> ∃ g,a = some ⟨g,0,none⟩ /\ ∀ i (hi : i < L.length),w.cell? ⟨g,i,none⟩ = some (.string L[i])) := by
 have hh := h
 rcases h.2 with ⟨rfl,hn⟩ | ⟨g,cap,cur,rfl,_,_,h1,h2,_⟩
 ·exact ⟨none,0,by rw [hn],by omega,by unfold maxLen; omega,fun h0 => by omega⟩
 ·refine ⟨_,cap,rfl,h1,h2,fun _ => ⟨g,rfl,fun i hi => ?_⟩⟩
  have := World.ownsRow.cells hh (g := g) rfl i (.string L[i]) (by simp [hi])
  rw [add_add _ i rfl,Nat.zero_add] at this
  exact this
theorem OwnS.slice {w : World} {B : Nat} {v : Value} {L : List ByteArray} (h : OwnS w B v L) : ∃ a n c,v = .slice a n c := by
 obtain ⟨a,c,h,_⟩ := h.form
 exact ⟨a,_,c,h⟩
theorem wp_appS {w : World} {ops : Array Oper} {rest : List Oper} {o : Oper} {a : Act} {Q : Exit -> Act -> World -> Prop} (hgd : o.guard = none) (s x : Operand)
  (ho : o.op = .call { callee := .builtin .append,args := #[s,x],argTypes := #[53,53] })
  (B : Nat) (v : Value) (L : List ByteArray) (hs : a.eval s = v) (hown : OwnS w B v L) (g c : Nat) (t : ByteArray) (hx : a.eval x = .slice (some ⟨g,0,none⟩) 1 c) (hc : w.cell? ⟨g,0,none⟩ = some (.string t))
  (hb : L.length <= 100000000) (hbase : B <= w.heap.size)
  (h : ∀ v' w',OwnS w' B v' (L ++ [t]) -> w.grownBy w' v.ownBlock -> (v'.ownBlock = v.ownBlock ∨ v'.ownBlock = some w.heap.size) -> wpList Tryz.prog ops Q rest (a.put o.dst v') w') :
  wpList Tryz.prog ops Q (o :: rest) a w := by
 obtain ⟨i0,hi,hz0,hz1,hz2⟩ := info_parts Tryz.infoS
 refine wpList_append_own_at w hgd s x 53 ho B 9 i0 (.string ⟨#[]⟩) 1 16 Tryz.underlying53 hi hz0 hz1 hz2 rfl (by decide) v L.length (L.map Value.string) hs hown ⟨g,0,none⟩ 1 c ([t].map Value.string) hx (by simp) ?_ (strs_one [t])
  (by unfold maxLen; omega) (by omega) hbase ?_
 ·intro j u hj
  match j,hj with
  | 0,hj => simp at hj; subst hj; simpa [Addr.add] using hc
 ·intro v' w' h1 h2 _ h4
  refine h v' w' ?_ h2 h4
  unfold OwnS
  rw [List.length_append,List.map_append]
  exact h1
def pos (L : List ByteArray) (s : ByteArray) : Nat := L.findIdx (fun t => decide (t = s))
instance memDec (s : ByteArray) (L : List ByteArray) : Decidable (s ∈ L) := decidable_of_iff (L.any (fun t => decide (t = s)) = true) (by simp)
def putL (L : List ByteArray) (s : ByteArray) : List ByteArray := if s ∈ L then L else L ++ [s]
theorem pos_le (L : List ByteArray) (s : ByteArray) : pos L s <= L.length := List.findIdx_le_length
theorem pos_lt {L : List ByteArray} {s : ByteArray} (h : s ∈ L) : pos L s < L.length := List.findIdx_lt_length_of_exists ⟨s,h,by simp⟩
theorem pos_not {L : List ByteArray} {s : ByteArray} (h : s ∉ L) : pos L s = L.length := by
 unfold pos
 rw [List.findIdx_eq_length]
 intro x hx
 simp only [decide_eq_false_iff_not]
 rintro rfl
 exact h hx
theorem pos_app {L : List ByteArray} {s : ByteArray} (M : List ByteArray) (h : s ∈ L) : pos (L ++ M) s = pos L s := by
 have h1 := pos_lt h
 unfold pos at h1 ⊢
 rw [List.findIdx_append,if_pos h1]
theorem pos_new {L : List ByteArray} {s : ByteArray} (h : s ∉ L) : pos (L ++ [s]) s = L.length := by
 unfold pos
 rw [List.findIdx_append,if_neg (by have := pos_not h; unfold pos at this; omega)]
 simp [List.findIdx_cons]
theorem putL_has {L : List ByteArray} {s : ByteArray} (h : s ∈ L) : putL L s = L := if_pos h
def kS (s : ByteArray) : Lit := .string s.data.toList
theorem kS_inj {a b : ByteArray} (h : kS a = kS b) : a = b := by
 unfold kS at h
 simp only [Lit.string.injEq] at h
 obtain ⟨a⟩ := a
 obtain ⟨b⟩ := b
 simp only at h
 rw [Array.toList_inj.1 h]
theorem kS_key (s : ByteArray) : WideAt.IsKeyLit (kS s) := by unfold kS WideAt.IsKeyLit; trivial
def NumD (D : DataW Unit) (L : List ByteArray) : Prop :=
 ∀ s : ByteArray,Maps.has D (kS s) = decide (s ∈ L) /\ D.atKey (kS s) (.lit (.int .i64 0)) = .lit (.int .i64 ((if s ∈ L then pos L s else 0 : Nat) : Int))
theorem NumD.nil : NumD (.map []) [] := fun _ => ⟨rfl,rfl⟩
theorem NumD.more {D : DataW Unit} {L : List ByteArray} (h : NumD D L) {s : ByteArray} (hs : s ∈ L) : NumD D (L ++ [s]) := by
 intro t
 obtain ⟨h1,h2⟩ := h t
 rw [h1,h2]
 by_cases ht : t ∈ L
 ·rw [pos_app _ ht]
  simp [ht]
 ·have hne : t ≠ s := fun e => ht (by rw [e]; exact hs)
  simp [ht,hne]
theorem NumD.put {D : DataW Unit} {L : List ByteArray} (h : NumD D L) (hD : IsMap D) {s : ByteArray} (hs : s ∉ L) : NumD (D.put (kS s) (.lit (.int .i64 (L.length : Int)))) (L ++ [s]) := by
 intro t
 by_cases e : t = s
 ·subst e
  rw [has_put_same hD (kS_key t),atKey_put_same hD (kS_key t),pos_new hs]
  simp
 ·have hne : kS t ≠ kS s := fun h => e (kS_inj h)
  obtain ⟨h1,h2⟩ := h t
  rw [has_put_other hne,atKey_put_other hne,h1,h2]
  by_cases ht : t ∈ L
  ·rw [pos_app _ ht]
   simp [ht]
  ·simp [ht,e]
theorem lawS : Keyed Tryz.prog 9 := string_keyed Tryz.underlying9
theorem zeroI (w : World) : (zeroValue 3).run Tryz.prog w = .ok (.int .i64 0) w := by kernel_rfl
def Mp (w : World) (b : Nat) (n : Nat) (L : List ByteArray) : Prop := ∃ D : DataW Unit,w.ownsMap Tryz.prog 9 (plainElem Tryz.prog 3) b n D /\ NumD D L
theorem Mp.made (w : World) : Mp (w.alloc (.map #[] 0)) w.heap.size 0 [] := ⟨_,World.ownsMap_made _ _ _ _,NumD.nil⟩
theorem Mp.map {w : World} {b n : Nat} {L : List ByteArray} (h : Mp w b n L) : ∃ es c,w.heap[b]? = some (.map es c) := by
 obtain ⟨D,⟨es,c,hb,_⟩,_⟩ := h
 exact ⟨es,c,hb⟩
theorem Mp.kpt {w w' : World} {b n : Nat} {L : List ByteArray} {S : List Nat} (h : Mp w b n L) (hk : Kpt S w w') (hS : b ∉ S) : Mp w' b n L := by
 obtain ⟨D,⟨es,c,hb,hr⟩,h2⟩ := h
 refine ⟨D,⟨es,c,?_,hr⟩,h2⟩
 rw [hk.2 b (Array.getElem?_eq_some_iff.1 hb).1 hS]
 exact hb
theorem wp_look {w : World} {ops : Array Oper} {rest : List Oper} {o : Oper} {a : Act} {Q : Exit -> Act -> World -> Prop} (hg : o.guard = none) (m x : Operand) (hop : o.op = Op.lookup 102 m x true)
  (b n : Nat) (L : List ByteArray) (hm : a.eval m = .map (some b)) (h : Mp w b n L) (s : ByteArray) (hs : s.size <= maxLen) (hx : a.eval x = .string s) (ok : Bool) (hok : decide (s ∈ L) = ok) (p : Nat) (hp : (if s ∈ L then pos L s else 0) = p)
  (hK : wpList Tryz.prog ops Q rest (a.put o.dst (.tuple #[.int .i64 p,.bool ok])) w) :
  wpList Tryz.prog ops Q (o :: rest) a w := by
 obtain ⟨D,h1,h2⟩ := h
 refine wpList_lookup_own_ok_int w hg m x _ hop 9 3 .i64 lawS Tryz.underlying102 Tryz.underlying3 (zeroI w) b n D hm h1 _ (kS s) hx (WideMaps.keyOf_string_mk Tryz.underlying9 hs) ?_
 intro c hat _
 obtain ⟨e1,e2⟩ := h2 s
 rw [e2] at hat
 simp only [DataW.lit.injEq,Lit.int.injEq,true_and] at hat
 rw [e1,hok,<- hat,hp]
 exact hK
theorem wp_store {w : World} {ops : Array Oper} {rest : List Oper} {o : Oper} {a : Act} {Q : Exit -> Act -> World -> Prop} (hg : o.guard = none) (m x v : Operand) (hop : o.op = Op.mapUpdate 102 m x v)
  (b : Nat) (L : List ByteArray) (hm : a.eval m = .map (some b)) (h : Mp w b L.length L) (s : ByteArray) (hs : s.size <= maxLen) (hx : a.eval x = .string s) (hv : a.eval v = .int .i64 (L.length : Int)) (hn : s ∉ L) (hl : L.length <= 100000000)
  (hK : ∀ w',Mp w' b (L ++ [s]).length (L ++ [s]) -> w.grownBy w' (some b) -> wpList Tryz.prog ops Q rest (a.put o.dst undef) w') :
  wpList Tryz.prog ops Q (o :: rest) a w := by
 obtain ⟨D,h1,h2⟩ := h
 have hwf : (Lit.int .i64 (L.length : Int)).wf = true := WalkArith.wf_i64 (by omega)
 refine wpList_mapUpdate_own w hg m x v _ hop 9 3 lawS Tryz.underlying102 (plainElem Tryz.prog 3) b L.length D hm h1 (by unfold maxLen; omega) _ _ (kS s) hx hv (WideMaps.keyOf_string_mk Tryz.underlying9 hs) (.lit (.int .i64 (L.length : Int))) [] (plainElem_int Tryz.underlying3 hwf) ?_
 intro w' hown hg
 refine hK w' ⟨_,?_,h2.put h1.isMap hn⟩ hg
 rw [List.length_append]
 exact hown
def Pl (w : World) (B pb mb : Nat) (sl : Value) (L : List ByteArray) : Prop :=
 B <= pb /\ B <= mb /\ w.heap[pb]? = some (.cells #[sl,.map (some mb)] 104 (0,0)) /\ OwnS w B sl L /\ sl.ownBlock ≠ some pb /\ Mp w mb L.length L
def fp (pb mb : Nat) (sl : Value) : List Nat := pb :: mb :: sl.ownBlock.toList
theorem mem_fp {pb mb x : Nat} {sl : Value} : x ∈ fp pb mb sl ↔ x = pb ∨ x = mb ∨ sl.ownBlock = some x := by
 unfold fp
 simp
theorem Pl.lt {w : World} {B pb mb : Nat} {sl : Value} {L : List ByteArray} (h : Pl w B pb mb sl L) : ∀ x ∈ fp pb mb sl,B <= x /\ x < w.heap.size := by
 obtain ⟨h1,h2,hp,ho,_,hm⟩ := h
 obtain ⟨es,c,hb⟩ := hm.map
 intro x hx
 rcases mem_fp.1 hx with rfl | rfl | hx
 ·exact ⟨h1,(Array.getElem?_eq_some_iff.1 hp).1⟩
 ·exact ⟨h2,(Array.getElem?_eq_some_iff.1 hb).1⟩
 ·exact ho.lt x hx
theorem Pl.kpt {w w' : World} {B pb mb : Nat} {sl : Value} {L : List ByteArray} {S : List Nat} (h : Pl w B pb mb sl L) (hk : Kpt S w w') (hS : ∀ x ∈ fp pb mb sl,x ∉ S) : Pl w' B pb mb sl L := by
 obtain ⟨h1,h2,hp,ho,hn,hm⟩ := h
 refine ⟨h1,h2,?_,ho.kpt hk (fun g hg => hS g (mem_fp.2 (.inr (.inr hg)))),hn,hm.kpt hk (hS mb (mem_fp.2 (.inr (.inl rfl))))⟩
 rw [hk.2 pb (Array.getElem?_eq_some_iff.1 hp).1 (hS pb (mem_fp.2 (.inl rfl)))]
 exact hp
theorem Pl.cells {w : World} {B pb mb : Nat} {sl : Value} {L : List ByteArray} (h : Pl w B pb mb sl L) : pb < w.heap.size /\ w.cell? ⟨pb,0,none⟩ = some sl /\ w.cell? ⟨pb,1,none⟩ = some (.map (some mb)) /\ w.frozen? ⟨pb,0,none⟩ = false := by
 obtain ⟨_,_,hp,_⟩ := h
 refine ⟨(Array.getElem?_eq_some_iff.1 hp).1,?_,?_,?_⟩
 ·simp [World.cell?,hp]
 ·simp [World.cell?,hp]
 ·simp [World.frozen?,hp]
theorem Pl.mono {w : World} {B B' pb mb : Nat} {sl : Value} {L : List ByteArray} (h : Pl w B pb mb sl L) (hB : B' <= B) : Pl w B' pb mb sl L := by
 obtain ⟨h1,h2,hp,ho,hn,hm⟩ := h
 refine ⟨Nat.le_trans hB h1,Nat.le_trans hB h2,hp,⟨ho.1,?_⟩,hn,hm⟩
 rcases ho.2 with h' | ⟨g,cap,cur,e,hb,r⟩
 ·exact .inl h'
 ·exact .inr ⟨g,cap,cur,e,Nat.le_trans hB hb,r⟩
end Go.Proofs.YtofnbapnmhibaaaGreat
namespace Go.Proofs.YtofnbapnmhibaaaGreat
open Go.RowKit Go.Maps
def On (w w' : World) (B pb mb : Nat) (sl sl' : Value) (L' : List ByteArray) : Prop :=
 Pl w' B pb mb sl' L' /\ Kpt (fp pb mb sl) w w' /\ ∀ g,sl'.ownBlock = some g -> sl.ownBlock = some g ∨ w.heap.size <= g
theorem On.fresh {w w' : World} {B pb mb : Nat} {sl sl' : Value} {L' : List ByteArray} (h : On w w' B pb mb sl sl' L') : ∀ x ∈ fp pb mb sl',x ∈ fp pb mb sl ∨ w.heap.size <= x := by
 intro x hx
 rcases mem_fp.1 hx with e | e | e
 ·exact .inl (mem_fp.2 (.inl e))
 ·exact .inl (mem_fp.2 (.inr (.inl e)))
 ·exact (h.2.2 x e).imp (fun e => mem_fp.2 (.inr (.inr e))) id
theorem pnew_any (w : World) : Calls Tryz.prog 40 #[] w fun e w' => ∃ pb mb,e = .returned (.pointer (some ⟨pb,0,none⟩)) /\ Pl w' w.heap.size pb mb (.slice none 0 0) [] /\ Below w.heap.size w w' := by
 have hmm := @run_makeMap Tryz.prog
 go_enter Tryz.func40,Tryz.ntmps40
 go_wp2
 go_ret
 refine ⟨_,w.heap.size,rfl,⟨?_,Nat.le_refl _,?_,OwnS.nil _ _,(fun h => by cases h),?_⟩,((Below.refl _ w).alloc (Nat.le_refl _) _).alloc (by simp) _⟩
 ·simp
 ·have := heap_alloc_new (w.alloc (.map #[] 0)) (.cells #[Value.slice none 0 0,Value.map (some w.heap.size)] 104)
  simpa using this
 ·exact (Mp.made w).kpt (Kpt.alloc [] _ _) (by simp)
theorem plen_any (B pb mb : Nat) (sl : Value) (L : List ByteArray) (w : World) (h : Pl w B pb mb sl L) :
  Calls Tryz.prog 43 #[.pointer (some ⟨pb,0,none⟩)] w fun e w' => e = .returned (.int .i64 L.length) /\ w = w' := by
 obtain ⟨hlt,c0,_,_⟩ := h.cells
 obtain ⟨a,c,rfl,h1,h2,_⟩ := h.2.2.2.1.form
 go_enter Tryz.func43,Tryz.ntmps43
 go_wp2
 go_ret
 exact ⟨rfl,rfl⟩
theorem add_facts {w w1 : World} {B pb mb : Nat} {sl v' : Value} {L : List ByteArray} {s : ByteArray} {o : Obj} (h : Pl w B pb mb sl L) (ho : OwnS w1 B v' (L ++ [s])) (hg : (w.alloc o).grownBy w1 sl.ownBlock)
  (hl : v'.ownBlock = sl.ownBlock ∨ v'.ownBlock = some (w.heap.size + 1)) :
  w1.cell? ⟨pb,0,none⟩ = some sl /\ w1.frozen? ⟨pb,0,none⟩ = false /\ w1.cell? ⟨pb,1,none⟩ = some (.map (some mb)) /\ (w1.setCell ⟨pb,0,none⟩ v').cell? ⟨pb,1,none⟩ = some (.map (some mb)) /\ Mp (w1.setCell ⟨pb,0,none⟩ v') mb L.length L /\
  ∀ w3,Mp w3 mb (L.length + 1) (L ++ [s]) -> (w1.setCell ⟨pb,0,none⟩ v').grownBy w3 (some mb) -> On w w3 B pb mb sl v' (L ++ [s]) := by
 have hlt := h.lt
 obtain ⟨h1,h2,hp,hs,hn,hm⟩ := id h
 obtain ⟨es,cl,hmb⟩ := hm.map
 have hpl := (hlt pb (mem_fp.2 (.inl rfl))).2
 have hml := (hlt mb (mem_fp.2 (.inr (.inl rfl)))).2
 have hne : mb ≠ pb := by
  rintro rfl
  rw [hp] at hmb
  cases hmb
 have hsm : sl.ownBlock ≠ some mb := by
  intro e
  rcases hs.2 with ⟨rfl,_⟩ | ⟨g,cap,cur,rfl,_,hg,_⟩
  ·cases e
  ·simp only [Value.ownBlock,Option.some.injEq] at e
   subst e
   rw [hg] at hmb
   cases hmb
 have hvb : v'.ownBlock ≠ some pb := by
  rcases hl with e | e
  ·rw [e]; exact hn
  ·rw [e]; simp only [ne_eq,Option.some.injEq]; omega
 have hvm : v'.ownBlock ≠ some mb := by
  rcases hl with e | e
  ·rw [e]; exact hsm
  ·rw [e]; simp only [ne_eq,Option.some.injEq]; omega
 have k1 : Kpt (fp pb mb sl) w w1 := (Kpt.alloc _ w o).trans (.of_grown (S := fp pb mb sl) hg (fun g e => .inl (mem_fp.2 (.inr (.inr e))))) (fun x hx => .inl hx)
 have k1' : Kpt sl.ownBlock.toList w w1 := (Kpt.alloc _ w o).trans (.of_grown (S := sl.ownBlock.toList) hg (fun g e => .inl (by rw [e]; simp))) (fun x hx => .inl hx)
 have hp1 : w1.heap[pb]? = some (.cells #[sl,.map (some mb)] 104 (0,0)) := by
  rw [k1'.2 pb hpl (by simpa using hn)]
  exact hp
 have hm1 : Mp w1 mb L.length L := hm.kpt k1' (by simpa using hsm)
 have k2 : Kpt [pb] w1 (w1.setCell ⟨pb,0,none⟩ v') := Kpt.set _ _ _ _ _ (by simp)
 have hp2 : (w1.setCell ⟨pb,0,none⟩ v').heap[pb]? = some (.cells #[v',.map (some mb)] 104 (0,0)) := by
  rw [heap_setCell_same w1 pb 0 _ _ _ hp1]; rfl
 refine ⟨?_,?_,?_,?_,hm1.kpt k2 (by simpa using hne),fun w3 hm3 hg3 => ?_⟩
 ·simp [World.cell?,hp1]
 ·simp [World.frozen?,hp1]
 ·simp [World.cell?,hp1]
 ·simp [World.cell?,hp2]
 ·have k3 : Kpt [mb] (w1.setCell ⟨pb,0,none⟩ v') w3 := .of_grown hg3 (fun g e => by cases e; exact .inl (by simp))
  refine ⟨⟨h1,h2,?_,(ho.kpt k2 (fun g e => ?_)).kpt k3 (fun g e => ?_),hvb,by rw [List.length_append]; exact hm3⟩,(k1.trans k2 (fun x hx => .inl ?_)).trans k3 (fun x hx => .inl ?_),fun g e => ?_⟩
  ·rw [k3.2 pb (by have := k1.size; have := k2.size; omega) (by simpa using hne.symm)]
   exact hp2
  ·rw [e] at hvb; simpa using hvb
  ·rw [e] at hvm; simpa using hvm
  ·rw [List.mem_singleton.1 hx]; exact mem_fp.2 (.inl rfl)
  ·rw [List.mem_singleton.1 hx]; exact mem_fp.2 (.inr (.inl rfl))
  ·rcases hl with h | h
   ·exact .inl (by rw [<- h]; exact e)
   ·rw [h] at e
    cases e
    exact .inr (by omega)
theorem Mp.more {w : World} {mb : Nat} {L : List ByteArray} {s : ByteArray} (h : Mp w mb L.length L) (hs : s ∈ L) : Mp w mb (L.length + 1) (L ++ [s]) := by
 obtain ⟨D,h1,h2⟩ := h
 exact ⟨D,h1.mono (by simp),h2.more hs⟩
theorem padd_any (B pb mb : Nat) (sl : Value) (L : List ByteArray) (s : ByteArray) (w : World) (h : Pl w B pb mb sl L) (hB : B <= w.heap.size) (hL : L.length <= 10000000) (hs : s.size <= 100000000) :
  Calls Tryz.prog 90 #[.pointer (some ⟨pb,0,none⟩),.string s] w fun e w' => ∃ sl',e = .returned (.int .i64 L.length) /\ On w w' B pb mb sl sl' (L ++ [s]) := by
 obtain ⟨hlt,c0,c1,f0⟩ := h.cells
 have ho := h.2.2.2.1
 obtain ⟨a,c,hsl,h1,h2,_⟩ := ho.form
 have hsm : s.size <= maxLen := by unfold maxLen; omega
 subst hsl
 by_cases hin : s ∈ L
 ·have hd : decide (s ∈ L) = true := decide_eq_true hin
  have hp : (if s ∈ L then pos L s else 0) = pos L s := if_pos hin
  go_enter Tryz.func90,Tryz.ntmps90
  go_wp2_with (at_builtin; refine wp_appS rfl _ _ rfl B _ L rfl (ho.alloc _) w.heap.size 1 s rfl ?d1 ?d2 ?d3 ?_)
  case d1 => simp
  case d2 => omega
  case d3 => simp; omega
  intro v' w1 ho1 hg1 hl1
  obtain ⟨a',n',c',hv'⟩ := ho1.slice
  subst hv'
  obtain ⟨d0,g0,d1,d2,hm1,hfin⟩ := add_facts h ho1 hg1 hl1
  have HF := hid (hfin _ (hm1.more hin) (grown_refl _ _))
  clear hfin ho1 hg1 hl1
  go_wp2_with (at_lookup; refine wp_look rfl _ _ rfl mb L.length L rfl hm1 s hsm rfl true hd _ hp ?_)
  go_wp2
  go_ret
  exact ⟨_,rfl,HF.out⟩
 ·have hd : decide (s ∈ L) = false := decide_eq_false hin
  have hp : (if s ∈ L then pos L s else 0) = 0 := if_neg hin
  go_enter Tryz.func90,Tryz.ntmps90
  go_wp2_with (at_builtin; refine wp_appS rfl _ _ rfl B _ L rfl (ho.alloc _) w.heap.size 1 s rfl ?d1 ?d2 ?d3 ?_)
  case d1 => simp
  case d2 => omega
  case d3 => simp; omega
  intro v' w1 ho1 hg1 hl1
  obtain ⟨a',n',c',hv'⟩ := ho1.slice
  subst hv'
  obtain ⟨d0,g0,d1,d2,hm1,hfin⟩ := add_facts h ho1 hg1 hl1
  have HF := hid hfin
  clear hfin ho1 hg1 hl1
  go_wp2_with first | (at_lookup; refine wp_look rfl _ _ rfl mb L.length L rfl hm1 s hsm rfl false hd _ hp ?_) | (at_mapUpdate; refine wp_store rfl _ _ _ rfl mb L rfl hm1 s hsm rfl rfl hin (by omega) ?_)
  intro w3 hm3 hg3
  have HE := hid (HF.out w3 hm3 hg3)
  clear HF
  go_wp2
  go_ret
  exact ⟨_,rfl,HE.out⟩
theorem clone_s (s : ByteArray) (w : World) (hs : s.size <= 100000000) :
  Calls Tryz.prog 91 #[.string s] w fun e w' => e = .returned (.string s) /\ Below w.heap.size w w' := by
 go_enter Tryz.func91,Tryz.ntmps91
 go_wp2_with fail
 refine (Tryz.stringslite_Clone s _ (by omega)).mono ?_
 rintro e w1 ⟨rfl,hb⟩
 go_wp2
 go_ret
 exact ⟨rfl,hb⟩
theorem pput_in (B pb mb : Nat) (sl : Value) (L : List ByteArray) (s : ByteArray) (w : World) (h : Pl w B pb mb sl L) (hs : s.size <= 100000000) (hin : s ∈ L) :
  Calls Tryz.prog 65 #[.pointer (some ⟨pb,0,none⟩),.string s] w fun e w' => e = .returned (.int .i64 (pos L s)) /\ w = w' := by
 obtain ⟨hlt,c0,c1,f0⟩ := h.cells
 have hm := h.2.2.2.2.2
 have hsm : s.size <= maxLen := by unfold maxLen; omega
 have hd : decide (s ∈ L) = true := decide_eq_true hin
 have hp : (if s ∈ L then pos L s else 0) = pos L s := if_pos hin
 go_enter Tryz.func65,Tryz.ntmps65
 go_wp2_with (at_lookup; refine wp_look rfl _ _ rfl mb L.length L rfl hm s hsm rfl true hd _ hp ?_)
 go_wp2
 go_ret
 exact ⟨rfl,rfl⟩
theorem pput_any (B pb mb : Nat) (sl : Value) (L : List ByteArray) (s : ByteArray) (w : World) (h : Pl w B pb mb sl L) (hB : B <= w.heap.size) (hL : L.length <= 10000000) (hs : s.size <= 100000000) :
  Calls Tryz.prog 65 #[.pointer (some ⟨pb,0,none⟩),.string s] w fun e w' => ∃ sl',e = .returned (.int .i64 (pos L s)) /\ On w w' B pb mb sl sl' (putL L s) := by
 obtain ⟨hlt,c0,c1,f0⟩ := h.cells
 have hm := h.2.2.2.2.2
 have hsm : s.size <= maxLen := by unfold maxLen; omega
 by_cases hin : s ∈ L
 ·refine (pput_in B pb mb sl L s w h hs hin).mono ?_
  rintro e w' ⟨rfl,rfl⟩
  exact ⟨sl,rfl,by rw [putL_has hin]; exact h,Kpt.refl _ _,fun g e => .inl e⟩
 ·have hd : decide (s ∈ L) = false := decide_eq_false hin
  have hp : (if s ∈ L then pos L s else 0) = 0 := if_neg hin
  go_enter Tryz.func65,Tryz.ntmps65
  go_wp2_with (at_lookup; refine wp_look rfl _ _ rfl mb L.length L rfl hm s hsm rfl false hd _ hp ?_)
  go_wp2_with fail
  refine (clone_s s _ hs).mono ?_
  rintro e w1 ⟨rfl,hb⟩
  have k1 : Kpt [] w w1 := .of_below hb
  go_wp2_with fail
  refine (padd_any B pb mb sl L s _ (h.kpt k1 (fun x _ => by simp)) (Nat.le_trans hB k1.size) hL hs).mono ?_
  rintro e w2 ⟨sl',rfl,hp2,hk2,hf2⟩
  go_wp2
  go_ret
  refine ⟨sl',by rw [pos_not hin]; rfl,by unfold putL; rw [if_neg hin]; exact hp2,?_,fun g e => (hf2 g e).imp id (fun h => Nat.le_trans k1.size h)⟩
  exact (k1.mono (S' := fp pb mb sl) (fun x hx => by simp at hx)).trans hk2 (fun x hx => .inl hx)
end Go.Proofs.YtofnbapnmhibaaaGreat
namespace Go.Proofs.YtofnbapnmhibaaaGreat
open Go.RowKit Go.Maps
def tb (s : ByteArray) : List UInt8 := nb s.size ++ sb s
end Go.Proofs.YtofnbapnmhibaaaGreat
namespace Go.Proofs.YtofnbapnmhibaaaGreat.D
open Go.RowKit
def letB (c : Int) : Bool := decide ((97 <= c /\ c <= 122) ∨ (65 <= c /\ c <= 90))
def digB (c : Int) : Bool := decide (48 <= c /\ c <= 57)
theorem ret_bool {a b : Bool} (h : a = b) : Ending.returned (.bool a) = .returned (.bool b) := by rw [h]
theorem ret_str {a b : ByteArray} (h : a = b) : Ending.returned (.string a) = .returned (.string b) := by rw [h]
theorem letter_any (c : Int) (w : World) :
  Calls Tryz.prog 76 #[.int .u8 c] w fun e w' => e = .returned (.bool (letB c)) /\ w = w' := by
 go_enter Tryz.func76,Tryz.ntmps76
 go_wp2
 all_goals go_ret
 all_goals refine ⟨ret_bool ?_,rfl⟩
 all_goals (rw [Bool.eq_iff_iff]; simp [letB]; try omega)
theorem digit_any (c : Int) (w : World) :
  Calls Tryz.prog 77 #[.int .u8 c] w fun e w' => e = .returned (.bool (digB c)) /\ w = w' := by
 go_enter Tryz.func77,Tryz.ntmps77
 go_wp2
 all_goals go_ret
 all_goals refine ⟨ret_bool ?_,rfl⟩
 all_goals (rw [Bool.eq_iff_iff]; simp [digB]; try omega)
end Go.Proofs.YtofnbapnmhibaaaGreat.D
namespace Go.Proofs.YtofnbapnmhibaaaGreat.D
open Go.RowKit
def midB (c : Int) : Bool := letB c || digB c || decide (c = 95)
def nameL (l : List UInt8) : Bool :=
 decide (0 < l.length) && decide (l.length <= 64) && letB ((l.getD 0 0).toNat : Int) && l.all fun c => midB (c.toNat : Int)
def nameB (s : ByteArray) : Bool := nameL s.data.toList
theorem toList_ne {s : ByteArray} (h : 0 < s.size) : ¬ s.toList = [] := by
 intro e
 have := congrArg List.length e
 rw [Lib.toList_data,<- Lib.size_eq] at this
 simp only [List.length_nil] at this
 omega
theorem isEmpty_ne {s : ByteArray} (h : 0 < s.size) : s.toList.isEmpty = false := by
 cases he : s.toList.isEmpty with
 | false => rfl
 | true => exact absurd (List.isEmpty_iff.1 he) (toList_ne h)
theorem nameB_short {s : ByteArray} (h : s.size = 0) : nameB s = false := by
 have : s.data.toList.length = 0 := by simpa using h
 unfold nameB nameL; simp [this]
theorem nameB_long {s : ByteArray} (h : 64 < s.size) : nameB s = false := by
 have : s.data.toList.length = s.size := (Lib.size_eq s).symm
 unfold nameB nameL; rw [this]; simp [show ¬ s.size <= 64 by omega]
theorem getD0 {s : ByteArray} (h : 0 < s.size) : s.data.toList.getD 0 0 = s[0] := by
 rw [List.getD_eq_getElem?_getD,List.getElem?_eq_getElem (by simpa using h)]; rfl
theorem nameB_first {s : ByteArray} (h0 : 0 < s.size) (h : letB (s[0].toNat : Int) = false) : nameB s = false := by
 unfold nameB nameL; rw [getD0 h0,h]; simp
theorem nameB_mid {s : ByteArray} (k : Nat) (hk : k < s.size) (h : midB (s[k].toNat : Int) = false) : nameB s = false := by
 have : s.data.toList.all (fun c => midB (c.toNat : Int)) = false := by
  rw [List.all_eq_false]
  exact ⟨s[k],by show s.data[k] ∈ _; simp,by rw [h]; simp⟩
 unfold nameB nameL; rw [this]; simp
theorem nameB_true {s : ByteArray} (h0 : 0 < s.size) (h1 : s.size <= 64) (h2 : letB (s[0].toNat : Int) = true) (h : ∀ (j : Nat) (hj : j < s.size),midB (s[j].toNat : Int) = true) : nameB s = true := by
 have e : s.data.toList.all (fun c => midB (c.toNat : Int)) = true := by
  rw [List.all_eq_true]
  intro x hx
  obtain ⟨j,hj,rfl⟩ := List.mem_iff_getElem.1 hx
  exact h j (by simpa using hj)
 have hl : s.data.toList.length = s.size := (Lib.size_eq s).symm
 unfold nameB nameL; rw [e,getD0 h0,h2,hl]; simp [h0,h1]
theorem name_any (s : ByteArray) (w : World) (hs : s.size <= maxLen) :
  Calls Tryz.prog 57 #[.string s] w fun e w' => e = .returned (.bool (nameB s)) /\ w = w' := by
 unfold maxLen at hs
 by_cases h0 : s.size = 0
 ·have HF := hid (nameB_short h0)
  obtain rfl : s = ByteArray.empty := by
   obtain ⟨⟨l⟩⟩ := s
   have : l.length = 0 := h0
   rw [List.eq_nil_of_length_eq_zero this]; rfl
  clear h0
  go_enter Tryz.func57,Tryz.ntmps57
  go_wp2
  go_ret
  exact ⟨ret_bool HF.out.symm,rfl⟩
 have h0' : 0 < s.size := by omega
 have hE := isEmpty_ne h0'
 have hN := toList_ne h0'
 clear h0
 by_cases h1 : 64 < s.size
 ·go_enter Tryz.func57,Tryz.ntmps57
  go_wp2
  go_ret
  exact ⟨ret_bool (nameB_long h1).symm,rfl⟩
 have h1' : s.size <= 64 := by omega
 clear h1
 cases h2 : letB (s[0].toNat : Int) with
 | false =>
  have HF := hid (nameB_first h0' h2)
  go_enter Tryz.func57,Tryz.ntmps57
  go_wp2_with (go_at_call 76; refine (letter_any _ _).mono ?_; rintro e w' ⟨rfl,rfl⟩)
  go_ret
  exact ⟨ret_bool HF.out.symm,rfl⟩
 | true =>
  have H2 := hid h2
  go_enter Tryz.func57,Tryz.ntmps57
  go_wp2_with (go_at_call 76; refine (letter_any _ _).mono ?_; rintro e w' ⟨rfl,rfl⟩)
  clear h2
  go_loop [19] (fun i => ∃ k : Nat,k <= s.size /\ i = .int .i64 k /\ ∀ (j : Nat) (hj : j < s.size),j < k -> midB (s[j].toNat : Int) = true) (fun i => s.size - (intOf i).toNat)
  case atStart => exact ⟨0,Nat.zero_le _,rfl,fun j _ h => absurd h (Nat.not_lt_zero _)⟩
  case round =>
   obtain ⟨k,hk,rfl,hr⟩ := hrel
   have HR := hid hr
   clear hr
   by_cases hlt : k < s.size
   ·cases hm : midB (s[k].toNat : Int) with
    | false =>
     have HF := hid (nameB_mid k hlt hm)
     unfold midB at hm
     simp only [Bool.or_eq_false_iff,decide_eq_false_iff_not] at hm
     obtain ⟨⟨hm1,hm2⟩,hm3⟩ := hm
     have hm4 : (((s[k].toNat : Int)) != 95) = true := by rw [bne_iff_ne]; exact hm3
     have hm5 : (((s[k].toNat : Int)) == 95) = false := by rw [beq_eq_false_iff_ne]; exact hm3
     go_wp2_with ((first | (go_at_call 76; refine (letter_any _ _).mono ?_) | (go_at_call 77; refine (digit_any _ _).mono ?_)); rintro e w' ⟨rfl,rfl⟩)
     go_ret
     exact ⟨ret_bool HF.out.symm,rfl⟩
    | true =>
     have HM := hid hm
     clear hm
     have hs1 : ∀ (j : Nat) (hj : j < s.size),j < k + 1 -> midB (s[j].toNat : Int) = true := by
      intro j hj h
      by_cases e : j = k
      ·subst e; exact HM.out
      ·exact HR.out j hj (by omega)
     have HS := hid hs1
     clear hs1
     have hm := HM.out
     unfold midB at hm
     simp only [Bool.or_eq_true,decide_eq_true_eq] at hm
     cases c1 : letB (s[k].toNat : Int)
     ·cases c2 : digB (s[k].toNat : Int)
      ·have c3 : (s[k].toNat : Int) = 95 := by rw [c1,c2] at hm; simpa using hm
       have c4 : (((s[k].toNat : Int)) != 95) = false := by rw [c3]; rfl
       have c5 : (((s[k].toNat : Int)) == 95) = true := by rw [c3]; rfl
       clear hm c3
       go_wp2_with ((first | (go_at_call 76; refine (letter_any _ _).mono ?_) | (go_at_call 77; refine (digit_any _ _).mono ?_)); rintro e w' ⟨rfl,rfl⟩)
       go_round
       case rel => exact ⟨k + 1,by omega,by go_num,HS.out⟩
       case measure => simp [intOf]; omega
      ·clear hm
       go_wp2_with ((first | (go_at_call 76; refine (letter_any _ _).mono ?_) | (go_at_call 77; refine (digit_any _ _).mono ?_)); rintro e w' ⟨rfl,rfl⟩)
       go_round
       case rel => exact ⟨k + 1,by omega,by go_num,HS.out⟩
       case measure => simp [intOf]; omega
     ·clear hm
      go_wp2_with ((first | (go_at_call 76; refine (letter_any _ _).mono ?_) | (go_at_call 77; refine (digit_any _ _).mono ?_)); rintro e w' ⟨rfl,rfl⟩)
      go_round
      case rel => exact ⟨k + 1,by omega,by go_num,HS.out⟩
      case measure => simp [intOf]; omega
   ·go_wp2
    go_ret
    exact ⟨ret_bool (nameB_true h0' h1' H2.out (fun j hj => HR.out j hj (by omega))).symm,rfl⟩
end Go.Proofs.YtofnbapnmhibaaaGreat.D
namespace Go.Proofs.YtofnbapnmhibaaaGreat.D
open Go.RowKit
def rightB (k : Int) (c : ByteArray) : Bool := if k = 4 then nameB c else decide (1 <= k /\ k <= 5) && decide (c.size = 0)
def typeT (k : Int) (c : ByteArray) : ByteArray :=
 if k = 1 then ⟨#[73]⟩ else if k = 2 then ⟨#[83]⟩ else if k = 3 then ⟨#[65]⟩ else if k = 5 then ⟨#[86]⟩ else if k = 4 then (⟨#[76]⟩ ++ c) ++ ⟨#[59]⟩ else ⟨#[]⟩
theorem type_any (k : Int) (c : ByteArray) (w : World) (hc : c.size <= 4294967280) :
  Calls Tryz.prog 68 #[.agg #[.int .i64 k,.string c]] w fun e w' => e = .returned (.string (typeT k c)) /\ Below w.heap.size w w' := by
 by_cases h1 : k = 1
 ·subst h1
  go_enter Tryz.func68,Tryz.ntmps68
  go_wp2
  go_ret
  exact ⟨rfl,(Below.refl _ _).alloc (Nat.le_refl _) _⟩
 by_cases h2 : k = 2
 ·subst h2
  go_enter Tryz.func68,Tryz.ntmps68
  go_wp2
  go_ret
  exact ⟨rfl,(Below.refl _ _).alloc (Nat.le_refl _) _⟩
 by_cases h3 : k = 3
 ·subst h3
  go_enter Tryz.func68,Tryz.ntmps68
  go_wp2
  go_ret
  exact ⟨rfl,(Below.refl _ _).alloc (Nat.le_refl _) _⟩
 by_cases h5 : k = 5
 ·subst h5
  go_enter Tryz.func68,Tryz.ntmps68
  go_wp2
  go_ret
  exact ⟨rfl,(Below.refl _ _).alloc (Nat.le_refl _) _⟩
 by_cases h4 : k = 4
 ·subst h4
  go_enter Tryz.func68,Tryz.ntmps68
  go_wp2
  go_ret
  exact ⟨rfl,(Below.refl _ _).alloc (Nat.le_refl _) _⟩
 have HF : Hid (typeT k c = ⟨#[]⟩) := hid (by unfold typeT; rw [if_neg h1,if_neg h2,if_neg h3,if_neg h5,if_neg h4])
 replace h1 : (k == 1) = false := by rw [beq_eq_false_iff_ne]; exact h1
 replace h2 : (k == 2) = false := by rw [beq_eq_false_iff_ne]; exact h2
 replace h3 : (k == 3) = false := by rw [beq_eq_false_iff_ne]; exact h3
 replace h5 : (k == 5) = false := by rw [beq_eq_false_iff_ne]; exact h5
 replace h4 : (k == 4) = false := by rw [beq_eq_false_iff_ne]; exact h4
 go_enter Tryz.func68,Tryz.ntmps68
 go_wp2
 go_ret
 exact ⟨ret_str HF.out.symm,(Below.refl _ _).alloc (Nat.le_refl _) _⟩
theorem right_any (k : Int) (c : ByteArray) (w : World) (hc : c.size <= 4294967280) :
  Calls Tryz.prog 80 #[.agg #[.int .i64 k,.string c]] w fun e w' => e = .returned (.bool (rightB k c)) /\ Below w.heap.size w w' := by
 have hc' : c.size <= maxLen := by unfold maxLen; omega
 have hce : (decide (c.size = 0)) = c.toList.isEmpty := by
  by_cases h0 : c.size = 0
  ·rw [decide_eq_true h0,Lib.toList_data]
   have := Lib.size_eq c
   rw [List.eq_nil_of_length_eq_zero (l := c.data.toList) (by omega)]; rfl
  ·rw [decide_eq_false h0,isEmpty_ne (by omega)]
 have HE := hid hce
 clear hce
 by_cases h1 : k = 1
 ·subst h1
  have HF : Hid (rightB 1 c = c.toList.isEmpty) := hid (by unfold rightB; rw [if_neg (by decide),HE.out]; rfl)
  go_enter Tryz.func80,Tryz.ntmps80
  go_wp2
  all_goals go_ret
  all_goals exact ⟨ret_bool (by first | exact HF.out.symm | (rw [HF.out]; simp [*])),(Below.refl _ _).alloc (Nat.le_refl _) _⟩
 by_cases h2 : k = 2
 ·subst h2
  have HF : Hid (rightB 2 c = c.toList.isEmpty) := hid (by unfold rightB; rw [if_neg (by decide),HE.out]; rfl)
  go_enter Tryz.func80,Tryz.ntmps80
  go_wp2
  all_goals go_ret
  all_goals exact ⟨ret_bool (by first | exact HF.out.symm | (rw [HF.out]; simp [*])),(Below.refl _ _).alloc (Nat.le_refl _) _⟩
 by_cases h3 : k = 3
 ·subst h3
  have HF : Hid (rightB 3 c = c.toList.isEmpty) := hid (by unfold rightB; rw [if_neg (by decide),HE.out]; rfl)
  go_enter Tryz.func80,Tryz.ntmps80
  go_wp2
  all_goals go_ret
  all_goals exact ⟨ret_bool (by first | exact HF.out.symm | (rw [HF.out]; simp [*])),(Below.refl _ _).alloc (Nat.le_refl _) _⟩
 by_cases h5 : k = 5
 ·subst h5
  have HF : Hid (rightB 5 c = c.toList.isEmpty) := hid (by unfold rightB; rw [if_neg (by decide),HE.out]; rfl)
  go_enter Tryz.func80,Tryz.ntmps80
  go_wp2
  all_goals go_ret
  all_goals exact ⟨ret_bool (by first | exact HF.out.symm | (rw [HF.out]; simp [*])),(Below.refl _ _).alloc (Nat.le_refl _) _⟩
 by_cases h4 : k = 4
 ·subst h4
  go_enter Tryz.func80,Tryz.ntmps80
  go_wp2_with (go_at_call 57; refine (name_any _ _ hc').mono ?_; rintro e w' ⟨rfl,rfl⟩)
  go_ret
  exact ⟨rfl,(Below.refl _ _).alloc (Nat.le_refl _) _⟩
 have HF : Hid (rightB k c = false) := hid (by
  unfold rightB
  rw [if_neg h4,decide_eq_false (by omega)]; rfl)
 replace h1 : (k == 1) = false := by rw [beq_eq_false_iff_ne]; exact h1
 replace h2 : (k == 2) = false := by rw [beq_eq_false_iff_ne]; exact h2
 replace h3 : (k == 3) = false := by rw [beq_eq_false_iff_ne]; exact h3
 replace h5 : (k == 5) = false := by rw [beq_eq_false_iff_ne]; exact h5
 replace h4 : (k == 4) = false := by rw [beq_eq_false_iff_ne]; exact h4
 go_enter Tryz.func80,Tryz.ntmps80
 go_wp2
 go_ret
 exact ⟨ret_bool HF.out.symm,(Below.refl _ _).alloc (Nat.le_refl _) _⟩
end Go.Proofs.YtofnbapnmhibaaaGreat.D
