/- Texts that the proof is made of, joined. No condition. -/
import Derived.Test.YtijnimjmimeefaaGreatSC0
import Derived.Maps.OwnSet
import Derived.StringKeys
import Derived.Maps.AppendAt
import Derived.Deep.SlicePairs
import Derived.Laws.Bits128
import Derived.Test.YtijnimjmimeefaaGreatRows
import Derived.WalkKit
import Derived.WalkSpells
import Derived.WalkLawsBesides
import Derived.Lib.Hide
import Derived.Outline
import Derived.Lib.Strings
import Derived.Below
import Derived.Lib.IndexMore
import Derived.RegionTactic
import Derived.ChangeAlike
import Derived.Laws.AppendOwnNone
import Derived.Deep.QuietTactic
import Derived.BigQuiet
import Derived.Test.YtijnimjmimeefaaGreatSCH
set_option linter.unusedVariables false
set_option linter.unusedSimpArgs false
set_option maxRecDepth 100000
set_option maxHeartbeats 16000000
namespace Go.Proofs.YtijnimjmimeefaaGreat
open Go.RowKit Go.Maps
def Kpt (S : List Nat) (w w' : World) : Prop := Below 0 w w' /\ ∀ g, g < w.heap.size -> g ∉ S -> w'.heap[g]? = w.heap[g]?
theorem Kpt.size {S : List Nat} {w w' : World} (h : Kpt S w w') : w.heap.size <= w'.heap.size := h.1.size
theorem Kpt.refl (S : List Nat) (w : World) : Kpt S w w := ⟨Below.refl _ _, fun _ _ _ => rfl⟩
theorem Kpt.trans {S S' : List Nat} {a b c : World} (h : Kpt S a b) (k : Kpt S' b c) (hs : ∀ x ∈ S', x ∈ S ∨ a.heap.size <= x) : Kpt S a c :=
 ⟨h.1.trans k.1, fun g hg hn => (k.2 g (Nat.lt_of_lt_of_le hg h.size) (fun hx => by
  rcases hs g hx with h1 | h1
  ·exact hn h1
  ·omega)).trans (h.2 g hg hn)⟩
theorem Kpt.mono {S S' : List Nat} {a b : World} (h : Kpt S a b) (hs : ∀ x ∈ S, x < a.heap.size -> x ∈ S') : Kpt S' a b :=
 ⟨h.1, fun g hg hn => h.2 g hg (fun hx => hn (hs g hx hg))⟩
theorem Kpt.of_below {S : List Nat} {w w' : World} (h : Below w.heap.size w w') : Kpt S w w' := ⟨h.mono (Nat.zero_le _), fun g hg _ => h.block g hg⟩
theorem Kpt.of_grown {S : List Nat} {w w' : World} {r : Option Nat} (h : w.grownBy w' r) (hr : ∀ g, r = some g -> g ∈ S ∨ w.heap.size <= g) : Kpt S w w' :=
 ⟨⟨h.os, h.tape, h.output, h.size, fun k hk => absurd hk (Nat.not_lt_zero k)⟩, fun g hg hn => h.block g hg (fun e => by
  rcases hr g e.symm with h1 | h1
  ·exact hn h1
  ·omega)⟩
theorem Kpt.alloc (S : List Nat) (w : World) (o : Obj) : Kpt S w (w.alloc o) := .of_grown (World.grownBy_alloc w o none) (fun g h => by cases h)
theorem Kpt.drew {S : List Nat} {a w : World} (h : Kpt S a w) : Kpt S a w.drew := ⟨h.1.drew, h.2⟩
theorem Kpt.set (S : List Nat) (w : World) (b j : Nat) (u : Value) (h : b ∈ S) : Kpt S w (w.setCell ⟨b, j, none⟩ u) := .of_grown (grown_set w b j u) (fun g e => by cases e; exact .inl h)
theorem Kpt.gone {S : List Nat} {w w' : World} {B rb : Nat} {bs : List UInt8} {k e : Nat} (h : Gone w w' B rb bs k e) (hr : rb ∈ S) : Kpt S w w' := .of_grown h.2 (fun g e => by cases e; exact .inl hr)
theorem Kpt.below {S : List Nat} {w w' : World} {B : Nat} (h : Kpt S w w') (hS : ∀ x ∈ S, B <= x) (hB : B <= w.heap.size) : Below B w w' :=
 ⟨h.1.os, h.1.tape, h.1.output, h.1.size, fun k hk => h.2 k (Nat.lt_of_lt_of_le hk hB) (fun hx => by have := hS k hx; omega)⟩
theorem row_kpt {w w' : World} {B n sz : Nat} {e : TypeId} {v : Value} {xs : List Value} {S : List Nat} (h : w.ownsRow B e sz v n xs) (hk : Kpt S w w') (hS : ∀ g, v.ownBlock = some g -> g ∉ S) : w'.ownsRow B e sz v n xs := by
 refine ⟨h.1, ?_⟩
 rcases h.2 with hn | ⟨g, cap, cur, rfl, hb, hgg, rest⟩
 ·exact .inl hn
 ·refine .inr ⟨g, cap, cur, rfl, hb, ?_, rest⟩
  rw [hk.2 g (Array.getElem?_eq_some_iff.1 hgg).1 (hS g rfl)]
  exact hgg
theorem Own.kpt {w w' : World} {B : Nat} {v : Value} {l : List UInt8} {S : List Nat} (h : Own w B v l) (hk : Kpt S w w') (hS : ∀ g, v.ownBlock = some g -> g ∉ S) : Own w' B v l := row_kpt h hk hS
theorem Rdr.kpt {w w' : World} {B rb : Nat} {bs : List UInt8} {k e : Nat} {S : List Nat} (h : Rdr w B rb bs k e) (hk : Kpt S w w') (hS : ∀ g, B <= g -> g <= rb -> g ∉ S) : Rdr w' B rb bs k e := by
 obtain ⟨h1, h2, sl, hx, ho, hn⟩ := h
 have hlt := (Array.getElem?_eq_some_iff.1 hx).1
 refine ⟨h1, h2, sl, ?_, ho.kpt hk (fun g hg => hS g (ho.lt g hg).1 (Nat.le_of_lt (hn g hg))), hn⟩
 rw [hk.2 rb hlt (hS rb h1 (Nat.le_refl _))]
 exact hx
theorem Rd.kpt {w w' : World} {v : Value} {l : List UInt8} {S : List Nat} (h : Rd w v l) (hk : Kpt S w w') (hv : l = [] ∨ ∀ g, v.ownBlock = some g -> g < w.heap.size /\ g ∉ S) : Rd w' v l := by
 obtain ⟨p, cap, rfl, h1, h2, h3⟩ := h
 refine ⟨p, cap, rfl, h1, h2, fun a ha i x hx => ?_⟩
 rcases hv with rfl | hv
 ·simp at hx
 ·have := hv a.block (by rw [ha]; rfl)
  have hb := hk.2 a.block this.1 this.2
  rw [World.cell?_of_block (w := w) (a := a.add i) (by rw [add_block]; exact hb)]
  exact h3 a ha i x hx
theorem Tryz.infoS : (Tryz.prog.info? 9).map (fun i => (i.zero, i.size, i.bytes)) = some (some (.string ⟨#[]⟩), 1, 16) := by kernel_rfl
def OwnS (w : World) (B : Nat) (v : Value) (L : List ByteArray) : Prop := w.ownsRow B 9 1 v L.length (L.map Value.string)
theorem strs_one (L : List ByteArray) : ∀ u ∈ L.map Value.string, u.oneCell' = true := by
 intro u hu
 obtain ⟨_, _, rfl⟩ := List.mem_map.1 hu
 rfl
theorem OwnS.nil (w : World) (B : Nat) : OwnS w B (.slice none 0 0) [] := World.ownsRow_nil _ _ _ _
theorem OwnS.alloc {w : World} {B : Nat} {v : Value} {L : List ByteArray} (h : OwnS w B v L) (o : Obj) : OwnS (w.alloc o) B v L := World.ownsRow.alloc h o
theorem OwnS.lt {w : World} {B : Nat} {v : Value} {L : List ByteArray} (h : OwnS w B v L) : ∀ k, v.ownBlock = some k -> B <= k /\ k < w.heap.size := World.ownsRow.lt h
theorem OwnS.kpt {w w' : World} {B : Nat} {v : Value} {L : List ByteArray} {S : List Nat} (h : OwnS w B v L) (hk : Kpt S w w') (hS : ∀ g, v.ownBlock = some g -> g ∉ S) : OwnS w' B v L := row_kpt h hk hS
theorem OwnS.form {w : World} {B : Nat} {v : Value} {L : List ByteArray} (h : OwnS w B v L) : ∃ a c, v = .slice a L.length c /\ L.length <= c /\ c <= maxLen /\ (0 < L.length -> ∃ g, a = some ⟨g, 0, none⟩ /\ ∀ i (hi : i < L.length), w.cell? ⟨g, i, none⟩ = some (.string L[i])) := by
 have hh := h
 rcases h.2 with ⟨rfl, hn⟩ | ⟨g, cap, cur, rfl, _, _, h1, h2, _⟩
 ·exact ⟨none, 0, by rw [hn], by omega, by unfold maxLen; omega, fun h0 => by omega⟩
 ·refine ⟨_, cap, rfl, h1, h2, fun _ => ⟨g, rfl, fun i hi => ?_⟩⟩
  have := World.ownsRow.cells hh (g := g) rfl i (.string L[i]) (by simp [hi])
  rw [add_add _ i rfl, Nat.zero_add] at this
  exact this
theorem OwnS.slice {w : World} {B : Nat} {v : Value} {L : List ByteArray} (h : OwnS w B v L) : ∃ a n c, v = .slice a n c := by
 obtain ⟨a, c, h, _⟩ := h.form
 exact ⟨a, _, c, h⟩
theorem wp_appS {w : World} {ops : Array Oper} {rest : List Oper} {o : Oper} {a : Act} {Q : Exit -> Act -> World -> Prop} (hgd : o.guard = none) (s x : Operand)
  (ho : o.op = .call { callee := .builtin .append, args := #[s, x], argTypes := #[48, 48] })
  (B : Nat) (v : Value) (L : List ByteArray) (hs : a.eval s = v) (hown : OwnS w B v L) (g c : Nat) (t : ByteArray) (hx : a.eval x = .slice (some ⟨g, 0, none⟩) 1 c) (hc : w.cell? ⟨g, 0, none⟩ = some (.string t))
  (hb : L.length <= 100000000) (hbase : B <= w.heap.size)
  (h : ∀ v' w', OwnS w' B v' (L ++ [t]) -> w.grownBy w' v.ownBlock -> (v'.ownBlock = v.ownBlock ∨ v'.ownBlock = some w.heap.size) -> wpList Tryz.prog ops Q rest (a.put o.dst v') w') :
  wpList Tryz.prog ops Q (o :: rest) a w := by
 obtain ⟨i0, hi, hz0, hz1, hz2⟩ := info_parts Tryz.infoS
 refine wpList_append_own_at w hgd s x 48 ho B 9 i0 (.string ⟨#[]⟩) 1 16 Tryz.underlying48 hi hz0 hz1 hz2 rfl (by decide) v L.length (L.map Value.string) hs hown ⟨g, 0, none⟩ 1 c ([t].map Value.string) hx (by simp) ?_ (strs_one [t])
  (by unfold maxLen; omega) (by omega) hbase ?_
 ·intro j u hj
  match j, hj with
  | 0, hj => simp at hj; subst hj; simpa [Addr.add] using hc
 ·intro v' w' h1 h2 _ h4
  refine h v' w' ?_ h2 h4
  unfold OwnS
  rw [List.length_append, List.map_append]
  exact h1
def pos (L : List ByteArray) (s : ByteArray) : Nat := L.findIdx (fun t => decide (t = s))
instance memDec (s : ByteArray) (L : List ByteArray) : Decidable (s ∈ L) := decidable_of_iff (L.any (fun t => decide (t = s)) = true) (by simp)
def putL (L : List ByteArray) (s : ByteArray) : List ByteArray := if s ∈ L then L else L ++ [s]
theorem pos_le (L : List ByteArray) (s : ByteArray) : pos L s <= L.length := List.findIdx_le_length
theorem pos_lt {L : List ByteArray} {s : ByteArray} (h : s ∈ L) : pos L s < L.length := List.findIdx_lt_length_of_exists ⟨s, h, by simp⟩
theorem pos_not {L : List ByteArray} {s : ByteArray} (h : s ∉ L) : pos L s = L.length := by
 unfold pos
 rw [List.findIdx_eq_length]
 intro x hx
 simp only [decide_eq_false_iff_not]
 rintro rfl
 exact h hx
theorem pos_at {L : List ByteArray} {s : ByteArray} (h : s ∈ L) : L[pos L s]'(pos_lt h) = s := by
 have := List.findIdx_getElem (xs := L) (p := fun t => decide (t = s)) (w := pos_lt h)
 exact of_decide_eq_true this
theorem pos_app {L : List ByteArray} {s : ByteArray} (M : List ByteArray) (h : s ∈ L) : pos (L ++ M) s = pos L s := by
 have h1 := pos_lt h
 unfold pos at h1 ⊢
 rw [List.findIdx_append, if_pos h1]
theorem pos_new {L : List ByteArray} {s : ByteArray} (h : s ∉ L) : pos (L ++ [s]) s = L.length := by
 unfold pos
 rw [List.findIdx_append, if_neg (by have := pos_not h; unfold pos at this; omega)]
 simp [List.findIdx_cons]
theorem putL_mem (L : List ByteArray) (s : ByteArray) : s ∈ putL L s := by unfold putL; split <;> simp_all
theorem putL_has {L : List ByteArray} {s : ByteArray} (h : s ∈ L) : putL L s = L := if_pos h
def kS (s : ByteArray) : Lit := .string s.data.toList
theorem kS_inj {a b : ByteArray} (h : kS a = kS b) : a = b := by
 unfold kS at h
 simp only [Lit.string.injEq] at h
 obtain ⟨a⟩ := a
 obtain ⟨b⟩ := b
 simp only at h
 rw [Array.toList_inj.1 h]
theorem kS_key (s : ByteArray) : WideAt.IsKeyLit (kS s) := by unfold kS WideAt.IsKeyLit; trivial
def NumD (D : DataW Unit) (L : List ByteArray) : Prop :=
 ∀ s : ByteArray, Maps.has D (kS s) = decide (s ∈ L) /\ D.atKey (kS s) (.lit (.int .i64 0)) = .lit (.int .i64 ((if s ∈ L then pos L s else 0 : Nat) : Int))
theorem NumD.nil : NumD (.map []) [] := fun _ => ⟨rfl, rfl⟩
theorem NumD.more {D : DataW Unit} {L : List ByteArray} (h : NumD D L) {s : ByteArray} (hs : s ∈ L) : NumD D (L ++ [s]) := by
 intro t
 obtain ⟨h1, h2⟩ := h t
 rw [h1, h2]
 by_cases ht : t ∈ L
 ·rw [pos_app _ ht]
  simp [ht]
 ·have hne : t ≠ s := fun e => ht (by rw [e]; exact hs)
  simp [ht, hne]
theorem NumD.put {D : DataW Unit} {L : List ByteArray} (h : NumD D L) (hD : IsMap D) {s : ByteArray} (hs : s ∉ L) : NumD (D.put (kS s) (.lit (.int .i64 (L.length : Int)))) (L ++ [s]) := by
 intro t
 by_cases e : t = s
 ·subst e
  rw [has_put_same hD (kS_key t), atKey_put_same hD (kS_key t), pos_new hs]
  simp
 ·have hne : kS t ≠ kS s := fun h => e (kS_inj h)
  obtain ⟨h1, h2⟩ := h t
  rw [has_put_other hne, atKey_put_other hne, h1, h2]
  by_cases ht : t ∈ L
  ·rw [pos_app _ ht]
   simp [ht]
  ·simp [ht, e]
theorem lawS : Keyed Tryz.prog 9 := string_keyed Tryz.underlying9
theorem zeroI (w : World) : (zeroValue 3).run Tryz.prog w = .ok (.int .i64 0) w := by kernel_rfl
def Mp (w : World) (b : Nat) (n : Nat) (L : List ByteArray) : Prop := ∃ D : DataW Unit, w.ownsMap Tryz.prog 9 (plainElem Tryz.prog 3) b n D /\ NumD D L
theorem Mp.made (w : World) : Mp (w.alloc (.map #[] 0)) w.heap.size 0 [] := ⟨_, World.ownsMap_made _ _ _ _, NumD.nil⟩
theorem Mp.map {w : World} {b n : Nat} {L : List ByteArray} (h : Mp w b n L) : ∃ es c, w.heap[b]? = some (.map es c) := by
 obtain ⟨D, ⟨es, c, hb, _⟩, _⟩ := h
 exact ⟨es, c, hb⟩
theorem Mp.kpt {w w' : World} {b n : Nat} {L : List ByteArray} {S : List Nat} (h : Mp w b n L) (hk : Kpt S w w') (hS : b ∉ S) : Mp w' b n L := by
 obtain ⟨D, ⟨es, c, hb, hr⟩, h2⟩ := h
 refine ⟨D, ⟨es, c, ?_, hr⟩, h2⟩
 rw [hk.2 b (Array.getElem?_eq_some_iff.1 hb).1 hS]
 exact hb
theorem wp_look {w : World} {ops : Array Oper} {rest : List Oper} {o : Oper} {a : Act} {Q : Exit -> Act -> World -> Prop} (hg : o.guard = none) (m x : Operand) (hop : o.op = Op.lookup 149 m x true)
  (b n : Nat) (L : List ByteArray) (hm : a.eval m = .map (some b)) (h : Mp w b n L) (s : ByteArray) (hs : s.size <= maxLen) (hx : a.eval x = .string s) (ok : Bool) (hok : decide (s ∈ L) = ok) (p : Nat) (hp : (if s ∈ L then pos L s else 0) = p)
  (hK : wpList Tryz.prog ops Q rest (a.put o.dst (.tuple #[.int .i64 p, .bool ok])) w) :
  wpList Tryz.prog ops Q (o :: rest) a w := by
 obtain ⟨D, h1, h2⟩ := h
 refine wpList_lookup_own_ok_int w hg m x _ hop 9 3 .i64 lawS Tryz.underlying149 Tryz.underlying3 (zeroI w) b n D hm h1 _ (kS s) hx (WideMaps.keyOf_string_mk Tryz.underlying9 hs) ?_
 intro c hat _
 obtain ⟨e1, e2⟩ := h2 s
 rw [e2] at hat
 simp only [DataW.lit.injEq, Lit.int.injEq, true_and] at hat
 rw [e1, hok, <- hat, hp]
 exact hK
theorem wp_store {w : World} {ops : Array Oper} {rest : List Oper} {o : Oper} {a : Act} {Q : Exit -> Act -> World -> Prop} (hg : o.guard = none) (m x v : Operand) (hop : o.op = Op.mapUpdate 149 m x v)
  (b : Nat) (L : List ByteArray) (hm : a.eval m = .map (some b)) (h : Mp w b L.length L) (s : ByteArray) (hs : s.size <= maxLen) (hx : a.eval x = .string s) (hv : a.eval v = .int .i64 (L.length : Int)) (hn : s ∉ L) (hl : L.length <= 100000000)
  (hK : ∀ w', Mp w' b (L ++ [s]).length (L ++ [s]) -> w.grownBy w' (some b) -> wpList Tryz.prog ops Q rest (a.put o.dst undef) w') :
  wpList Tryz.prog ops Q (o :: rest) a w := by
 obtain ⟨D, h1, h2⟩ := h
 have hwf : (Lit.int .i64 (L.length : Int)).wf = true := WalkArith.wf_i64 (by omega)
 refine wpList_mapUpdate_own w hg m x v _ hop 9 3 lawS Tryz.underlying149 (plainElem Tryz.prog 3) b L.length D hm h1 (by unfold maxLen; omega) _ _ (kS s) hx hv (WideMaps.keyOf_string_mk Tryz.underlying9 hs) (.lit (.int .i64 (L.length : Int))) [] (plainElem_int Tryz.underlying3 hwf) ?_
 intro w' hown hg
 refine hK w' ⟨_, ?_, h2.put h1.isMap hn⟩ hg
 rw [List.length_append]
 exact hown
def Pl (w : World) (B pb mb : Nat) (sl : Value) (L : List ByteArray) : Prop :=
 B <= pb /\ B <= mb /\ w.heap[pb]? = some (.cells #[sl, .map (some mb)] 151 (0, 0)) /\ OwnS w B sl L /\ sl.ownBlock ≠ some pb /\ Mp w mb L.length L
def fp (pb mb : Nat) (sl : Value) : List Nat := pb :: mb :: sl.ownBlock.toList
theorem mem_fp {pb mb x : Nat} {sl : Value} : x ∈ fp pb mb sl ↔ x = pb ∨ x = mb ∨ sl.ownBlock = some x := by
 unfold fp
 simp
theorem Pl.lt {w : World} {B pb mb : Nat} {sl : Value} {L : List ByteArray} (h : Pl w B pb mb sl L) : ∀ x ∈ fp pb mb sl, B <= x /\ x < w.heap.size := by
 obtain ⟨h1, h2, hp, ho, _, hm⟩ := h
 obtain ⟨es, c, hb⟩ := hm.map
 intro x hx
 rcases mem_fp.1 hx with rfl | rfl | hx
 ·exact ⟨h1, (Array.getElem?_eq_some_iff.1 hp).1⟩
 ·exact ⟨h2, (Array.getElem?_eq_some_iff.1 hb).1⟩
 ·exact ho.lt x hx
theorem Pl.kpt {w w' : World} {B pb mb : Nat} {sl : Value} {L : List ByteArray} {S : List Nat} (h : Pl w B pb mb sl L) (hk : Kpt S w w') (hS : ∀ x ∈ fp pb mb sl, x ∉ S) : Pl w' B pb mb sl L := by
 obtain ⟨h1, h2, hp, ho, hn, hm⟩ := h
 refine ⟨h1, h2, ?_, ho.kpt hk (fun g hg => hS g (mem_fp.2 (.inr (.inr hg)))), hn, hm.kpt hk (hS mb (mem_fp.2 (.inr (.inl rfl))))⟩
 rw [hk.2 pb (Array.getElem?_eq_some_iff.1 hp).1 (hS pb (mem_fp.2 (.inl rfl)))]
 exact hp
theorem Pl.cells {w : World} {B pb mb : Nat} {sl : Value} {L : List ByteArray} (h : Pl w B pb mb sl L) : pb < w.heap.size /\ w.cell? ⟨pb, 0, none⟩ = some sl /\ w.cell? ⟨pb, 1, none⟩ = some (.map (some mb)) /\ w.frozen? ⟨pb, 0, none⟩ = false := by
 obtain ⟨_, _, hp, _⟩ := h
 refine ⟨(Array.getElem?_eq_some_iff.1 hp).1, ?_, ?_, ?_⟩
 ·simp [World.cell?, hp]
 ·simp [World.cell?, hp]
 ·simp [World.frozen?, hp]
theorem Pl.mono {w : World} {B B' pb mb : Nat} {sl : Value} {L : List ByteArray} (h : Pl w B pb mb sl L) (hB : B' <= B) : Pl w B' pb mb sl L := by
 obtain ⟨h1, h2, hp, ho, hn, hm⟩ := h
 refine ⟨Nat.le_trans hB h1, Nat.le_trans hB h2, hp, ⟨ho.1, ?_⟩, hn, hm⟩
 rcases ho.2 with h' | ⟨g, cap, cur, e, hb, r⟩
 ·exact .inl h'
 ·exact .inr ⟨g, cap, cur, e, Nat.le_trans hB hb, r⟩
end Go.Proofs.YtijnimjmimeefaaGreat
namespace Go.Proofs.YtijnimjmimeefaaGreat
open Go.RowKit Go.Maps
def On (w w' : World) (B pb mb : Nat) (sl sl' : Value) (L' : List ByteArray) : Prop :=
 Pl w' B pb mb sl' L' /\ Kpt (fp pb mb sl) w w' /\ ∀ g, sl'.ownBlock = some g -> sl.ownBlock = some g ∨ w.heap.size <= g
theorem On.fresh {w w' : World} {B pb mb : Nat} {sl sl' : Value} {L' : List ByteArray} (h : On w w' B pb mb sl sl' L') : ∀ x ∈ fp pb mb sl', x ∈ fp pb mb sl ∨ w.heap.size <= x := by
 intro x hx
 rcases mem_fp.1 hx with e | e | e
 ·exact .inl (mem_fp.2 (.inl e))
 ·exact .inl (mem_fp.2 (.inr (.inl e)))
 ·exact (h.2.2 x e).imp (fun e => mem_fp.2 (.inr (.inr e))) id
theorem pnew_any (w : World) : Calls Tryz.prog 70 #[] w fun e w' => ∃ pb mb, e = .returned (.pointer (some ⟨pb, 0, none⟩)) /\ Pl w' w.heap.size pb mb (.slice none 0 0) [] /\ Below w.heap.size w w' := by
 have hmm := @run_makeMap Tryz.prog
 go_enter Tryz.func70, Tryz.ntmps70
 go_wp2
 go_ret
 refine ⟨_, w.heap.size, rfl, ⟨?_, Nat.le_refl _, ?_, OwnS.nil _ _, (fun h => by cases h), ?_⟩, ((Below.refl _ w).alloc (Nat.le_refl _) _).alloc (by simp) _⟩
 ·simp
 ·have := heap_alloc_new (w.alloc (.map #[] 0)) (.cells #[Value.slice none 0 0, Value.map (some w.heap.size)] 151)
  simpa using this
 ·exact (Mp.made w).kpt (Kpt.alloc [] _ _) (by simp)
theorem plen_any (B pb mb : Nat) (sl : Value) (L : List ByteArray) (w : World) (h : Pl w B pb mb sl L) :
  Calls Tryz.prog 73 #[.pointer (some ⟨pb, 0, none⟩)] w fun e w' => e = .returned (.int .i64 L.length) /\ w = w' := by
 obtain ⟨hlt, c0, _, _⟩ := h.cells
 obtain ⟨a, c, rfl, h1, h2, _⟩ := h.2.2.2.1.form
 go_enter Tryz.func73, Tryz.ntmps73
 go_wp2
 go_ret
 exact ⟨rfl, rfl⟩
theorem pat_in (B pb mb : Nat) (sl : Value) (L : List ByteArray) (i : Nat) (w : World) (h : Pl w B pb mb sl L) (hi : i < L.length) :
  Calls Tryz.prog 139 #[.pointer (some ⟨pb, 0, none⟩), .int .i64 i] w fun e w' => e = .returned (.tuple #[.string L[i], .bool true]) /\ w = w' := by
 obtain ⟨hlt, c0, _, _⟩ := h.cells
 obtain ⟨a, c, rfl, h1, h2, hf⟩ := h.2.2.2.1.form
 obtain ⟨g, rfl, hc⟩ := hf (by omega)
 have ci := hc i hi
 unfold maxLen at h2
 go_enter Tryz.func139, Tryz.ntmps139
 go_wp2
 go_ret2
 exact ⟨rfl, rfl⟩
theorem pat_out (B pb mb : Nat) (sl : Value) (L : List ByteArray) (i : Int) (w : World) (h : Pl w B pb mb sl L) (hi : i < 0 ∨ (L.length : Int) <= i) :
  Calls Tryz.prog 139 #[.pointer (some ⟨pb, 0, none⟩), .int .i64 i] w fun e w' => e = .returned (.tuple #[.string ⟨#[]⟩, .bool false]) /\ w = w' := by
 obtain ⟨hlt, c0, _, _⟩ := h.cells
 obtain ⟨a, c, rfl, h1, h2, _⟩ := h.2.2.2.1.form
 by_cases hn : i < 0
 all_goals
  go_enter Tryz.func139, Tryz.ntmps139
  go_wp2
  go_ret2
  exact ⟨rfl, rfl⟩
theorem add_facts {w w1 : World} {B pb mb : Nat} {sl v' : Value} {L : List ByteArray} {s : ByteArray} {o : Obj} (h : Pl w B pb mb sl L) (ho : OwnS w1 B v' (L ++ [s])) (hg : (w.alloc o).grownBy w1 sl.ownBlock)
  (hl : v'.ownBlock = sl.ownBlock ∨ v'.ownBlock = some (w.heap.size + 1)) :
  w1.cell? ⟨pb, 0, none⟩ = some sl /\ w1.frozen? ⟨pb, 0, none⟩ = false /\ w1.cell? ⟨pb, 1, none⟩ = some (.map (some mb)) /\ (w1.setCell ⟨pb, 0, none⟩ v').cell? ⟨pb, 1, none⟩ = some (.map (some mb)) /\ Mp (w1.setCell ⟨pb, 0, none⟩ v') mb L.length L /\
  ∀ w3, Mp w3 mb (L.length + 1) (L ++ [s]) -> (w1.setCell ⟨pb, 0, none⟩ v').grownBy w3 (some mb) -> On w w3 B pb mb sl v' (L ++ [s]) := by
 have hlt := h.lt
 obtain ⟨h1, h2, hp, hs, hn, hm⟩ := id h
 obtain ⟨es, cl, hmb⟩ := hm.map
 have hpl := (hlt pb (mem_fp.2 (.inl rfl))).2
 have hml := (hlt mb (mem_fp.2 (.inr (.inl rfl)))).2
 have hne : mb ≠ pb := by
  rintro rfl
  rw [hp] at hmb
  cases hmb
 have hsm : sl.ownBlock ≠ some mb := by
  intro e
  rcases hs.2 with ⟨rfl, _⟩ | ⟨g, cap, cur, rfl, _, hg, _⟩
  ·cases e
  ·simp only [Value.ownBlock, Option.some.injEq] at e
   subst e
   rw [hg] at hmb
   cases hmb
 have hvb : v'.ownBlock ≠ some pb := by
  rcases hl with e | e
  ·rw [e]; exact hn
  ·rw [e]; simp only [ne_eq, Option.some.injEq]; omega
 have hvm : v'.ownBlock ≠ some mb := by
  rcases hl with e | e
  ·rw [e]; exact hsm
  ·rw [e]; simp only [ne_eq, Option.some.injEq]; omega
 have k1 : Kpt (fp pb mb sl) w w1 := (Kpt.alloc _ w o).trans (.of_grown (S := fp pb mb sl) hg (fun g e => .inl (mem_fp.2 (.inr (.inr e))))) (fun x hx => .inl hx)
 have k1' : Kpt sl.ownBlock.toList w w1 := (Kpt.alloc _ w o).trans (.of_grown (S := sl.ownBlock.toList) hg (fun g e => .inl (by rw [e]; simp))) (fun x hx => .inl hx)
 have hp1 : w1.heap[pb]? = some (.cells #[sl, .map (some mb)] 151 (0, 0)) := by
  rw [k1'.2 pb hpl (by simpa using hn)]
  exact hp
 have hm1 : Mp w1 mb L.length L := hm.kpt k1' (by simpa using hsm)
 have k2 : Kpt [pb] w1 (w1.setCell ⟨pb, 0, none⟩ v') := Kpt.set _ _ _ _ _ (by simp)
 have hp2 : (w1.setCell ⟨pb, 0, none⟩ v').heap[pb]? = some (.cells #[v', .map (some mb)] 151 (0, 0)) := by
  rw [heap_setCell_same w1 pb 0 _ _ _ hp1]; rfl
 refine ⟨?_, ?_, ?_, ?_, hm1.kpt k2 (by simpa using hne), fun w3 hm3 hg3 => ?_⟩
 ·simp [World.cell?, hp1]
 ·simp [World.frozen?, hp1]
 ·simp [World.cell?, hp1]
 ·simp [World.cell?, hp2]
 ·have k3 : Kpt [mb] (w1.setCell ⟨pb, 0, none⟩ v') w3 := .of_grown hg3 (fun g e => by cases e; exact .inl (by simp))
  refine ⟨⟨h1, h2, ?_, (ho.kpt k2 (fun g e => ?_)).kpt k3 (fun g e => ?_), hvb, by rw [List.length_append]; exact hm3⟩, (k1.trans k2 (fun x hx => .inl ?_)).trans k3 (fun x hx => .inl ?_), fun g e => ?_⟩
  ·rw [k3.2 pb (by have := k1.size; have := k2.size; omega) (by simpa using hne.symm)]
   exact hp2
  ·rw [e] at hvb; simpa using hvb
  ·rw [e] at hvm; simpa using hvm
  ·rw [List.mem_singleton.1 hx]; exact mem_fp.2 (.inl rfl)
  ·rw [List.mem_singleton.1 hx]; exact mem_fp.2 (.inr (.inl rfl))
  ·rcases hl with h | h
   ·exact .inl (by rw [<- h]; exact e)
   ·rw [h] at e
    cases e
    exact .inr (by omega)
theorem Mp.more {w : World} {mb : Nat} {L : List ByteArray} {s : ByteArray} (h : Mp w mb L.length L) (hs : s ∈ L) : Mp w mb (L.length + 1) (L ++ [s]) := by
 obtain ⟨D, h1, h2⟩ := h
 exact ⟨D, h1.mono (by simp), h2.more hs⟩
theorem padd_any (B pb mb : Nat) (sl : Value) (L : List ByteArray) (s : ByteArray) (w : World) (h : Pl w B pb mb sl L) (hB : B <= w.heap.size) (hL : L.length <= 10000000) (hs : s.size <= 100000000) :
  Calls Tryz.prog 95 #[.pointer (some ⟨pb, 0, none⟩), .string s] w fun e w' => ∃ sl', e = .returned (.int .i64 L.length) /\ On w w' B pb mb sl sl' (L ++ [s]) := by
 obtain ⟨hlt, c0, c1, f0⟩ := h.cells
 have ho := h.2.2.2.1
 obtain ⟨a, c, hsl, h1, h2, _⟩ := ho.form
 have hsm : s.size <= maxLen := by unfold maxLen; omega
 subst hsl
 by_cases hin : s ∈ L
 ·have hd : decide (s ∈ L) = true := decide_eq_true hin
  have hp : (if s ∈ L then pos L s else 0) = pos L s := if_pos hin
  go_enter Tryz.func95, Tryz.ntmps95
  go_wp2_with (at_builtin; refine wp_appS rfl _ _ rfl B _ L rfl (ho.alloc _) w.heap.size 1 s rfl ?d1 ?d2 ?d3 ?_)
  case d1 => simp
  case d2 => omega
  case d3 => simp; omega
  intro v' w1 ho1 hg1 hl1
  obtain ⟨a', n', c', hv'⟩ := ho1.slice
  subst hv'
  obtain ⟨d0, g0, d1, d2, hm1, hfin⟩ := add_facts h ho1 hg1 hl1
  have HF := hid (hfin _ (hm1.more hin) (grown_refl _ _))
  clear hfin ho1 hg1 hl1
  go_wp2_with (at_lookup; refine wp_look rfl _ _ rfl mb L.length L rfl hm1 s hsm rfl true hd _ hp ?_)
  go_wp2
  go_ret
  exact ⟨_, rfl, HF.out⟩
 ·have hd : decide (s ∈ L) = false := decide_eq_false hin
  have hp : (if s ∈ L then pos L s else 0) = 0 := if_neg hin
  go_enter Tryz.func95, Tryz.ntmps95
  go_wp2_with (at_builtin; refine wp_appS rfl _ _ rfl B _ L rfl (ho.alloc _) w.heap.size 1 s rfl ?d1 ?d2 ?d3 ?_)
  case d1 => simp
  case d2 => omega
  case d3 => simp; omega
  intro v' w1 ho1 hg1 hl1
  obtain ⟨a', n', c', hv'⟩ := ho1.slice
  subst hv'
  obtain ⟨d0, g0, d1, d2, hm1, hfin⟩ := add_facts h ho1 hg1 hl1
  have HF := hid hfin
  clear hfin ho1 hg1 hl1
  go_wp2_with first | (at_lookup; refine wp_look rfl _ _ rfl mb L.length L rfl hm1 s hsm rfl false hd _ hp ?_) | (at_mapUpdate; refine wp_store rfl _ _ _ rfl mb L rfl hm1 s hsm rfl rfl hin (by omega) ?_)
  intro w3 hm3 hg3
  have HE := hid (HF.out w3 hm3 hg3)
  clear HF
  go_wp2
  go_ret
  exact ⟨_, rfl, HE.out⟩
theorem clone_s (s : ByteArray) (w : World) (hs : s.size <= 100000000) :
  Calls Tryz.prog 196 #[.string s] w fun e w' => e = .returned (.string s) /\ Below w.heap.size w w' := by
 go_enter Tryz.func196, Tryz.ntmps196
 go_wp2_with fail
 refine (Tryz.stringslite_Clone s _ (by omega)).mono ?_
 rintro e w1 ⟨rfl, hb⟩
 go_wp2
 go_ret
 exact ⟨rfl, hb⟩
theorem pput_in (B pb mb : Nat) (sl : Value) (L : List ByteArray) (s : ByteArray) (w : World) (h : Pl w B pb mb sl L) (hs : s.size <= 100000000) (hin : s ∈ L) :
  Calls Tryz.prog 161 #[.pointer (some ⟨pb, 0, none⟩), .string s] w fun e w' => e = .returned (.int .i64 (pos L s)) /\ w = w' := by
 obtain ⟨hlt, c0, c1, f0⟩ := h.cells
 have hm := h.2.2.2.2.2
 have hsm : s.size <= maxLen := by unfold maxLen; omega
 have hd : decide (s ∈ L) = true := decide_eq_true hin
 have hp : (if s ∈ L then pos L s else 0) = pos L s := if_pos hin
 go_enter Tryz.func161, Tryz.ntmps161
 go_wp2_with (at_lookup; refine wp_look rfl _ _ rfl mb L.length L rfl hm s hsm rfl true hd _ hp ?_)
 go_wp2
 go_ret
 exact ⟨rfl, rfl⟩
theorem pput_any (B pb mb : Nat) (sl : Value) (L : List ByteArray) (s : ByteArray) (w : World) (h : Pl w B pb mb sl L) (hB : B <= w.heap.size) (hL : L.length <= 10000000) (hs : s.size <= 100000000) :
  Calls Tryz.prog 161 #[.pointer (some ⟨pb, 0, none⟩), .string s] w fun e w' => ∃ sl', e = .returned (.int .i64 (pos L s)) /\ On w w' B pb mb sl sl' (putL L s) := by
 obtain ⟨hlt, c0, c1, f0⟩ := h.cells
 have hm := h.2.2.2.2.2
 have hsm : s.size <= maxLen := by unfold maxLen; omega
 by_cases hin : s ∈ L
 ·refine (pput_in B pb mb sl L s w h hs hin).mono ?_
  rintro e w' ⟨rfl, rfl⟩
  exact ⟨sl, rfl, by rw [putL_has hin]; exact h, Kpt.refl _ _, fun g e => .inl e⟩
 ·have hd : decide (s ∈ L) = false := decide_eq_false hin
  have hp : (if s ∈ L then pos L s else 0) = 0 := if_neg hin
  go_enter Tryz.func161, Tryz.ntmps161
  go_wp2_with (at_lookup; refine wp_look rfl _ _ rfl mb L.length L rfl hm s hsm rfl false hd _ hp ?_)
  go_wp2_with fail
  refine (clone_s s _ hs).mono ?_
  rintro e w1 ⟨rfl, hb⟩
  have k1 : Kpt [] w w1 := .of_below hb
  go_wp2_with fail
  refine (padd_any B pb mb sl L s _ (h.kpt k1 (fun x _ => by simp)) (Nat.le_trans hB k1.size) hL hs).mono ?_
  rintro e w2 ⟨sl', rfl, hp2, hk2, hf2⟩
  go_wp2
  go_ret
  refine ⟨sl', by rw [pos_not hin]; rfl, by unfold putL; rw [if_neg hin]; exact hp2, ?_, fun g e => (hf2 g e).imp id (fun h => Nat.le_trans k1.size h)⟩
  exact (k1.mono (S' := fp pb mb sl) (fun x hx => by simp at hx)).trans hk2 (fun x hx => .inl hx)
end Go.Proofs.YtijnimjmimeefaaGreat
namespace Go.Proofs.YtijnimjmimeefaaGreat
open Go.RowKit Go.Maps
def tb (s : ByteArray) : List UInt8 := nb s.size ++ sb s
def tbs (L : List ByteArray) : List UInt8 := L.flatMap tb
def poolB (L : List ByteArray) : List UInt8 := nb L.length ++ tbs L
theorem tbs_snoc (L : List ByteArray) (k : Nat) (h : k < L.length) : tbs (L.take (k + 1)) = tbs (L.take k) ++ tb L[k] := by
 rw [List.take_succ_eq_append_getElem h, tbs, tbs, List.flatMap_append, List.flatMap_cons, List.flatMap_nil, List.append_nil]
theorem tbs_cons (s : ByteArray) (L : List ByteArray) : tbs (s :: L) = tb s ++ tbs L := rfl
theorem tb_len {s : ByteArray} (h : s.size <= 10000) : (tb s).length <= s.size + 10 := by
 unfold tb
 rw [List.length_append, sb_len]
 have := nb_len10 (u64_of_le h (by decide)).out
 omega
theorem tbs_take (L : List ByteArray) (k : Nat) : (tbs (L.take k)).length <= (tbs L).length := by
 have : tbs L = tbs (L.take k) ++ tbs (L.drop k) := by
  unfold tbs
  rw [<- List.flatMap_append, List.take_append_drop]
 rw [this, List.length_append]
 omega
theorem nums_len (n : Nat) : nums [(n : Int)] = nb n := by rw [nums_one, cnt_nat]
theorem pbytes_any (B pb mb : Nat) (sl : Value) (L : List ByteArray) (w : World) (h : Pl w B pb mb sl L) (hL : L.length <= 10000000) (hs : ∀ s ∈ L, s.size <= 10000) (hT : (tbs L).length <= 30000000) :
  Calls Tryz.prog 40 #[.pointer (some ⟨pb, 0, none⟩)] w fun e w' => ∃ v, e = .returned v /\ Own w' w.heap.size v (poolB L) /\ Below w.heap.size w w' := by
 obtain ⟨hlt, c0, _, _⟩ := h.cells
 obtain ⟨a, c, hsl, h1, h2, hf⟩ := h.2.2.2.1.form
 have hbl := fun g (e : sl.ownBlock = some g) => (h.lt g (mem_fp.2 (.inr (.inr e)))).2
 have hn10 := nb_len10 (u64_of_le hL (by decide)).out
 subst hsl
 unfold maxLen at h2
 clear h
 go_enter Tryz.func40, Tryz.ntmps40
 go_wp2_with fail
 refine (num_any (.slice none 0 0) _ [] [(L.length : Int)] _ (rd_nil _) (.inl rfl) (by simp) (rdI_new1 w _ _ (by omega) (by omega)) (.inr fun g hg => by cases hg; simp) (by simp)).mono ?_
 rintro e w1 ⟨v1, rfl, ho1, hb1⟩
 have hB1 : Below w.heap.size w w1 := ((Below.refl _ w).alloc (Nat.le_refl _) _).trans (hb1.mono (by simp))
 have ho2 : Own w1 w.heap.size v1 (nb L.length) := by
  rw [List.nil_append, nums_len] at ho1
  exact ho1.mono (by simp)
 have d0 : w1.cell? ⟨pb, 0, none⟩ = some (.slice a L.length c) := (hB1.cell (p := ⟨pb, 0, none⟩) hlt).trans c0
 clear hb1 ho1
 go_wp2
 go_loopw [3, 18] (fun s i wr => ∃ k : Nat, i = .int .i64 k /\ k <= L.length /\ Own wr w.heap.size s (nb L.length ++ tbs (L.take k)) /\ Below w.heap.size w wr) (fun _ i _ => L.length - (intOf i).toNat)
 case atStart => exact ⟨0, rfl, Nat.zero_le _, by simpa [tbs] using ho2, hB1⟩
 case round =>
  clear ho2 hB1 d0
  obtain ⟨k, rfl, hk, ho, hB⟩ := hrel
  by_cases hlt2 : k < L.length
  ·obtain ⟨g, rfl, hc⟩ := hf (by omega)
   have hcell : wr.cell? ⟨g, k, none⟩ = some (.string L[k]) := (hB.cell (p := ⟨g, k, none⟩) (hbl g rfl)).trans (hc k hlt2)
   have hsk := hs L[k] (List.getElem_mem hlt2)
   have hU := hid (tbs_snoc L k hlt2)
   have hT1 := tbs_take L k
   have hT2 := tb_len hsk
   have hl1 : (nb L.length ++ tbs (L.take k)).length <= 31000000 := by rw [List.length_append]; omega
   have hsz := hB.size
   clear hc hf hbl hs
   go_wp2_with fail
   refine (text_any (.slice none 0 0) [] L[k] _ (rd_nil _) (.inl rfl) (by simp) hsk).mono ?_
   rintro e w2 ⟨v2, rfl, ho2, hb2⟩
   rw [List.nil_append] at ho2
   have ho3 : Own w2 w.heap.size _ _ := ho.below hb2 (fun g hg => (ho.lt g hg).2)
   have hB2 : Below w.heap.size w w2 := hB.trans (hb2.mono hsz)
   have hsz2 := hB2.size
   have hv2 := ho2.rd
   have hlen2 : (nb L[k].size ++ sb L[k]).length <= 10010 := by have := hT2; unfold tb at this; omega
   go_wp2_with (at_builtin; refine wp_app rfl _ _ rfl w.heap.size _ _ rfl ho3 _ _ rfl hv2 (by omega) (by omega) ?_)
   intro v4 w4 ho4 hg4 _
   have hB4 : Below w.heap.size w w4 := hB2.grown hg4 hsz2 (fun k hk => (ho3.lt k hk).1)
   have HO := hid ho4
   clear ho4 ho3 ho2 ho hg4 hv2
   go_wp2
   go_roundw
   case rel => exact ⟨k + 1, by go_num, by omega, by rw [hU.out]; exact HO.out, hB4⟩
   case measure => simp [intOf]; omega
  ·go_wp2
   go_ret
   exact ⟨_, rfl, by rw [List.take_of_length_le (by omega)] at ho; exact ho, hB⟩
end Go.Proofs.YtijnimjmimeefaaGreat
namespace Go.Proofs.YtijnimjmimeefaaGreat
open Go.RowKit
theorem numR_look {bs : List UInt8} {k e m a s x : Nat} (h : lookR bs k e m = (a, s, x)) : numR bs k e m = if x = 0 then (a, k + s, 0) else (0, k, x) := by
 unfold numR
 rw [h]
end Go.Proofs.YtijnimjmimeefaaGreat
namespace Go.Proofs.YtijnimjmimeefaaGreat
open Go.RowKit
theorem numR_le {bs : List UInt8} {k e m v k' e' : Nat} (hk : k <= bs.length) (he : e < 100) (h : numR bs k e m = (v, k', e')) : v <= m /\ k' <= bs.length /\ e' < 100 := by
 rcases hL : lookR bs k e m with ⟨a, s, x⟩
 have hf := lookR_facts bs k e m a s x hk he hL
 rw [numR_look hL] at h
 by_cases hx : x = 0
 ·rw [if_pos hx] at h
  simp only [Prod.mk.injEq] at h
  have h2 := hf.2.1 hx
  omega
 ·rw [if_neg hx] at h
  simp only [Prod.mk.injEq] at h
  omega
end Go.Proofs.YtijnimjmimeefaaGreat
namespace Go.Proofs.YtijnimjmimeefaaGreat
open Go.RowKit
theorem textR_num {bs : List UInt8} {k e m v k' e' : Nat} (h : numR bs k e m = (v, k', e')) :
  textR bs k e m = if e' = 0 then (if bs.length - k' < v then ([], k, 20) else ((bs.drop k').take v, k' + v, 0)) else ([], k, e') := by
 rcases hL : lookR bs k e m with ⟨a, s, x⟩
 rw [numR_look hL] at h
 unfold textR
 rw [hL]
 by_cases hx : x = 0
 ·rw [if_pos hx] at h
  simp only [Prod.mk.injEq] at h
  obtain ⟨rfl, rfl, rfl⟩ := h
  simp [hx]
 ·rw [if_neg hx] at h
  simp only [Prod.mk.injEq] at h
  obtain ⟨_, _, rfl⟩ := h
  simp [hx]
end Go.Proofs.YtijnimjmimeefaaGreat
namespace Go.Proofs.YtijnimjmimeefaaGreat
open Go.RowKit Go.Maps
def textsR (bs : List UInt8) : Nat -> Nat -> Nat -> List ByteArray × Nat × Nat
 | 0, k, e => ([], k, e)
 | n + 1, k, e =>
  if e = 0 then (tx (textR bs k e 1000).1 :: (textsR bs n (textR bs k e 1000).2.1 (textR bs k e 1000).2.2).1, (textsR bs n (textR bs k e 1000).2.1 (textR bs k e 1000).2.2).2)
  else ([], k, e)
def poolR (bs : List UInt8) (k e : Nat) : List ByteArray × Nat × Nat := textsR bs (numR bs k e 10000).1 (numR bs k e 10000).2.1 (numR bs k e 10000).2.2
theorem textsR_stop {bs : List UInt8} {n k e : Nat} (he : e ≠ 0) : textsR bs n k e = ([], k, e) := by
 cases n with
 | zero => rfl
 | succ n => rw [textsR, if_neg he]
theorem textsR_more {bs : List UInt8} {n k k' e' : Nat} {l : List UInt8} (h : textR bs k 0 1000 = (l, k', e')) : textsR bs (n + 1) k 0 = (tx l :: (textsR bs n k' e').1, (textsR bs n k' e').2) := by
 rw [textsR, if_pos rfl, h]
theorem poolR_num {bs : List UInt8} {k e n k' e' : Nat} (h : numR bs k e 10000 = (n, k', e')) : poolR bs k e = textsR bs n k' e' := by
 unfold poolR
 rw [h]
theorem textR_le {bs l : List UInt8} {k e m k' e' : Nat} (hk : k <= bs.length) (he : e < 100) (h : textR bs k e m = (l, k', e')) : l.length <= m /\ e' < 100 := by
 rcases hN : numR bs k e m with ⟨v, k1, e1⟩
 have hf := numR_le hk he hN
 rw [textR_num hN] at h
 by_cases h0 : e1 = 0
 ·rw [if_pos h0] at h
  by_cases h1 : bs.length - k1 < v
  ·rw [if_pos h1] at h
   simp only [Prod.mk.injEq] at h
   obtain ⟨rfl, _, rfl⟩ := h
   exact ⟨by simp, by decide⟩
  ·rw [if_neg h1] at h
   simp only [Prod.mk.injEq] at h
   obtain ⟨rfl, _, rfl⟩ := h
   rw [List.length_take]
   exact ⟨by omega, by decide⟩
 ·rw [if_neg h0] at h
  simp only [Prod.mk.injEq] at h
  obtain ⟨rfl, _, rfl⟩ := h
  exact ⟨by simp, hf.2.2⟩
end Go.Proofs.YtijnimjmimeefaaGreat
namespace Go.Proofs.YtijnimjmimeefaaGreat.D
open Go.RowKit
def letB (c : Int) : Bool := decide ((97 <= c /\ c <= 122) ∨ (65 <= c /\ c <= 90))
def digB (c : Int) : Bool := decide (48 <= c /\ c <= 57)
theorem ret_bool {a b : Bool} (h : a = b) : Ending.returned (.bool a) = .returned (.bool b) := by rw [h]
theorem ret_str {a b : ByteArray} (h : a = b) : Ending.returned (.string a) = .returned (.string b) := by rw [h]
theorem letter_any (c : Int) (w : World) :
  Calls Tryz.prog 186 #[.int .u8 c] w fun e w' => e = .returned (.bool (letB c)) /\ w = w' := by
 go_enter Tryz.func186, Tryz.ntmps186
 go_wp2
 all_goals go_ret
 all_goals refine ⟨ret_bool ?_, rfl⟩
 all_goals (rw [Bool.eq_iff_iff]; simp [letB]; try omega)
theorem digit_any (c : Int) (w : World) :
  Calls Tryz.prog 187 #[.int .u8 c] w fun e w' => e = .returned (.bool (digB c)) /\ w = w' := by
 go_enter Tryz.func187, Tryz.ntmps187
 go_wp2
 all_goals go_ret
 all_goals refine ⟨ret_bool ?_, rfl⟩
 all_goals (rw [Bool.eq_iff_iff]; simp [digB]; try omega)
end Go.Proofs.YtijnimjmimeefaaGreat.D
namespace Go.Proofs.YtijnimjmimeefaaGreat.D
open Go.RowKit
def midB (c : Int) : Bool := letB c || digB c || decide (c = 95)
def nameL (l : List UInt8) : Bool :=
 decide (0 < l.length) && decide (l.length <= 64) && letB ((l.getD 0 0).toNat : Int) && l.all fun c => midB (c.toNat : Int)
def nameB (s : ByteArray) : Bool := nameL s.data.toList
theorem toList_ne {s : ByteArray} (h : 0 < s.size) : ¬ s.toList = [] := by
 intro e
 have := congrArg List.length e
 rw [Lib.toList_data, <- Lib.size_eq] at this
 simp only [List.length_nil] at this
 omega
theorem isEmpty_ne {s : ByteArray} (h : 0 < s.size) : s.toList.isEmpty = false := by
 cases he : s.toList.isEmpty with
 | false => rfl
 | true => exact absurd (List.isEmpty_iff.1 he) (toList_ne h)
theorem nameB_short {s : ByteArray} (h : s.size = 0) : nameB s = false := by
 have : s.data.toList.length = 0 := by simpa using h
 unfold nameB nameL; simp [this]
theorem nameB_long {s : ByteArray} (h : 64 < s.size) : nameB s = false := by
 have : s.data.toList.length = s.size := (Lib.size_eq s).symm
 unfold nameB nameL; rw [this]; simp [show ¬ s.size <= 64 by omega]
theorem getD0 {s : ByteArray} (h : 0 < s.size) : s.data.toList.getD 0 0 = s[0] := by
 rw [List.getD_eq_getElem?_getD, List.getElem?_eq_getElem (by simpa using h)]; rfl
theorem nameB_first {s : ByteArray} (h0 : 0 < s.size) (h : letB (s[0].toNat : Int) = false) : nameB s = false := by
 unfold nameB nameL; rw [getD0 h0, h]; simp
theorem nameB_mid {s : ByteArray} (k : Nat) (hk : k < s.size) (h : midB (s[k].toNat : Int) = false) : nameB s = false := by
 have : s.data.toList.all (fun c => midB (c.toNat : Int)) = false := by
  rw [List.all_eq_false]
  exact ⟨s[k], by show s.data[k] ∈ _; simp, by rw [h]; simp⟩
 unfold nameB nameL; rw [this]; simp
theorem nameB_true {s : ByteArray} (h0 : 0 < s.size) (h1 : s.size <= 64) (h2 : letB (s[0].toNat : Int) = true) (h : ∀ (j : Nat) (hj : j < s.size), midB (s[j].toNat : Int) = true) : nameB s = true := by
 have e : s.data.toList.all (fun c => midB (c.toNat : Int)) = true := by
  rw [List.all_eq_true]
  intro x hx
  obtain ⟨j, hj, rfl⟩ := List.mem_iff_getElem.1 hx
  exact h j (by simpa using hj)
 have hl : s.data.toList.length = s.size := (Lib.size_eq s).symm
 unfold nameB nameL; rw [e, getD0 h0, h2, hl]; simp [h0, h1]
theorem name_any (s : ByteArray) (w : World) (hs : s.size <= maxLen) :
  Calls Tryz.prog 154 #[.string s] w fun e w' => e = .returned (.bool (nameB s)) /\ w = w' := by
 unfold maxLen at hs
 by_cases h0 : s.size = 0
 ·have HF := hid (nameB_short h0)
  obtain rfl : s = ByteArray.empty := by
   obtain ⟨⟨l⟩⟩ := s
   have : l.length = 0 := h0
   rw [List.eq_nil_of_length_eq_zero this]; rfl
  clear h0
  go_enter Tryz.func154, Tryz.ntmps154
  go_wp2
  go_ret
  exact ⟨ret_bool HF.out.symm, rfl⟩
 have h0' : 0 < s.size := by omega
 have hE := isEmpty_ne h0'
 have hN := toList_ne h0'
 clear h0
 by_cases h1 : 64 < s.size
 ·go_enter Tryz.func154, Tryz.ntmps154
  go_wp2
  go_ret
  exact ⟨ret_bool (nameB_long h1).symm, rfl⟩
 have h1' : s.size <= 64 := by omega
 clear h1
 cases h2 : letB (s[0].toNat : Int) with
 | false =>
  have HF := hid (nameB_first h0' h2)
  go_enter Tryz.func154, Tryz.ntmps154
  go_wp2_with (go_at_call 186; refine (letter_any _ _).mono ?_; rintro e w' ⟨rfl, rfl⟩)
  go_ret
  exact ⟨ret_bool HF.out.symm, rfl⟩
 | true =>
  have H2 := hid h2
  go_enter Tryz.func154, Tryz.ntmps154
  go_wp2_with (go_at_call 186; refine (letter_any _ _).mono ?_; rintro e w' ⟨rfl, rfl⟩)
  clear h2
  go_loop [19] (fun i => ∃ k : Nat, k <= s.size /\ i = .int .i64 k /\ ∀ (j : Nat) (hj : j < s.size), j < k -> midB (s[j].toNat : Int) = true) (fun i => s.size - (intOf i).toNat)
  case atStart => exact ⟨0, Nat.zero_le _, rfl, fun j _ h => absurd h (Nat.not_lt_zero _)⟩
  case round =>
   obtain ⟨k, hk, rfl, hr⟩ := hrel
   have HR := hid hr
   clear hr
   by_cases hlt : k < s.size
   ·cases hm : midB (s[k].toNat : Int) with
    | false =>
     have HF := hid (nameB_mid k hlt hm)
     unfold midB at hm
     simp only [Bool.or_eq_false_iff, decide_eq_false_iff_not] at hm
     obtain ⟨⟨hm1, hm2⟩, hm3⟩ := hm
     have hm4 : (((s[k].toNat : Int)) != 95) = true := by rw [bne_iff_ne]; exact hm3
     have hm5 : (((s[k].toNat : Int)) == 95) = false := by rw [beq_eq_false_iff_ne]; exact hm3
     go_wp2_with ((first | (go_at_call 186; refine (letter_any _ _).mono ?_) | (go_at_call 187; refine (digit_any _ _).mono ?_)); rintro e w' ⟨rfl, rfl⟩)
     go_ret
     exact ⟨ret_bool HF.out.symm, rfl⟩
    | true =>
     have HM := hid hm
     clear hm
     have hs1 : ∀ (j : Nat) (hj : j < s.size), j < k + 1 -> midB (s[j].toNat : Int) = true := by
      intro j hj h
      by_cases e : j = k
      ·subst e; exact HM.out
      ·exact HR.out j hj (by omega)
     have HS := hid hs1
     clear hs1
     have hm := HM.out
     unfold midB at hm
     simp only [Bool.or_eq_true, decide_eq_true_eq] at hm
     cases c1 : letB (s[k].toNat : Int)
     ·cases c2 : digB (s[k].toNat : Int)
      ·have c3 : (s[k].toNat : Int) = 95 := by rw [c1, c2] at hm; simpa using hm
       have c4 : (((s[k].toNat : Int)) != 95) = false := by rw [c3]; rfl
       have c5 : (((s[k].toNat : Int)) == 95) = true := by rw [c3]; rfl
       clear hm c3
       go_wp2_with ((first | (go_at_call 186; refine (letter_any _ _).mono ?_) | (go_at_call 187; refine (digit_any _ _).mono ?_)); rintro e w' ⟨rfl, rfl⟩)
       go_round
       case rel => exact ⟨k + 1, by omega, by go_num, HS.out⟩
       case measure => simp [intOf]; omega
      ·clear hm
       go_wp2_with ((first | (go_at_call 186; refine (letter_any _ _).mono ?_) | (go_at_call 187; refine (digit_any _ _).mono ?_)); rintro e w' ⟨rfl, rfl⟩)
       go_round
       case rel => exact ⟨k + 1, by omega, by go_num, HS.out⟩
       case measure => simp [intOf]; omega
     ·clear hm
      go_wp2_with ((first | (go_at_call 186; refine (letter_any _ _).mono ?_) | (go_at_call 187; refine (digit_any _ _).mono ?_)); rintro e w' ⟨rfl, rfl⟩)
      go_round
      case rel => exact ⟨k + 1, by omega, by go_num, HS.out⟩
      case measure => simp [intOf]; omega
   ·go_wp2
    go_ret
    exact ⟨ret_bool (nameB_true h0' h1' H2.out (fun j hj => HR.out j hj (by omega))).symm, rfl⟩
end Go.Proofs.YtijnimjmimeefaaGreat.D
namespace Go.Proofs.YtijnimjmimeefaaGreat.D
open Go.RowKit
def rightB (k : Int) (c : ByteArray) : Bool := if k = 4 then nameB c else decide (1 <= k /\ k <= 5) && decide (c.size = 0)
def typeT (k : Int) (c : ByteArray) : ByteArray :=
 if k = 1 then ⟨#[73]⟩ else if k = 2 then ⟨#[83]⟩ else if k = 3 then ⟨#[65]⟩ else if k = 5 then ⟨#[86]⟩ else if k = 4 then (⟨#[76]⟩ ++ c) ++ ⟨#[59]⟩ else ⟨#[]⟩
theorem type_any (k : Int) (c : ByteArray) (w : World) (hc : c.size <= 4294967280) :
  Calls Tryz.prog 164 #[.agg #[.int .i64 k, .string c]] w fun e w' => e = .returned (.string (typeT k c)) /\ Below w.heap.size w w' := by
 by_cases h1 : k = 1
 ·subst h1
  go_enter Tryz.func164, Tryz.ntmps164
  go_wp2
  go_ret
  exact ⟨rfl, (Below.refl _ _).alloc (Nat.le_refl _) _⟩
 by_cases h2 : k = 2
 ·subst h2
  go_enter Tryz.func164, Tryz.ntmps164
  go_wp2
  go_ret
  exact ⟨rfl, (Below.refl _ _).alloc (Nat.le_refl _) _⟩
 by_cases h3 : k = 3
 ·subst h3
  go_enter Tryz.func164, Tryz.ntmps164
  go_wp2
  go_ret
  exact ⟨rfl, (Below.refl _ _).alloc (Nat.le_refl _) _⟩
 by_cases h5 : k = 5
 ·subst h5
  go_enter Tryz.func164, Tryz.ntmps164
  go_wp2
  go_ret
  exact ⟨rfl, (Below.refl _ _).alloc (Nat.le_refl _) _⟩
 by_cases h4 : k = 4
 ·subst h4
  go_enter Tryz.func164, Tryz.ntmps164
  go_wp2
  go_ret
  exact ⟨rfl, (Below.refl _ _).alloc (Nat.le_refl _) _⟩
 have HF : Hid (typeT k c = ⟨#[]⟩) := hid (by unfold typeT; rw [if_neg h1, if_neg h2, if_neg h3, if_neg h5, if_neg h4])
 replace h1 : (k == 1) = false := by rw [beq_eq_false_iff_ne]; exact h1
 replace h2 : (k == 2) = false := by rw [beq_eq_false_iff_ne]; exact h2
 replace h3 : (k == 3) = false := by rw [beq_eq_false_iff_ne]; exact h3
 replace h5 : (k == 5) = false := by rw [beq_eq_false_iff_ne]; exact h5
 replace h4 : (k == 4) = false := by rw [beq_eq_false_iff_ne]; exact h4
 go_enter Tryz.func164, Tryz.ntmps164
 go_wp2
 go_ret
 exact ⟨ret_str HF.out.symm, (Below.refl _ _).alloc (Nat.le_refl _) _⟩
theorem right_any (k : Int) (c : ByteArray) (w : World) (hc : c.size <= 4294967280) :
  Calls Tryz.prog 190 #[.agg #[.int .i64 k, .string c]] w fun e w' => e = .returned (.bool (rightB k c)) /\ Below w.heap.size w w' := by
 have hc' : c.size <= maxLen := by unfold maxLen; omega
 have hce : (decide (c.size = 0)) = c.toList.isEmpty := by
  by_cases h0 : c.size = 0
  ·rw [decide_eq_true h0, Lib.toList_data]
   have := Lib.size_eq c
   rw [List.eq_nil_of_length_eq_zero (l := c.data.toList) (by omega)]; rfl
  ·rw [decide_eq_false h0, isEmpty_ne (by omega)]
 have HE := hid hce
 clear hce
 by_cases h1 : k = 1
 ·subst h1
  have HF : Hid (rightB 1 c = c.toList.isEmpty) := hid (by unfold rightB; rw [if_neg (by decide), HE.out]; rfl)
  go_enter Tryz.func190, Tryz.ntmps190
  go_wp2
  all_goals go_ret
  all_goals exact ⟨ret_bool (by first | exact HF.out.symm | (rw [HF.out]; simp [*])), (Below.refl _ _).alloc (Nat.le_refl _) _⟩
 by_cases h2 : k = 2
 ·subst h2
  have HF : Hid (rightB 2 c = c.toList.isEmpty) := hid (by unfold rightB; rw [if_neg (by decide), HE.out]; rfl)
  go_enter Tryz.func190, Tryz.ntmps190
  go_wp2
  all_goals go_ret
  all_goals exact ⟨ret_bool (by first | exact HF.out.symm | (rw [HF.out]; simp [*])), (Below.refl _ _).alloc (Nat.le_refl _) _⟩
 by_cases h3 : k = 3
 ·subst h3
  have HF : Hid (rightB 3 c = c.toList.isEmpty) := hid (by unfold rightB; rw [if_neg (by decide), HE.out]; rfl)
  go_enter Tryz.func190, Tryz.ntmps190
  go_wp2
  all_goals go_ret
  all_goals exact ⟨ret_bool (by first | exact HF.out.symm | (rw [HF.out]; simp [*])), (Below.refl _ _).alloc (Nat.le_refl _) _⟩
 by_cases h5 : k = 5
 ·subst h5
  have HF : Hid (rightB 5 c = c.toList.isEmpty) := hid (by unfold rightB; rw [if_neg (by decide), HE.out]; rfl)
  go_enter Tryz.func190, Tryz.ntmps190
  go_wp2
  all_goals go_ret
  all_goals exact ⟨ret_bool (by first | exact HF.out.symm | (rw [HF.out]; simp [*])), (Below.refl _ _).alloc (Nat.le_refl _) _⟩
 by_cases h4 : k = 4
 ·subst h4
  go_enter Tryz.func190, Tryz.ntmps190
  go_wp2_with (go_at_call 154; refine (name_any _ _ hc').mono ?_; rintro e w' ⟨rfl, rfl⟩)
  go_ret
  exact ⟨rfl, (Below.refl _ _).alloc (Nat.le_refl _) _⟩
 have HF : Hid (rightB k c = false) := hid (by
  unfold rightB
  rw [if_neg h4, decide_eq_false (by omega)]; rfl)
 replace h1 : (k == 1) = false := by rw [beq_eq_false_iff_ne]; exact h1
 replace h2 : (k == 2) = false := by rw [beq_eq_false_iff_ne]; exact h2
 replace h3 : (k == 3) = false := by rw [beq_eq_false_iff_ne]; exact h3
 replace h5 : (k == 5) = false := by rw [beq_eq_false_iff_ne]; exact h5
 replace h4 : (k == 4) = false := by rw [beq_eq_false_iff_ne]; exact h4
 go_enter Tryz.func190, Tryz.ntmps190
 go_wp2
 go_ret
 exact ⟨ret_bool HF.out.symm, (Below.refl _ _).alloc (Nat.le_refl _) _⟩
end Go.Proofs.YtijnimjmimeefaaGreat.D
namespace Go.Proofs.YtijnimjmimeefaaGreat.D
open Go.RowKit
abbrev Ty := Int × ByteArray
def tyv (t : Ty) : Value := .agg #[.int .i64 t.1, .string t.2]
def bx (l : List UInt8) : ByteArray := ⟨l.toArray⟩
def t0 : Ty := (0, ⟨#[]⟩)
theorem data_app (a b : ByteArray) : (a ++ b).data.toList = a.data.toList ++ b.data.toList := by simp
theorem bx_data (l : List UInt8) : (bx l).data.toList = l := rfl
theorem bx_size (l : List UInt8) : (bx l).size = l.length := by rw [Lib.size_eq]; rfl
def cutAt : List UInt8 -> Option (List UInt8 × List UInt8)
 | [] => none
 | c :: r => if c = 59 then some ([], r) else (cutAt r).map fun p => (c :: p.1, p.2)
theorem cutAt_some : ∀ {r a b : List UInt8}, cutAt r = some (a, b) -> r = a ++ 59 :: b /\ (59 : UInt8) ∉ a
 | [], _, _, h => by simp [cutAt] at h
 | c :: r, a, b, h => by
  unfold cutAt at h
  by_cases hc : c = 59
  ·rw [if_pos hc] at h
   simp only [Option.some.injEq, Prod.mk.injEq] at h
   obtain ⟨rfl, rfl⟩ := h
   subst hc
   exact ⟨rfl, by simp⟩
  ·rw [if_neg hc] at h
   obtain ⟨⟨a', b'⟩, h1, h2⟩ := Option.map_eq_some_iff.1 h
   simp only [Prod.mk.injEq] at h2
   obtain ⟨rfl, rfl⟩ := h2
   obtain ⟨rfl, h3⟩ := cutAt_some h1
   exact ⟨rfl, by simp only [List.mem_cons, not_or]; exact ⟨fun e => hc e.symm, h3⟩⟩
theorem cutAt_of : ∀ {a b : List UInt8}, (59 : UInt8) ∉ a -> cutAt (a ++ 59 :: b) = some (a, b)
 | [], b, _ => by simp [cutAt]
 | c :: a, b, h => by
  simp only [List.mem_cons, not_or] at h
  show cutAt (c :: (a ++ 59 :: b)) = _
  unfold cutAt
  rw [if_neg (fun e => h.1 e.symm), cutAt_of h.2]
  rfl
theorem index_cut : ∀ (r : List UInt8), (cutAt r = none /\ Lib.index r [59] = -1) ∨ ∃ a b, cutAt r = some (a, b) /\ Lib.index r [59] = (a.length : Int)
 | [] => .inl ⟨rfl, rfl⟩
 | c :: r => by
  by_cases hc : c = 59
  ·subst hc
   exact .inr ⟨[], r, by simp [cutAt], by simp [Lib.index]⟩
  ·have hp : List.isPrefixOf [59] (c :: r) = false := by
    simp only [List.isPrefixOf, Bool.and_true, beq_eq_false_iff_ne, ne_eq]
    exact fun e => hc e.symm
   rcases index_cut r with ⟨h1, h2⟩ | ⟨a, b, h1, h2⟩
   ·refine .inl ⟨by unfold cutAt; rw [if_neg hc, h1]; rfl, ?_⟩
    unfold Lib.index; rw [hp, h2]; rfl
   ·refine .inr ⟨c :: a, b, by unfold cutAt; rw [if_neg hc, h1]; rfl, ?_⟩
    have hn : ((a.length : Int) == -1) = false := by rw [beq_eq_false_iff_ne]; omega
    unfold Lib.index; rw [hp, h2, hn]; simp
theorem cut_eq (r : List UInt8) : Lib.cut r [59] = match cutAt r with | some (a, b) => (a, b, true) | none => (r, [], false) := by
 unfold Lib.cut
 rcases index_cut r with ⟨h1, h2⟩ | ⟨a, b, h1, h2⟩
 ·rw [h1, h2]; rfl
 ·rw [h1, h2, if_pos (by omega)]
  obtain ⟨rfl, _⟩ := cutAt_some h1
  simp
theorem name_no59 {a : List UInt8} (h : nameL a = true) : (59 : UInt8) ∉ a := by
 intro hm
 unfold nameL at h
 simp only [Bool.and_eq_true] at h
 have := List.all_eq_true.1 h.2 _ hm
 revert this
 decide
def refR (r : List UInt8) : Ty × List UInt8 × Bool :=
 match cutAt r with
 | some (a, b) => if nameL a then ((4, bx a), b, true) else (t0, [], false)
 | none => (t0, [], false)
theorem refR_hit {r a b : List UInt8} (h : r = a ++ 59 :: b) (hn : nameL a = true) : refR r = ((4, bx a), b, true) := by
 unfold refR; rw [h, cutAt_of (name_no59 hn)]; simp [hn]
def firstR : List UInt8 -> Ty × List UInt8 × Bool
 | [] => (t0, [], false)
 | c :: r =>
  if c = 73 then ((1, bx []), r, true) else if c = 83 then ((2, bx []), r, true) else if c = 65 then ((3, bx []), r, true)
  else if c = 86 then ((5, bx []), r, true) else if c = 76 then refR r else (t0, [], false)
theorem firstR_cons (c : UInt8) (r : List UInt8) : firstR (c :: r) = if c = 73 then ((1, bx []), r, true) else if c = 83 then ((2, bx []), r, true) else if c = 65 then ((3, bx []), r, true)
  else if c = 86 then ((5, bx []), r, true) else if c = 76 then refR r else (t0, [], false) := rfl
def typeL (t : Ty) : List UInt8 := (typeT t.1 t.2).data.toList
theorem typeL_ref (a : List UInt8) : typeL (4, bx a) = 76 :: (a ++ [59]) := by
 show (if (4 : Int) = 1 then (⟨#[73]⟩ : ByteArray) else if (4 : Int) = 2 then ⟨#[83]⟩ else if (4 : Int) = 3 then ⟨#[65]⟩ else if (4 : Int) = 5 then ⟨#[86]⟩ else if (4 : Int) = 4 then (⟨#[76]⟩ ++ bx a) ++ ⟨#[59]⟩ else ⟨#[]⟩).data.toList = _
 rw [if_neg (by decide), if_neg (by decide), if_neg (by decide), if_neg (by decide), if_pos rfl]
 rw [data_app, data_app, bx_data]; rfl
theorem refR_text {r rest : List UInt8} {t : Ty} (h : refR r = (t, rest, true)) : typeL t ++ rest = 76 :: r /\ rightB t.1 t.2 = true := by
 unfold refR at h
 cases hc : cutAt r with
 | none => rw [hc] at h; simp at h
 | some p =>
  obtain ⟨a, b⟩ := p
  rw [hc] at h
  by_cases hn : nameL a = true
  ·simp only [hn, if_true, Prod.mk.injEq, and_true] at h
   obtain ⟨rfl, rfl⟩ := h
   obtain ⟨rfl, _⟩ := cutAt_some hc
   refine ⟨by rw [typeL_ref]; simp, ?_⟩
   show (if (4 : Int) = 4 then nameB (bx a) else _) = true
   rw [if_pos rfl]; exact hn
  ·simp [hn] at h
theorem firstR_text {s rest : List UInt8} {t : Ty} (h : firstR s = (t, rest, true)) : typeL t ++ rest = s /\ rightB t.1 t.2 = true := by
 cases s with
 | nil => simp [firstR] at h
 | cons c r =>
  rw [firstR_cons] at h
  by_cases h1 : c = 73
  ·rw [if_pos h1] at h; simp only [Prod.mk.injEq, and_true] at h; obtain ⟨rfl, rfl⟩ := h; subst h1; exact ⟨rfl, rfl⟩
  rw [if_neg h1] at h
  by_cases h2 : c = 83
  ·rw [if_pos h2] at h; simp only [Prod.mk.injEq, and_true] at h; obtain ⟨rfl, rfl⟩ := h; subst h2; exact ⟨rfl, rfl⟩
  rw [if_neg h2] at h
  by_cases h3 : c = 65
  ·rw [if_pos h3] at h; simp only [Prod.mk.injEq, and_true] at h; obtain ⟨rfl, rfl⟩ := h; subst h3; exact ⟨rfl, rfl⟩
  rw [if_neg h3] at h
  by_cases h4 : c = 86
  ·rw [if_pos h4] at h; simp only [Prod.mk.injEq, and_true] at h; obtain ⟨rfl, rfl⟩ := h; subst h4; exact ⟨rfl, rfl⟩
  rw [if_neg h4] at h
  by_cases h5 : c = 76
  ·rw [if_pos h5] at h; subst h5; exact refR_text h
  ·rw [if_neg h5] at h; simp at h
theorem typeL_pos {t : Ty} (h : rightB t.1 t.2 = true) : 0 < (typeL t).length := by
 unfold typeL typeT
 unfold rightB at h
 by_cases h1 : t.1 = 1
 ·rw [if_pos h1]; decide
 rw [if_neg h1]
 by_cases h2 : t.1 = 2
 ·rw [if_pos h2]; decide
 rw [if_neg h2]
 by_cases h3 : t.1 = 3
 ·rw [if_pos h3]; decide
 rw [if_neg h3]
 by_cases h5 : t.1 = 5
 ·rw [if_pos h5]; decide
 rw [if_neg h5]
 by_cases h4 : t.1 = 4
 ·rw [if_pos h4, data_app]; simp
 ·rw [if_neg h4] at h
  simp only [Bool.and_eq_true, decide_eq_true_eq] at h
  omega
theorem firstR_len {s rest : List UInt8} {t : Ty} (h : firstR s = (t, rest, true)) : rest.length < s.length := by
 obtain ⟨rfl, hr⟩ := firstR_text h
 have := typeL_pos hr
 simp; omega
def oneR (s : List UInt8) : Ty × Bool := if (firstR s).2.2 && (firstR s).2.1.isEmpty then ((firstR s).1, true) else (t0, false)
def listR : Nat -> List Ty -> List UInt8 -> List Ty × List UInt8 × Bool
 | 0, _, _ => ([], [], false)
 | n + 1, ps, s =>
  if Lib.hasPrefix s [41] then (ps, s.drop 1, true)
  else if (firstR s).2.2 = false ∨ (firstR s).1.1 = 5 ∨ ps.length = 8 then ([], [], false)
  else listR n (ps ++ [(firstR s).1]) (firstR s).2.1
theorem listR_fuel : ∀ (n m : Nat) (ps : List Ty) (s : List UInt8), s.length < n -> s.length < m -> listR n ps s = listR m ps s
 | 0, _, _, _, h, _ => absurd h (Nat.not_lt_zero _)
 | _ + 1, 0, _, _, _, h => absurd h (Nat.not_lt_zero _)
 | n + 1, m + 1, ps, s, h1, h2 => by
  unfold listR
  by_cases hp : Lib.hasPrefix s [41] = true
  ·rw [if_pos hp, if_pos hp]
  ·rw [if_neg hp, if_neg hp]
   by_cases hc : (firstR s).2.2 = false ∨ (firstR s).1.1 = 5 ∨ ps.length = 8
   ·rw [if_pos hc, if_pos hc]
   ·rw [if_neg hc, if_neg hc]
    have : (firstR s).2.2 = true := by
     cases hh : (firstR s).2.2
     ·exact absurd (.inl hh) hc
     ·rfl
    have hl := firstR_len (s := s) (t := (firstR s).1) (rest := (firstR s).2.1) (by rw [<- this])
    exact listR_fuel n m _ _ (by omega) (by omega)
def parseR (s : List UInt8) : List Ty × Ty × Bool :=
 if Lib.hasPrefix s [40] then
  (if (listR s.length [] (s.drop 1)).2.2 && (oneR (listR s.length [] (s.drop 1)).2.1).2 then ((listR s.length [] (s.drop 1)).1, (oneR (listR s.length [] (s.drop 1)).2.1).1, true) else ([], t0, false))
 else ([], t0, false)
def ofL (ps : List Ty) (r : Ty) : List UInt8 := 40 :: (ps.flatMap typeL ++ 41 :: typeL r)
theorem pre41 {s : List UInt8} (c : UInt8) (h : Lib.hasPrefix s [c] = true) : s = c :: s.drop 1 := by
 cases s with
 | nil => simp [Lib.hasPrefix] at h
 | cons d r =>
  simp only [Lib.hasPrefix, List.isPrefixOf, Bool.and_true, beq_iff_eq] at h
  subst h; rfl
theorem oneR_text {s : List UInt8} {t : Ty} (h : oneR s = (t, true)) : typeL t = s /\ rightB t.1 t.2 = true := by
 unfold oneR at h
 by_cases hc : ((firstR s).2.2 && (firstR s).2.1.isEmpty) = true
 ·rw [if_pos hc] at h
  simp only [Prod.mk.injEq, and_true] at h
  subst h
  simp only [Bool.and_eq_true, List.isEmpty_iff] at hc
  have := firstR_text (s := s) (t := (firstR s).1) (rest := []) (by rw [<- hc.1, <- hc.2])
  simpa using this
 ·rw [if_neg hc] at h; simp at h
theorem listR_text : ∀ (n : Nat) (ps ps' : List Ty) (s rest : List UInt8), listR n ps s = (ps', rest, true) ->
  ∃ qs, ps' = ps ++ qs /\ s = qs.flatMap typeL ++ 41 :: rest /\ (∀ q ∈ qs, rightB q.1 q.2 = true /\ ¬ q.1 = 5) /\ (ps.length <= 8 -> ps'.length <= 8)
 | 0, _, _, _, _, h => by simp [listR] at h
 | n + 1, ps, ps', s, rest, h => by
  unfold listR at h
  by_cases hp : Lib.hasPrefix s [41] = true
  ·rw [if_pos hp] at h
   simp only [Prod.mk.injEq, and_true] at h
   obtain ⟨rfl, rfl⟩ := h
   exact ⟨[], by simp, by simpa using pre41 41 hp, by simp, id⟩
  ·rw [if_neg hp] at h
   by_cases hc : (firstR s).2.2 = false ∨ (firstR s).1.1 = 5 ∨ ps.length = 8
   ·rw [if_pos hc] at h; simp at h
   ·rw [if_neg hc] at h
    obtain ⟨qs, h1, h2, h3, h4⟩ := listR_text n _ _ _ _ h
    have hb : (firstR s).2.2 = true := by
     cases hh : (firstR s).2.2
     ·exact absurd (.inl hh) hc
     ·rfl
    obtain ⟨g1, g2⟩ := firstR_text (s := s) (t := (firstR s).1) (rest := (firstR s).2.1) (by rw [<- hb])
    refine ⟨(firstR s).1 :: qs, by rw [h1]; simp, by rw [List.flatMap_cons, List.append_assoc, <- h2, g1], ?_, fun hl => ?_⟩
    ·intro q hq
     rcases List.mem_cons.1 hq with rfl | hq
     ·exact ⟨g2, fun e => hc (.inr (.inl e))⟩
     ·exact h3 q hq
    ·have : ¬ ps.length = 8 := fun e => hc (.inr (.inr e))
     exact h4 (by simp; omega)
theorem parseR_text {s : List UInt8} {ps : List Ty} {r : Ty} (h : parseR s = (ps, r, true)) :
  ofL ps r = s /\ (∀ q ∈ ps, rightB q.1 q.2 = true /\ ¬ q.1 = 5) /\ ps.length <= 8 /\ rightB r.1 r.2 = true := by
 unfold parseR at h
 by_cases hp : Lib.hasPrefix s [40] = true
 ·rw [if_pos hp] at h
  by_cases hc : ((listR s.length [] (s.drop 1)).2.2 && (oneR (listR s.length [] (s.drop 1)).2.1).2) = true
  ·rw [if_pos hc] at h
   simp only [Prod.mk.injEq, and_true] at h
   obtain ⟨rfl, rfl⟩ := h
   simp only [Bool.and_eq_true] at hc
   obtain ⟨qs, h1, h2, h3, h4⟩ := listR_text s.length [] (listR s.length [] (s.drop 1)).1 (s.drop 1) (listR s.length [] (s.drop 1)).2.1 (by rw [<- hc.1])
   obtain ⟨g1, g2⟩ := oneR_text (s := (listR s.length [] (s.drop 1)).2.1) (t := (oneR (listR s.length [] (s.drop 1)).2.1).1) (by rw [<- hc.2])
   refine ⟨?_, ?_, h4 (by simp), g2⟩
   ·unfold ofL
    rw [g1, h1, List.nil_append, <- h2]
    exact (pre41 40 hp).symm
   ·rw [h1, List.nil_append]; exact h3
  ·rw [if_neg hc] at h; simp at h
 ·rw [if_neg hp] at h; simp at h
end Go.Proofs.YtijnimjmimeefaaGreat.D
namespace Go.Proofs.YtijnimjmimeefaaGreat.D
open Go.RowKit
def Glob (w : World) : Prop := ∃ m : Int, w.cell? ⟨0, 0, none⟩ = some (.int .i64 m)
theorem Glob.below {w w' : World} {B : Nat} (h : Glob w) (hb : Below B w w') (hB : w.heap.size <= B) : Glob w' := by
 obtain ⟨m, hm⟩ := h
 have := World.block_lt_of_cell? _ _ hm
 exact ⟨m, by rw [hb.cell (p := ⟨0, 0, none⟩) (by simp only at this ⊢; omega)]; exact hm⟩
theorem Glob.alloc {w : World} (h : Glob w) (o : Obj) : Glob (w.alloc o) := h.below ((Below.refl w.heap.size w).alloc (Nat.le_refl _) o) (Nat.le_refl _)
theorem below_drewN {B : Nat} {a w : World} (h : Below B a w) (n : Nat) : Below B a (w.drewN n) := ⟨h.os, h.tape, h.output, h.size, h.block⟩
theorem cut_some {s : ByteArray} {a b : List UInt8} (h : cutAt s.data.toList = some (a, b)) (w : World) (hg : Glob w) (hs : s.size <= 4294967280) :
  Calls Tryz.prog 212 #[.string s, .string ⟨#[59]⟩] w fun e w' => e = .returned (.tuple #[.string (bx a), .string (bx b), .bool true]) /\ ∃ n, w' = w.drewN n := by
 obtain ⟨m, hm⟩ := hg
 refine (Tryz.strings_Cut s ⟨#[59]⟩ m w (by omega) hm).mono fun e w' ⟨h1, h2⟩ => ⟨?_, h2⟩
 rw [h1]
 have : Lib.cut s.data.toList ([59] : List UInt8) = (a, b, true) := by rw [cut_eq, h]
 show Ending.returned (.tuple #[.string ⟨(Lib.cut s.data.toList [59]).1.toArray⟩, .string ⟨(Lib.cut s.data.toList [59]).2.1.toArray⟩, .bool (Lib.cut s.data.toList [59]).2.2]) = _
 rw [this]; rfl
theorem cut_none {s : ByteArray} (h : cutAt s.data.toList = none) (w : World) (hg : Glob w) (hs : s.size <= 4294967280) :
  Calls Tryz.prog 212 #[.string s, .string ⟨#[59]⟩] w fun e w' => e = .returned (.tuple #[.string s, .string (bx []), .bool false]) /\ ∃ n, w' = w.drewN n := by
 obtain ⟨m, hm⟩ := hg
 refine (Tryz.strings_Cut s ⟨#[59]⟩ m w (by omega) hm).mono fun e w' ⟨h1, h2⟩ => ⟨?_, h2⟩
 rw [h1]
 have : Lib.cut s.data.toList ([59] : List UInt8) = (s.data.toList, [], false) := by rw [cut_eq, h]
 show Ending.returned (.tuple #[.string ⟨(Lib.cut s.data.toList [59]).1.toArray⟩, .string ⟨(Lib.cut s.data.toList [59]).2.1.toArray⟩, .bool (Lib.cut s.data.toList [59]).2.2]) = _
 rw [this]; rfl
def ret3 (x : Ty × List UInt8 × Bool) : Value := .tuple #[tyv x.1, .string (bx x.2.1), .bool x.2.2]
theorem ref_any (s : ByteArray) (w : World) (hg : Glob w) (hs : s.size <= 4294967280) :
  Calls Tryz.prog 203 #[.string s] w fun e w' => e = .returned (ret3 (refR s.data.toList)) /\ Below w.heap.size w w' := by
 cases hc : cutAt s.data.toList with
 | none =>
  have HF : Hid (refR s.data.toList = (t0, [], false)) := hid (by unfold refR; rw [hc])
  have HC := hid hc
  clear hc
  go_enter Tryz.func203, Tryz.ntmps203
  go_wp2_with fail
  refine (cut_none HC.out _ (hg.alloc _) hs).mono ?_
  rintro e w' ⟨rfl, n, rfl⟩
  go_wp2_with fail
  refine bodyPost_ret (v := .tuple #[.agg #[.int .i64 0, .string (bx [])], .string (bx []), .bool false]) (by simp [results, Tryz.results203, go_sem, bx]) rfl ⟨by rw [HF.out]; rfl, ?_⟩
  repeat (first | exact Below.refl _ _ | refine Below.setCell (p := ⟨_, _, _⟩) ?_ (by simp) _ | refine below_drewN ?_ _ | refine Below.drew ?_ | refine Below.alloc ?_ (by simp) _)
 | some p =>
  obtain ⟨a, b⟩ := p
  have hl : (bx a).size <= maxLen := by
   have := Lib.size_eq s
   rw [(cutAt_some hc).1] at this
   simp at this
   rw [bx_size]; unfold maxLen; omega
  have HC := hid hc
  cases hn : nameL a with
  | false =>
   have HF : Hid (refR s.data.toList = (t0, [], false)) := hid (by unfold refR; rw [hc]; simp [hn])
   have hn' : nameB (bx a) = false := hn
   clear hn hc
   go_enter Tryz.func203, Tryz.ntmps203
   go_wp2_with fail
   refine (cut_some HC.out _ (hg.alloc _) hs).mono ?_
   rintro e w' ⟨rfl, n, rfl⟩
   go_wp2_with fail
   refine (name_any _ _ hl).mono ?_
   rintro e w' ⟨rfl, rfl⟩
   go_wp2_with fail
   refine bodyPost_ret (v := .tuple #[.agg #[.int .i64 0, .string (bx [])], .string (bx []), .bool false]) (by simp [results, Tryz.results203, go_sem, bx]) rfl ⟨by rw [HF.out]; rfl, ?_⟩
   repeat (first | exact Below.refl _ _ | refine Below.setCell (p := ⟨_, _, _⟩) ?_ (by simp) _ | refine below_drewN ?_ _ | refine Below.drew ?_ | refine Below.alloc ?_ (by simp) _)
  | true =>
   have HF : Hid (refR s.data.toList = ((4, bx a), b, true)) := hid (by unfold refR; rw [hc]; simp [hn])
   have hn' : nameB (bx a) = true := hn
   clear hn hc
   go_enter Tryz.func203, Tryz.ntmps203
   go_wp2_with fail
   refine (cut_some HC.out _ (hg.alloc _) hs).mono ?_
   rintro e w' ⟨rfl, n, rfl⟩
   go_wp2_with fail
   refine (name_any _ _ hl).mono ?_
   rintro e w' ⟨rfl, rfl⟩
   go_wp2_with fail
   refine bodyPost_ret (v := .tuple #[.agg #[.int .i64 4, .string (bx a)], .string (bx b), .bool true]) (by simp [results, Tryz.results203, go_sem]) rfl ⟨by rw [HF.out]; rfl, ?_⟩
   repeat (first | exact Below.refl _ _ | refine Below.setCell (p := ⟨_, _, _⟩) ?_ (by simp) _ | refine below_drewN ?_ _ | refine Below.drew ?_ | refine Below.alloc ?_ (by simp) _)
theorem drop1 (s : ByteArray) : s.extract 1 s.size = bx (s.data.toList.drop 1) := by
 rw [Lib.extract_eq, bx]
 rw [List.take_of_length_le (by rw [List.length_drop, <- Lib.size_eq]; omega)]
theorem first_any (s : ByteArray) (w : World) (hg : Glob w) (hs : s.size <= 4294967280) :
  Calls Tryz.prog 178 #[.string s] w fun e w' => e = .returned (ret3 (firstR s.data.toList)) /\ Below w.heap.size w w' := by
 cases hs1 : s.data.toList with
 | nil =>
  have h0 : s.size = 0 := by rw [Lib.size_eq, hs1]; rfl
  have HF : Hid (firstR [] = (t0, [], false)) := hid rfl
  obtain rfl : s = ByteArray.empty := by
   obtain ⟨⟨l⟩⟩ := s
   rw [show l = [] from hs1]; rfl
  clear h0 hs1
  go_enter Tryz.func178, Tryz.ntmps178
  go_wp2_with fail
  refine bodyPost_ret (v := .tuple #[.agg #[.int .i64 0, .string (bx [])], .string (bx []), .bool false]) (by simp [results, Tryz.results178, go_sem, bx]) rfl ⟨by rw [HF.out]; rfl, ?_⟩
  repeat (first | exact Below.refl _ _ | refine Below.setCell (p := ⟨_, _, _⟩) ?_ (by simp) _ | refine below_drewN ?_ _ | refine Below.drew ?_ | refine Below.alloc ?_ (by simp) _)
 | cons c r =>
  rw [<- hs1]
  have h0' : 0 < s.size := by rw [Lib.size_eq, hs1]; simp
  have hE := isEmpty_ne h0'
  have hN := toList_ne h0'
  have h0c : s[0] = c := by
   have := getD0 h0'
   rw [hs1] at this
   exact this.symm
  have hr : s.extract 1 s.size = bx r := by rw [drop1, hs1]; rfl
  have HT : Hid (s.extract 1 s.size = bx r) := hid hr
  have hrl : r.length <= 4294967280 := by
   have := Lib.size_eq s
   rw [hs1] at this
   simp at this
   omega
  clear hr
  by_cases h1 : c = 73
  ·subst h1
   have HF : Hid (firstR s.data.toList = ((1, bx []), r, true)) := hid (by rw [hs1, firstR_cons]; rfl)
   have hx : (s[0].toNat : Int) = 73 := by rw [h0c]; rfl
   clear h0c hs1
   go_enter Tryz.func178, Tryz.ntmps178
   go_wp2_with fail
   go_region
   all_goals go_wp2_with fail
   all_goals refine bodyPost_ret (v := .tuple #[.agg #[.int .i64 1, .string (bx [])], .string (bx r), .bool true]) ?_ rfl ⟨by rw [HF.out]; rfl, ?_⟩
   all_goals first | (simp [results, Tryz.results178, go_sem, bx, HT.out]; done) | (repeat (first | exact Below.refl _ _ | refine Below.setCell (p := ⟨_, _, _⟩) ?_ (by simp) _ | refine below_drewN ?_ _ | refine Below.drew ?_ | refine Below.alloc ?_ (by simp) _))
  have n1 : ((s[0].toNat : Int) == 73) = false := by
   rw [beq_eq_false_iff_ne, h0c]
   intro e
   exact h1 (UInt8.toNat_inj.1 (by show c.toNat = 73; omega))
  by_cases h2 : c = 83
  ·subst h2
   have HF : Hid (firstR s.data.toList = ((2, bx []), r, true)) := hid (by rw [hs1, firstR_cons]; rfl)
   have hx : (s[0].toNat : Int) = 83 := by rw [h0c]; rfl
   clear h0c hs1
   go_enter Tryz.func178, Tryz.ntmps178
   go_wp2_with fail
   go_region
   all_goals go_wp2_with fail
   all_goals refine bodyPost_ret (v := .tuple #[.agg #[.int .i64 2, .string (bx [])], .string (bx r), .bool true]) ?_ rfl ⟨by rw [HF.out]; rfl, ?_⟩
   all_goals first | (simp [results, Tryz.results178, go_sem, bx, HT.out]; done) | (repeat (first | exact Below.refl _ _ | refine Below.setCell (p := ⟨_, _, _⟩) ?_ (by simp) _ | refine below_drewN ?_ _ | refine Below.drew ?_ | refine Below.alloc ?_ (by simp) _))
  have n2 : ((s[0].toNat : Int) == 83) = false := by
   rw [beq_eq_false_iff_ne, h0c]
   intro e
   exact h2 (UInt8.toNat_inj.1 (by show c.toNat = 83; omega))
  by_cases h3 : c = 65
  ·subst h3
   have HF : Hid (firstR s.data.toList = ((3, bx []), r, true)) := hid (by rw [hs1, firstR_cons]; rfl)
   have hx : (s[0].toNat : Int) = 65 := by rw [h0c]; rfl
   clear h0c hs1
   go_enter Tryz.func178, Tryz.ntmps178
   go_wp2_with fail
   go_region
   all_goals go_wp2_with fail
   all_goals refine bodyPost_ret (v := .tuple #[.agg #[.int .i64 3, .string (bx [])], .string (bx r), .bool true]) ?_ rfl ⟨by rw [HF.out]; rfl, ?_⟩
   all_goals first | (simp [results, Tryz.results178, go_sem, bx, HT.out]; done) | (repeat (first | exact Below.refl _ _ | refine Below.setCell (p := ⟨_, _, _⟩) ?_ (by simp) _ | refine below_drewN ?_ _ | refine Below.drew ?_ | refine Below.alloc ?_ (by simp) _))
  have n3 : ((s[0].toNat : Int) == 65) = false := by
   rw [beq_eq_false_iff_ne, h0c]
   intro e
   exact h3 (UInt8.toNat_inj.1 (by show c.toNat = 65; omega))
  by_cases h4 : c = 86
  ·subst h4
   have HF : Hid (firstR s.data.toList = ((5, bx []), r, true)) := hid (by rw [hs1, firstR_cons]; rfl)
   have hx : (s[0].toNat : Int) = 86 := by rw [h0c]; rfl
   clear h0c hs1
   go_enter Tryz.func178, Tryz.ntmps178
   go_wp2_with fail
   go_region
   all_goals go_wp2_with fail
   all_goals refine bodyPost_ret (v := .tuple #[.agg #[.int .i64 5, .string (bx [])], .string (bx r), .bool true]) ?_ rfl ⟨by rw [HF.out]; rfl, ?_⟩
   all_goals first | (simp [results, Tryz.results178, go_sem, bx, HT.out]; done) | (repeat (first | exact Below.refl _ _ | refine Below.setCell (p := ⟨_, _, _⟩) ?_ (by simp) _ | refine below_drewN ?_ _ | refine Below.drew ?_ | refine Below.alloc ?_ (by simp) _))
  have n4 : ((s[0].toNat : Int) == 86) = false := by
   rw [beq_eq_false_iff_ne, h0c]
   intro e
   exact h4 (UInt8.toNat_inj.1 (by show c.toNat = 86; omega))
  by_cases h5 : c = 76
  ·subst h5
   have HF : Hid (firstR s.data.toList = refR r) := hid (by rw [hs1, firstR_cons]; rfl)
   have hx : (s[0].toNat : Int) = 76 := by rw [h0c]; rfl
   clear h0c hs1 n1 n2 n3 n4
   go_enter Tryz.func178, Tryz.ntmps178
   go_wp2_with fail
   rw [HT.out]
   refine (ref_any (bx r) _ (hg.alloc _) (by rw [bx_size]; omega)).mono ?_
   rintro e w1 ⟨rfl, hb1⟩
   rw [bx_data]
   obtain ⟨⟨k, c⟩, rest, ok, hR⟩ : ∃ t rest ok, refR r = (t, rest, ok) := ⟨_, _, _, rfl⟩
   rw [hR, show ret3 ((k, c), rest, ok) = Value.tuple #[.agg #[.int .i64 k, .string c], .string (bx rest), .bool ok] from rfl]
   have HR := hid hR
   clear hR
   have hs1 := hb1.size
   simp at hs1
   have hc0 : w1.cell? ⟨w.heap.size, 0, none⟩ = some (.int .i64 0) := (hb1.cell (p := ⟨w.heap.size, 0, none⟩) (by simp)).trans (by simp)
   have hc1 : w1.cell? ⟨w.heap.size, 1, none⟩ = some (.string ⟨#[]⟩) := (hb1.cell (p := ⟨w.heap.size, 1, none⟩) (by simp)).trans (by simp)
   have hf0 : w1.frozen? ⟨w.heap.size, 0, none⟩ = false := (hb1.frozen (p := ⟨w.heap.size, 0, none⟩) (by simp)).trans (by simp)
   have hf1 : w1.frozen? ⟨w.heap.size, 1, none⟩ = false := (hb1.frozen (p := ⟨w.heap.size, 1, none⟩) (by simp)).trans (by simp)
   go_wp2_with fail
   have hb2 : Below w.heap.size w w1 := ((Below.refl _ w).alloc (Nat.le_refl _) _).trans (hb1.mono (by simp))
   refine bodyPost_ret (v := .tuple #[.agg #[.int .i64 k, .string c], .string (bx rest), .bool ok]) (by simp [results, Tryz.results178, go_sem, hc0, hc1]) rfl ⟨by rw [HF.out, HR.out]; rfl, ?_⟩
   repeat (first | exact Below.refl _ _ | assumption | refine Below.setCell (p := ⟨_, _, _⟩) ?_ (by simp) _ | refine below_drewN ?_ _ | refine Below.drew ?_ | refine Below.alloc ?_ (by simp) _)
  ·have n5 : ((s[0].toNat : Int) == 76) = false := by
    rw [beq_eq_false_iff_ne, h0c]
    intro e
    exact h5 (UInt8.toNat_inj.1 (by show c.toNat = 76; omega))
   have HF : Hid (firstR s.data.toList = (t0, [], false)) := hid (by rw [hs1, firstR_cons, if_neg h1, if_neg h2, if_neg h3, if_neg h4, if_neg h5])
   clear h0c hs1
   go_enter Tryz.func178, Tryz.ntmps178
   go_wp2_with fail
   refine bodyPost_ret (v := .tuple #[.agg #[.int .i64 0, .string (bx [])], .string (bx []), .bool false]) (by simp [results, Tryz.results178, go_sem, bx]) rfl ⟨by rw [HF.out]; rfl, ?_⟩
   repeat (first | exact Below.refl _ _ | assumption | refine Below.setCell (p := ⟨_, _, _⟩) ?_ (by simp) _ | refine below_drewN ?_ _ | refine Below.drew ?_ | refine Below.alloc ?_ (by simp) _)
end Go.Proofs.YtijnimjmimeefaaGreat.D
namespace Go.Proofs.YtijnimjmimeefaaGreat.D
open Go.RowKit
theorem box2 {w w1 : World} {a b : Value} {T : TypeId} (hb : Below (w.alloc (.cells #[a, b] T)).heap.size (w.alloc (.cells #[a, b] T)) w1) :
  w.heap.size < w1.heap.size /\ ¬ w.heap.size = w1.heap.size /\ w1.cell? ⟨w.heap.size, 0, none⟩ = some a /\ w1.cell? ⟨w.heap.size, 1, none⟩ = some b /\
   w1.frozen? ⟨w.heap.size, 0, none⟩ = false /\ w1.frozen? ⟨w.heap.size, 1, none⟩ = false /\ Below w.heap.size w w1 := by
 have hs1 := hb.size
 simp at hs1
 exact ⟨by omega, by omega, (hb.cell (p := ⟨w.heap.size, 0, none⟩) (by simp)).trans (by simp), (hb.cell (p := ⟨w.heap.size, 1, none⟩) (by simp)).trans (by simp),
  (hb.frozen (p := ⟨w.heap.size, 0, none⟩) (by simp)).trans (by simp), (hb.frozen (p := ⟨w.heap.size, 1, none⟩) (by simp)).trans (by simp),
  ((Below.refl _ w).alloc (Nat.le_refl _) _).trans (hb.mono (by simp))⟩
theorem one_any (s : ByteArray) (w : World) (hg : Glob w) (hs : s.size <= 4294967280) :
  Calls Tryz.prog 143 #[.string s] w fun e w' => e = .returned (.tuple #[tyv (oneR s.data.toList).1, .bool (oneR s.data.toList).2]) /\ Below w.heap.size w w' := by
 obtain ⟨⟨k, c⟩, rest, ok, hR⟩ : ∃ t rest ok, firstR s.data.toList = (t, rest, ok) := ⟨_, _, _, rfl⟩
 have HR := hid hR
 have HV : Hid (ret3 (firstR s.data.toList) = Value.tuple #[.agg #[.int .i64 k, .string c], .string (bx rest), .bool ok]) := hid (by rw [hR]; rfl)
 clear hR
 cases ok with
 | false =>
  have HF : Hid (oneR s.data.toList = (t0, false)) := hid (by unfold oneR; rw [HR.out]; rfl)
  go_enter Tryz.func143, Tryz.ntmps143
  go_wp2_with fail
  refine (first_any s _ (hg.alloc _) hs).mono ?_
  rintro e w1 ⟨rfl, hb1⟩
  rw [HV.out]
  obtain ⟨hlt1, hne1, hc0, hc1, hf0, hf1, hb2⟩ := box2 hb1
  clear hb1
  go_wp2_with fail
  refine bodyPost_ret (v := .tuple #[.agg #[.int .i64 0, .string (bx [])], .bool false]) (by simp [*, results, Tryz.results143, go_sem, bx]) rfl ⟨by rw [HF.out]; rfl, ?_⟩
  repeat (first | exact Below.refl _ _ | assumption | refine Below.setCell (p := ⟨_, _, _⟩) ?_ (by first | (simp; done) | (simp; omega) | omega) _ | refine below_drewN ?_ _ | refine Below.drew ?_ | refine Below.alloc ?_ (by first | (simp; done) | (simp; omega) | omega) _)
 | true =>
  cases rest with
  | nil =>
   have HF : Hid (oneR s.data.toList = ((k, c), true)) := hid (by unfold oneR; rw [HR.out]; rfl)
   have HB : Hid (bx [] = ⟨#[]⟩) := hid rfl
   go_enter Tryz.func143, Tryz.ntmps143
   go_wp2_with fail
   refine (first_any s _ (hg.alloc _) hs).mono ?_
   rintro e w1 ⟨rfl, hb1⟩
   rw [HV.out, HB.out]
   obtain ⟨hlt1, hne1, hc0, hc1, hf0, hf1, hb2⟩ := box2 hb1
   clear hb1
   go_wp2_with fail
   refine bodyPost_ret (v := .tuple #[.agg #[.int .i64 k, .string c], .bool true]) (by simp [*, results, Tryz.results143, go_sem]) rfl ⟨by rw [HF.out]; rfl, ?_⟩
   repeat (first | exact Below.refl _ _ | assumption | refine Below.setCell (p := ⟨_, _, _⟩) ?_ (by first | (simp; done) | (simp; omega) | omega) _ | refine below_drewN ?_ _ | refine Below.drew ?_ | refine Below.alloc ?_ (by first | (simp; done) | (simp; omega) | omega) _)
  | cons d rest =>
   have HF : Hid (oneR s.data.toList = (t0, false)) := hid (by unfold oneR; rw [HR.out]; rfl)
   have hp : 0 < (bx (d :: rest)).size := by rw [bx_size]; simp
   have hE := isEmpty_ne hp
   have hN := toList_ne hp
   go_enter Tryz.func143, Tryz.ntmps143
   go_wp2_with fail
   refine (first_any s _ (hg.alloc _) hs).mono ?_
   rintro e w1 ⟨rfl, hb1⟩
   rw [HV.out]
   obtain ⟨hlt1, hne1, hc0, hc1, hf0, hf1, hb2⟩ := box2 hb1
   clear hb1
   go_wp2_with fail
   refine bodyPost_ret (v := .tuple #[.agg #[.int .i64 0, .string (bx [])], .bool false]) (by simp [*, results, Tryz.results143, go_sem, bx]) rfl ⟨by rw [HF.out]; rfl, ?_⟩
   repeat (first | exact Below.refl _ _ | assumption | refine Below.setCell (p := ⟨_, _, _⟩) ?_ (by first | (simp; done) | (simp; omega) | omega) _ | refine below_drewN ?_ _ | refine Below.drew ?_ | refine Below.alloc ?_ (by first | (simp; done) | (simp; omega) | omega) _)
end Go.Proofs.YtijnimjmimeefaaGreat.D
namespace Go.Proofs.YtijnimjmimeefaaGreat.D
open Go.RowKit
def RdT (w : World) (v : Value) (ts : List Ty) : Prop :=
 ∃ (p : Option Addr) (cap : Nat), v = .slice p ts.length cap /\ (∀ a, p = some a -> ts ≠ [] -> a.spot = none) /\ (p = none -> ts = []) /\
  ∀ a, p = some a -> ∀ (i : Nat) t, ts[i]? = some t -> w.cell? ⟨a.block, a.off + i * 2, none⟩ = some (.int .i64 t.1) /\ w.cell? ⟨a.block, a.off + i * 2 + 1, none⟩ = some (.string t.2)
theorem RdT.below {B : Nat} {w w' : World} {v : Value} {ts : List Ty} (h : RdT w v ts) (hb : Below B w w') (hB : w.heap.size <= B) : RdT w' v ts := by
 obtain ⟨p, cap, rfl, h1, h2, h3⟩ := h
 refine ⟨p, cap, rfl, h1, h2, fun a ha i t ht => ?_⟩
 obtain ⟨c0, c1⟩ := h3 a ha i t ht
 have hlt := World.block_lt_of_cell? _ _ c0
 simp only at hlt
 exact ⟨by rw [hb.cell (p := ⟨a.block, a.off + i * 2, none⟩) (by simp only; omega)]; exact c0, by rw [hb.cell (p := ⟨a.block, a.off + i * 2 + 1, none⟩) (by simp only; omega)]; exact c1⟩
def tyCells (ts : List Ty) : List Value := ts.flatMap fun t => [.int .i64 t.1, .string t.2]
theorem tyCells_app (a b : List Ty) : tyCells (a ++ b) = tyCells a ++ tyCells b := List.flatMap_append ..
theorem tyCells_get : ∀ (ts : List Ty) (i : Nat) (t : Ty), ts[i]? = some t -> (tyCells ts)[i * 2]? = some (.int .i64 t.1) /\ (tyCells ts)[i * 2 + 1]? = some (.string t.2)
 | [], i, t, h => by simp at h
 | u :: ts, 0, t, h => by
  simp only [List.getElem?_cons_zero, Option.some.injEq] at h
  subst h
  exact ⟨rfl, rfl⟩
 | u :: ts, i + 1, t, h => by
  have := tyCells_get ts i t (by simpa using h)
  rw [show (i + 1) * 2 = i * 2 + 1 + 1 from by omega]
  exact this
def OwnT (w : World) (B : Nat) (v : Value) (ts : List Ty) : Prop := w.ownsRow B 55 2 v ts.length (tyCells ts)
theorem tyInfo : (Tryz.prog.info? 55).map (fun i => (i.zero, i.size, i.bytes)) = some (some (.agg #[.int .i64 0, .string ⟨#[]⟩]), 2, 24) := by kernel_rfl
theorem add0 (g i : Nat) : (⟨g, 0, none⟩ : Addr).add i = ⟨g, 0 + i, none⟩ := by unfold Addr.add; split <;> simp_all
theorem OwnT.rd {w : World} {B : Nat} {v : Value} {ts : List Ty} (h : OwnT w B v ts) : RdT w v ts := by
 have hh := h
 rcases h.2 with ⟨rfl, hn⟩ | ⟨g, cap, cur, rfl, hb, hg, h1, h2, h3, h4⟩
 ·have : ts = [] := List.eq_nil_of_length_eq_zero hn
  subst this
  exact ⟨none, 0, rfl, (fun a ha => by cases ha), fun _ => rfl, fun a ha => by cases ha⟩
 ·refine ⟨some ⟨g, 0, none⟩, cap, rfl, (fun a ha _ => by cases ha; rfl), (fun h => by cases h), fun a ha i t ht => ?_⟩
  cases ha
  obtain ⟨g0, g1⟩ := tyCells_get ts i t ht
  have k0 := World.ownsRow.cells hh (g := g) rfl (i * 2) _ g0
  have k1 := World.ownsRow.cells hh (g := g) rfl (i * 2 + 1) _ g1
  rw [add0] at k0 k1
  simp only [Nat.zero_add] at k0 k1 ⊢
  exact ⟨k0, k1⟩
theorem OwnT.lt {w : World} {B : Nat} {v : Value} {ts : List Ty} (h : OwnT w B v ts) {g : Nat} (hg : v.ownBlock = some g) : B <= g /\ g < w.heap.size := World.ownsRow.lt h g hg
theorem OwnT.nil (w : World) (B : Nat) : OwnT w B (.slice none 0 0) [] := ⟨by simp [tyCells], .inl ⟨rfl, rfl⟩⟩
theorem OwnT.below {w w' : World} {B C : Nat} {v : Value} {ts : List Ty} (h : OwnT w B v ts) (hb : Below C w w') (hC : w.heap.size <= C) : OwnT w' B v ts := by
 have hh := h
 refine ⟨h.1, ?_⟩
 rcases h.2 with h' | ⟨g, cap, cur, e, hB, hg, r⟩
 ·exact .inl h'
 ·refine .inr ⟨g, cap, cur, e, hB, ?_, r⟩
  rw [hb.block g (Nat.lt_of_lt_of_le (hh.lt (by rw [e]; rfl)).2 hC)]
  exact hg
theorem toList_inj {a b : ByteArray} (h : a.toList = b.toList) : a = b := by
 rw [Lib.toList_data, Lib.toList_data] at h
 obtain ⟨⟨a⟩⟩ := a
 obtain ⟨⟨b⟩⟩ := b
 rw [show a = b from h]
def sameB (ts us : List Ty) : Bool := decide (ts = us)
theorem sameB_get {ts us : List Ty} (hl : ts.length = us.length) (h : ∀ i : Nat, i < ts.length -> ts[i]? = us[i]?) : sameB ts us = true := by
 unfold sameB
 rw [decide_eq_true_eq]
 refine List.ext_getElem? fun i => ?_
 by_cases hi : i < ts.length
 ·exact h i hi
 ·rw [List.getElem?_eq_none (by omega), List.getElem?_eq_none (by omega)]
theorem sameB_ne {ts us : List Ty} {k : Nat} (h : ¬ ts[k]? = us[k]?) : sameB ts us = false := by
 unfold sameB
 rw [decide_eq_false_iff_not]
 intro e
 exact h (by rw [e])
theorem sameB_len {ts us : List Ty} (h : ¬ ts.length = us.length) : sameB ts us = false := by
 unfold sameB
 rw [decide_eq_false_iff_not]
 intro e
 exact h (by rw [e])
theorem same_any (va vb : Value) (ts us : List Ty) (w : World) (ha : RdT w va ts) (hb : RdT w vb us) (hlen : ts.length <= 1000000) (hlen2 : us.length <= 1000000) :
  Calls Tryz.prog 131 #[va, vb] w fun e w' => e = .returned (.bool (sameB ts us)) /\ Below w.heap.size w w' := by
 obtain ⟨p, cap, rfl, h1, h2, h3⟩ := id ha
 obtain ⟨q, dap, rfl, k1, k2, k3⟩ := id hb
 clear ha hb
 by_cases hl : ts.length = us.length
 ·have HL := hid hl
  have hnn : (((ts.length : Nat) : Int) != (us.length : Nat)) = false := by rw [bne_eq_false_iff_eq]; omega
  by_cases h0 : ts.length = 0
  ·have e1 : ts = [] := List.eq_nil_of_length_eq_zero h0
   have e2 : us = [] := List.eq_nil_of_length_eq_zero (by omega)
   subst e1 e2
   clear hl hnn h0
   go_enter Tryz.func131, Tryz.ntmps131
   go_wp2_with fail
   go_loop [14] (fun i => i = .int .i64 0) (fun _ => 0)
   case atStart => exact rfl
   case round =>
    obtain rfl := hrel
    go_wp2_with fail
    go_ret
    exact ⟨rfl, Below.refl _ _⟩
  have hne1 : ts ≠ [] := fun e => h0 (by rw [e]; rfl)
  have hne2 : us ≠ [] := fun e => h0 (by rw [hl, e]; rfl)
  obtain ⟨⟨b, off, spot⟩, rfl⟩ : ∃ a, p = some a := by
   cases p with
   | none => exact absurd (h2 rfl) hne1
   | some a => exact ⟨a, rfl⟩
  obtain ⟨⟨c, ofc, spoc⟩, rfl⟩ : ∃ a, q = some a := by
   cases q with
   | none => exact absurd (k2 rfl) hne2
   | some a => exact ⟨a, rfl⟩
  obtain rfl : spot = none := h1 _ rfl hne1
  obtain rfl : spoc = none := k1 _ rfl hne2
  have H3 := hid (h3 _ rfl)
  have K3 := hid (k3 _ rfl)
  have hl1 : ts.length <= us.length := by omega
  have hl2 : us.length <= ts.length := by omega
  clear h3 k3 h1 h2 k1 k2 hne1 hne2 hl h0
  go_enter Tryz.func131, Tryz.ntmps131
  go_wp2_with fail
  go_loopw [14] (fun i wr => ∃ k : Nat, k <= ts.length /\ i = .int .i64 k /\ (∀ j : Nat, j < k -> ts[j]? = us[j]?) /\ Below w.heap.size w wr) (fun i _ => ts.length - (intOf i).toNat)
  case atStart => exact ⟨0, Nat.zero_le _, rfl, fun j h => absurd h (Nat.not_lt_zero _), Below.refl _ _⟩
  case round =>
   obtain ⟨k, hk, rfl, hr, hbl⟩ := hrel
   have HR := hid hr
   clear hr
   have hs := hbl.size
   by_cases hlt : k < ts.length
   ·obtain ⟨⟨x0, x1⟩, hx⟩ : ∃ t, ts[k]? = some t := ⟨_, List.getElem?_eq_getElem hlt⟩
    obtain ⟨⟨y0, y1⟩, hy⟩ : ∃ t, us[k]? = some t := ⟨_, List.getElem?_eq_getElem (by omega)⟩
    obtain ⟨cx0, cx1⟩ := H3.out k _ hx
    obtain ⟨cy0, cy1⟩ := K3.out k _ hy
    simp only at cx0 cx1 cy0 cy1
    have gx := World.block_lt_of_cell? _ _ cx0
    have gy := World.block_lt_of_cell? _ _ cy0
    simp only at gx gy
    rw [<- hbl.cell (p := ⟨_, _, _⟩) gx] at cx0 cx1
    rw [<- hbl.cell (p := ⟨_, _, _⟩) gy] at cy0 cy1
    have gy1 : c < wr.heap.size := by omega
    have gy2 : ¬ c = wr.heap.size := by omega
    have HX := hid hx
    have HY := hid hy
    clear hx hy
    by_cases e : x0 = y0
    ·subst e
     by_cases e : x1 = y1
     ·subst e
      have HS : Hid (∀ j : Nat, j < k + 1 -> ts[j]? = us[j]?) := hid (by
       intro j hj
       by_cases e : j = k
       ·subst e; rw [HX.out, HY.out]
       ·exact HR.out j (by omega))
      go_wp2_with fail
      go_quiet (fail)
      go_wp2_with fail
      go_roundw
      case rel => exact ⟨k + 1, by omega, by go_num, HS.out, by repeat (first | assumption | refine below_drewN ?_ _ | refine Below.drew ?_ | refine Below.alloc ?_ (by omega) _)⟩
      case measure => simp [intOf]; omega
     ·have HF : Hid (sameB ts us = false) := hid (sameB_ne (k := k) (by rw [HX.out, HY.out]; intro h; simp only [Option.some.injEq, Prod.mk.injEq] at h; exact e h.2))
      have e1 : ¬ x1.toList = y1.toList := fun h => e (toList_inj h)
      have e2 : (x1.toList == y1.toList) = false := by rw [beq_eq_false_iff_ne]; exact e1
      clear e
      go_wp2_with fail
      go_quiet (fail)
      go_wp2_with fail
      go_ret
      refine ⟨ret_bool HF.out.symm, ?_⟩
      repeat (first | assumption | refine below_drewN ?_ _ | refine Below.drew ?_ | refine Below.alloc ?_ (by omega) _)
    ·have HF : Hid (sameB ts us = false) := hid (sameB_ne (k := k) (by rw [HX.out, HY.out]; intro h; simp only [Option.some.injEq, Prod.mk.injEq] at h; exact e h.1))
     have e2 : (x0 == y0) = false := by rw [beq_eq_false_iff_ne]; exact e
     go_wp2_with fail
     go_quiet (fail)
     go_wp2_with fail
     go_ret
     refine ⟨ret_bool HF.out.symm, ?_⟩
     repeat (first | assumption | refine below_drewN ?_ _ | refine Below.drew ?_ | refine Below.alloc ?_ (by omega) _)
   ·go_wp2_with fail
    go_ret
    exact ⟨ret_bool (sameB_get HL.out (fun i hi => HR.out i (by omega))).symm, hbl⟩
 ·have hnn : (((ts.length : Nat) : Int) != (us.length : Nat)) = true := by rw [bne_iff_ne]; omega
  have HF := hid (sameB_len hl)
  clear hl h1 h2 h3 k1 k2 k3
  go_enter Tryz.func131, Tryz.ntmps131
  go_wp2_with fail
  go_ret
  exact ⟨ret_bool HF.out.symm, Below.refl _ _⟩
end Go.Proofs.YtijnimjmimeefaaGreat.D
