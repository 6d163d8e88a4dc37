/- Texts that the proof is made of, joined. No condition. -/
import Derived.Test.YtdjciahaohfohaaRows
import Derived.WalkKit
import Derived.WalkSpells
import Derived.WalkLawsBesides
import Derived.Lib.Hide
import Derived.Lib.AppendStr
import Derived.Laws.AppendOwnNone
import Derived.Laws.BitsAllLaws
import Derived.Deep.QuietTactic
import Derived.BigQuiet
import Derived.OpenShut
import Derived.SliceStrings
import Derived.Lib.Strings
import Derived.Test.YtdjciahaohfohaaProg
import Derived.Maps.OwnSet
import Derived.StringKeys
import Derived.Maps.AppendAt
import Derived.Deep.SlicePairs
import Derived.Laws.Bits128
import Derived.Outline
import Derived.Below
import Derived.Lib.IndexMore
import Derived.RegionTactic
import Derived.ChangeAlike
import Derived.Deep.RegionHeld3
import Derived.OrdersHeld
set_option linter.unusedVariables false
set_option linter.unusedSimpArgs false
set_option maxRecDepth 100000
set_option maxHeartbeats 16000000
namespace Go.Proofs.Ytdjciahaohfohaa
open Go.RowKit
def nb (v : Nat) : List UInt8 :=
  if v < 128 then [UInt8.ofNat v] else UInt8.ofNat (v % 128 + 128) :: nb (v / 128)
termination_by v
decreasing_by omega
def cnt (z : Int) : Nat := z.toNat
def u8 (x : UInt8) : Value := .int .u8 (x.toNat : Int)
theorem u8_ofNat {n : Nat} (h : n < 256) : u8 (UInt8.ofNat n) = .int .u8 (n : Int) := by
  simp [u8, Nat.mod_eq_of_lt h]
def Rd (w : World) (v : Value) (l : List UInt8) : Prop :=
  ∃ (p : Option Addr) (cap : Nat), v = .slice p l.length cap ∧ l.length ≤ cap ∧ (p = none → cap = 0) ∧
    ∀ a, p = some a → ∀ (i : Nat) x, l[i]? = some x → w.cell? (a.add i) = some (u8 x)
def Own (w : World) (B : Nat) (v : Value) (l : List UInt8) : Prop := w.ownsRow B 5 1 v l.length (l.map u8)
theorem add_block (a : Addr) (i : Nat) : (a.add i).block = a.block := by unfold Addr.add; split <;> rfl
theorem Rd.below {B : Nat} {w w' : World} {v : Value} {l : List UInt8} (h : Rd w v l) (hb : Below B w w') (hv : l = [] ∨ ∀ g, v.ownBlock = some g → g < B) : Rd w' v l := by
  obtain ⟨p, cap, rfl, h1, h2, h3⟩ := h
  rcases hv with rfl | hv
  · exact ⟨p, cap, rfl, h1, h2, fun a ha i x hx => by simp at hx⟩
  refine ⟨p, cap, rfl, h1, h2, fun a ha i x hx => ?_⟩
  have hlt := hv a.block (by rw [ha]; rfl)
  rw [hb.cell (p := a.add i) (by rw [add_block]; exact hlt)]
  exact h3 a ha i x hx
theorem Own.mono {w : World} {B B' : Nat} {v : Value} {l : List UInt8} (h : Own w B v l) (hB : B' ≤ B) : Own w B' v l := by
  refine ⟨h.1, ?_⟩
  rcases h.2 with h' | ⟨g, cap, cur, e, hb, r⟩
  · exact .inl h'
  · exact .inr ⟨g, cap, cur, e, Nat.le_trans hB hb, r⟩
end Go.Proofs.Ytdjciahaohfohaa
namespace Go.Proofs.Ytdjciahaohfohaa
open Go.RowKit
def sb (s : ByteArray) : List UInt8 := s.data.toList
end Go.Proofs.Ytdjciahaohfohaa
namespace Go.Proofs.Ytdjciahaohfohaa
open Go.RowKit
def twoN (n : Int) : Nat := min (cnt n) 65535
def two (n : Int) : List UInt8 := [UInt8.ofNat (twoN n % 256), UInt8.ofNat (twoN n / 256)]
end Go.Proofs.Ytdjciahaohfohaa
namespace Go.Proofs.Ytdjciahaohfohaa
open Go.RowKit
def Byte (w : World) (g : Nat) (bs : List UInt8) (i n : Nat) : Prop := ∃ c : UInt8, n = c.toNat ∧ bs[i]? = some c ∧ w.cell? ⟨g, i, none⟩ = some (.int .u8 (n : Int))
theorem Byte.cell {w : World} {g : Nat} {bs : List UInt8} {i n : Nat} (h : Byte w g bs i n) : w.cell? ⟨g, i, none⟩ = some (.int .u8 (n : Int)) := by
  obtain ⟨_, _, _, h⟩ := h
  exact h
end Go.Proofs.Ytdjciahaohfohaa
namespace Go.Proofs.Ytdjciahaohfohaa
open Go.RowKit
theorem grown_set (w : World) (rb j : Nat) (u : Value) : w.grownBy (w.setCell ⟨rb, j, none⟩ u) (some rb) :=
  ⟨rfl, rfl, rfl, by simp, fun k _ hk => heap_setCell_other w ⟨rb, j, none⟩ k u (fun e => hk (by simp [e]))⟩
theorem grown_drewN (w : World) (n : Nat) (r : Option Nat) : w.grownBy (w.drewN n) r := ⟨rfl, rfl, rfl, Nat.le_refl _, fun _ _ _ => rfl⟩
end Go.Proofs.Ytdjciahaohfohaa
namespace Go.Proofs.Ytdjciahaohfohaa
open Go.RowKit
theorem rd_nil (w : World) : Rd w (.slice none 0 0) [] := ⟨none, 0, rfl, Nat.le_refl _, fun _ => rfl, fun a ha => by cases ha⟩
def kb : List UInt8 := [172, 2, 3, 2, 97, 98, 1, 2, 128]
end Go.Proofs.Ytdjciahaohfohaa
namespace Go.Proofs.Ytdjciahaohfohaa
open Go.RowKit
def IsRow (k : IntKind) (w : World) (a : Option Addr) (len cap : Nat) (zs : List Int) : Prop :=
  (a = none ∧ len = 0 ∧ cap = 0 ∧ zs = []) ∨
  ∃ x, a = some x ∧ len ≤ cap ∧ cap ≤ maxLen ∧ zs.length = cap ∧ (∀ i, i < zs.length → w.cell? (x.add i) = some (.int k (zs.getD i 0))) ∧ ∀ n ∈ zs, (Lit.int k n).wf = true
theorem add_add (x : Addr) (i : Nat) (h : x.spot = none) : x.add i = ⟨x.block, x.off + i, none⟩ := by
  obtain ⟨b, o, s⟩ := x
  simp only at h
  subst h
  unfold Addr.add
  split <;> simp_all
theorem wf_u8 {n : Int} (h : (Lit.int .u8 n).wf = true) : 0 ≤ n ∧ n ≤ 255 := bounds_u8 h
theorem rd_of_row {w : World} {a : Option Addr} {len cap : Nat} {zs : List Int} (h : IsRow .u8 w a len cap zs) : ∃ l : List UInt8, l.length = len ∧ Rd w (.slice a len cap) l := by
  rcases h with ⟨rfl, rfl, rfl, rfl⟩ | ⟨x, rfl, hl, hm, hz, hc, hw⟩
  · exact ⟨[], rfl, none, 0, rfl, Nat.le_refl _, fun _ => rfl, fun a ha => by cases ha⟩
  · have hlen : ((zs.take len).map fun z => UInt8.ofNat z.toNat).length = len := by rw [List.length_map, List.length_take]; omega
    refine ⟨(zs.take len).map fun z => UInt8.ofNat z.toNat, hlen, some x, cap, by rw [hlen], by rw [hlen]; exact hl, (fun h => by cases h), fun a ha i y hy => ?_⟩
    cases ha
    rw [List.getElem?_map, Option.map_eq_some_iff] at hy
    obtain ⟨z, hz1, rfl⟩ := hy
    have hi : i < len := by
      have := (List.getElem?_eq_some_iff.1 hz1).1
      rw [List.length_take] at this
      omega
    rw [List.getElem?_take_of_lt hi] at hz1
    have hb := wf_u8 (hw z (List.mem_of_getElem? hz1))
    rw [hc i (by omega), List.getD_eq_getElem?_getD, hz1]
    rw [u8_ofNat (by omega)]
    show some (Value.int .u8 z) = _
    rw [Int.toNat_of_nonneg hb.1]
theorem row_lt {k : IntKind} {w : World} {a : Option Addr} {len cap : Nat} {zs : List Int} (h : IsRow k w a len cap zs) (hc : 0 < cap) : ∀ g, (Value.slice a len cap).ownBlock = some g → g < w.heap.size := by
  rcases h with ⟨rfl, rfl, rfl, rfl⟩ | ⟨x, rfl, hl, hm, hz, hcell, hw⟩
  · omega
  · intro g hg
    simp only [Value.ownBlock, Option.some.injEq] at hg
    subst hg
    have := World.block_lt_of_cell? _ _ (hcell 0 (by omega))
    rwa [add_block] at this
theorem live_of_row {k : IntKind} {w : World} {a : Option Addr} {len cap : Nat} {zs : List Int} {α : Type} {l : List α} (h : IsRow k w a len cap zs) (hl : l.length = len) : l = [] ∨ ∀ g, (Value.slice a len cap).ownBlock = some g → g < w.heap.size := by
  by_cases hc : 0 < cap
  · exact .inr (row_lt h hc)
  · have hcl : len ≤ cap := by
      rcases h with ⟨rfl, rfl, rfl, rfl⟩ | ⟨x, rfl, h1, _⟩
      · omega
      · exact h1
    exact .inl (List.eq_nil_of_length_eq_zero (by omega))
end Go.Proofs.Ytdjciahaohfohaa
namespace Go.Proofs.Ytdjciahaohfohaa
open Go.RowKit Go.Maps
def Kpt (S : List Nat) (w w' : World) : Prop := Below 0 w w' ∧ ∀ g, g < w.heap.size → g ∉ S → w'.heap[g]? = w.heap[g]?
theorem Kpt.size {S : List Nat} {w w' : World} (h : Kpt S w w') : w.heap.size ≤ w'.heap.size := h.1.size
theorem Kpt.refl (S : List Nat) (w : World) : Kpt S w w := ⟨Below.refl _ _, fun _ _ _ => rfl⟩
theorem Kpt.trans {S S' : List Nat} {a b c : World} (h : Kpt S a b) (k : Kpt S' b c) (hs : ∀ x ∈ S', x ∈ S ∨ a.heap.size ≤ x) : Kpt S a c :=
  ⟨h.1.trans k.1, fun g hg hn => (k.2 g (Nat.lt_of_lt_of_le hg h.size) (fun hx => by
    rcases hs g hx with h1 | h1
    · exact hn h1
    · omega)).trans (h.2 g hg hn)⟩
theorem Kpt.mono {S S' : List Nat} {a b : World} (h : Kpt S a b) (hs : ∀ x ∈ S, x < a.heap.size → x ∈ S') : Kpt S' a b :=
  ⟨h.1, fun g hg hn => h.2 g hg (fun hx => hn (hs g hx hg))⟩
theorem Kpt.of_below {S : List Nat} {w w' : World} (h : Below w.heap.size w w') : Kpt S w w' := ⟨h.mono (Nat.zero_le _), fun g hg _ => h.block g hg⟩
theorem Kpt.of_grown {S : List Nat} {w w' : World} {r : Option Nat} (h : w.grownBy w' r) (hr : ∀ g, r = some g → g ∈ S ∨ w.heap.size ≤ g) : Kpt S w w' :=
  ⟨⟨h.os, h.tape, h.output, h.size, fun k hk => absurd hk (Nat.not_lt_zero k)⟩, fun g hg hn => h.block g hg (fun e => by
    rcases hr g e.symm with h1 | h1
    · exact hn h1
    · omega)⟩
theorem Kpt.alloc (S : List Nat) (w : World) (o : Obj) : Kpt S w (w.alloc o) := .of_grown (World.grownBy_alloc w o none) (fun g h => by cases h)
theorem Kpt.drewN (S : List Nat) (w : World) (n : Nat) : Kpt S w (w.drewN n) := .of_grown (grown_drewN w n none) (fun g h => by cases h)
theorem Kpt.drew {S : List Nat} {a w : World} (h : Kpt S a w) : Kpt S a w.drew := ⟨h.1.drew, h.2⟩
theorem Kpt.set (S : List Nat) (w : World) (b j : Nat) (u : Value) (h : b ∈ S) : Kpt S w (w.setCell ⟨b, j, none⟩ u) := .of_grown (grown_set w b j u) (fun g e => by cases e; exact .inl h)
theorem Kpt.below {S : List Nat} {w w' : World} {B : Nat} (h : Kpt S w w') (hS : ∀ x ∈ S, B ≤ x) (hB : B ≤ w.heap.size) : Below B w w' :=
  ⟨h.1.os, h.1.tape, h.1.output, h.1.size, fun k hk => h.2 k (Nat.lt_of_lt_of_le hk hB) (fun hx => by have := hS k hx; omega)⟩
theorem row_kpt {w w' : World} {B n sz : Nat} {e : TypeId} {v : Value} {xs : List Value} {S : List Nat} (h : w.ownsRow B e sz v n xs) (hk : Kpt S w w') (hS : ∀ g, v.ownBlock = some g → g ∉ S) : w'.ownsRow B e sz v n xs := by
  refine ⟨h.1, ?_⟩
  rcases h.2 with hn | ⟨g, cap, cur, rfl, hb, hgg, rest⟩
  · exact .inl hn
  · refine .inr ⟨g, cap, cur, rfl, hb, ?_, rest⟩
    rw [hk.2 g (Array.getElem?_eq_some_iff.1 hgg).1 (hS g rfl)]
    exact hgg
theorem Rd.kpt {w w' : World} {v : Value} {l : List UInt8} {S : List Nat} (h : Rd w v l) (hk : Kpt S w w') (hv : l = [] ∨ ∀ g, v.ownBlock = some g → g < w.heap.size ∧ g ∉ S) : Rd w' v l := by
  obtain ⟨p, cap, rfl, h1, h2, h3⟩ := h
  refine ⟨p, cap, rfl, h1, h2, fun a ha i x hx => ?_⟩
  rcases hv with rfl | hv
  · simp at hx
  · have := hv a.block (by rw [ha]; rfl)
    have hb := hk.2 a.block this.1 this.2
    rw [World.cell?_of_block (w := w) (a := a.add i) (by rw [add_block]; exact hb)]
    exact h3 a ha i x hx
def OwnS (w : World) (B : Nat) (v : Value) (L : List ByteArray) : Prop := w.ownsRow B 9 1 v L.length (L.map Value.string)
theorem OwnS.form {w : World} {B : Nat} {v : Value} {L : List ByteArray} (h : OwnS w B v L) : ∃ a c, v = .slice a L.length c ∧ L.length ≤ c ∧ c ≤ maxLen ∧ (0 < L.length → ∃ g, a = some ⟨g, 0, none⟩ ∧ ∀ i (hi : i < L.length), w.cell? ⟨g, i, none⟩ = some (.string L[i])) := by
  have hh := h
  rcases h.2 with ⟨rfl, hn⟩ | ⟨g, cap, cur, rfl, _, _, h1, h2, _⟩
  · exact ⟨none, 0, by rw [hn], by omega, by unfold maxLen; omega, fun h0 => by omega⟩
  · refine ⟨_, cap, rfl, h1, h2, fun _ => ⟨g, rfl, fun i hi => ?_⟩⟩
    have := World.ownsRow.cells hh (g := g) rfl i (.string L[i]) (by simp [hi])
    rw [add_add _ i rfl, Nat.zero_add] at this
    exact this
theorem OwnS.slice {w : World} {B : Nat} {v : Value} {L : List ByteArray} (h : OwnS w B v L) : ∃ a n c, v = .slice a n c := by
  obtain ⟨a, c, h, _⟩ := h.form
  exact ⟨a, _, c, h⟩
def pos (L : List ByteArray) (s : ByteArray) : Nat := L.findIdx (fun t => decide (t = s))
instance memDec (s : ByteArray) (L : List ByteArray) : Decidable (s ∈ L) := decidable_of_iff (L.any (fun t => decide (t = s)) = true) (by simp)
theorem pos_lt {L : List ByteArray} {s : ByteArray} (h : s ∈ L) : pos L s < L.length := List.findIdx_lt_length_of_exists ⟨s, h, by simp⟩
theorem pos_not {L : List ByteArray} {s : ByteArray} (h : s ∉ L) : pos L s = L.length := by
  unfold pos
  rw [List.findIdx_eq_length]
  intro x hx
  simp only [decide_eq_false_iff_not]
  rintro rfl
  exact h hx
theorem pos_app {L : List ByteArray} {s : ByteArray} (M : List ByteArray) (h : s ∈ L) : pos (L ++ M) s = pos L s := by
  have h1 := pos_lt h
  unfold pos at h1 ⊢
  rw [List.findIdx_append, if_pos h1]
theorem pos_new {L : List ByteArray} {s : ByteArray} (h : s ∉ L) : pos (L ++ [s]) s = L.length := by
  unfold pos
  rw [List.findIdx_append, if_neg (by have := pos_not h; unfold pos at this; omega)]
  simp [List.findIdx_cons]
theorem txt_inj {a b : ByteArray} (h : a.toList = b.toList) : a = b := by
  rw [Lib.toList_data, Lib.toList_data] at h
  obtain ⟨⟨a⟩⟩ := a
  obtain ⟨⟨b⟩⟩ := b
  rw [show a = b from h]
theorem txt_ne {a b : ByteArray} (h : a ≠ b) : (a.toList == b.toList) = false := by rw [beq_eq_false_iff_ne]; exact fun e => h (txt_inj e)
theorem txt_eq {a b : ByteArray} (h : a = b) : (a.toList == b.toList) = true := by rw [h]; simp
def kS (s : ByteArray) : Lit := .string s.data.toList
theorem kS_inj {a b : ByteArray} (h : kS a = kS b) : a = b := by
  unfold kS at h
  simp only [Lit.string.injEq] at h
  obtain ⟨a⟩ := a
  obtain ⟨b⟩ := b
  simp only at h
  rw [Array.toList_inj.1 h]
theorem kS_key (s : ByteArray) : WideAt.IsKeyLit (kS s) := by unfold kS WideAt.IsKeyLit; trivial
def NumD (D : DataW Unit) (L : List ByteArray) : Prop :=
  ∀ s : ByteArray, Maps.has D (kS s) = decide (s ∈ L) ∧ D.atKey (kS s) (.lit (.int .i64 0)) = .lit (.int .i64 ((if s ∈ L then pos L s else 0 : Nat) : Int))
theorem NumD.nil : NumD (.map []) [] := fun _ => ⟨rfl, rfl⟩
theorem NumD.put {D : DataW Unit} {L : List ByteArray} (h : NumD D L) (hD : IsMap D) {s : ByteArray} (hs : s ∉ L) : NumD (D.put (kS s) (.lit (.int .i64 (L.length : Int)))) (L ++ [s]) := by
  intro t
  by_cases e : t = s
  · subst e
    rw [has_put_same hD (kS_key t), atKey_put_same hD (kS_key t), pos_new hs]
    simp
  · have hne : kS t ≠ kS s := fun h => e (kS_inj h)
    obtain ⟨h1, h2⟩ := h t
    rw [has_put_other hne, atKey_put_other hne, h1, h2]
    by_cases ht : t ∈ L
    · rw [pos_app _ ht]
      simp [ht]
    · simp [ht, e]
theorem lawS : Keyed Try.prog 9 := string_keyed Try.underlying9
theorem zeroI (w : World) : (zeroValue 3).run Try.prog w = .ok (.int .i64 0) w := by kernel_rfl
def Mp (w : World) (b : Nat) (n : Nat) (L : List ByteArray) : Prop := ∃ D : DataW Unit, w.ownsMap Try.prog 9 (plainElem Try.prog 3) b n D ∧ NumD D L
theorem Mp.made (w : World) : Mp (w.alloc (.map #[] 0)) w.heap.size 0 [] := ⟨_, World.ownsMap_made _ _ _ _, NumD.nil⟩
theorem Mp.mono {w : World} {b n m : Nat} {L : List ByteArray} (h : Mp w b n L) (hm : n ≤ m) : Mp w b m L := by
  obtain ⟨D, h1, h2⟩ := h
  exact ⟨D, h1.mono hm, h2⟩
theorem Mp.map {w : World} {b n : Nat} {L : List ByteArray} (h : Mp w b n L) : ∃ es c, w.heap[b]? = some (.map es c) := by
  obtain ⟨D, ⟨es, c, hb, _⟩, _⟩ := h
  exact ⟨es, c, hb⟩
theorem Mp.kpt {w w' : World} {b n : Nat} {L : List ByteArray} {S : List Nat} (h : Mp w b n L) (hk : Kpt S w w') (hS : b ∉ S) : Mp w' b n L := by
  obtain ⟨D, ⟨es, c, hb, hr⟩, h2⟩ := h
  refine ⟨D, ⟨es, c, ?_, hr⟩, h2⟩
  rw [hk.2 b (Array.getElem?_eq_some_iff.1 hb).1 hS]
  exact hb
theorem wp_look {w : World} {ops : Array Oper} {rest : List Oper} {o : Oper} {a : Act} {Q : Exit → Act → World → Prop} (hg : o.guard = none) (m x : Operand) (hop : o.op = Op.lookup 74 m x true)
    (b n : Nat) (L : List ByteArray) (hm : a.eval m = .map (some b)) (h : Mp w b n L) (s : ByteArray) (hs : s.size ≤ maxLen) (hx : a.eval x = .string s) (ok : Bool) (hok : decide (s ∈ L) = ok) (p : Nat) (hp : (if s ∈ L then pos L s else 0) = p)
    (hK : wpList Try.prog ops Q rest (a.put o.dst (.tuple #[.int .i64 p, .bool ok])) w) :
    wpList Try.prog ops Q (o :: rest) a w := by
  obtain ⟨D, h1, h2⟩ := h
  refine wpList_lookup_own_ok_int w hg m x _ hop 9 3 .i64 lawS Try.underlying74 Try.underlying3 (zeroI w) b n D hm h1 _ (kS s) hx (WideMaps.keyOf_string_mk Try.underlying9 hs) ?_
  intro c hat _
  obtain ⟨e1, e2⟩ := h2 s
  rw [e2] at hat
  simp only [DataW.lit.injEq, Lit.int.injEq, true_and] at hat
  rw [e1, hok, ← hat, hp]
  exact hK
theorem wp_store {w : World} {ops : Array Oper} {rest : List Oper} {o : Oper} {a : Act} {Q : Exit → Act → World → Prop} (hg : o.guard = none) (m x v : Operand) (hop : o.op = Op.mapUpdate 74 m x v)
    (b : Nat) (L : List ByteArray) (hm : a.eval m = .map (some b)) (h : Mp w b L.length L) (s : ByteArray) (hs : s.size ≤ maxLen) (hx : a.eval x = .string s) (hv : a.eval v = .int .i64 (L.length : Int)) (hn : s ∉ L) (hl : L.length ≤ 100000000)
    (hK : ∀ w', Mp w' b (L ++ [s]).length (L ++ [s]) → w.grownBy w' (some b) → wpList Try.prog ops Q rest (a.put o.dst undef) w') :
    wpList Try.prog ops Q (o :: rest) a w := by
  obtain ⟨D, h1, h2⟩ := h
  have hwf : (Lit.int .i64 (L.length : Int)).wf = true := WalkArith.wf_i64 (by omega)
  refine wpList_mapUpdate_own w hg m x v _ hop 9 3 lawS Try.underlying74 (plainElem Try.prog 3) b L.length D hm h1 (by unfold maxLen; omega) _ _ (kS s) hx hv (WideMaps.keyOf_string_mk Try.underlying9 hs) (.lit (.int .i64 (L.length : Int))) [] (plainElem_int Try.underlying3 hwf) ?_
  intro w' hown hg
  refine hK w' ⟨_, ?_, h2.put h1.isMap hn⟩ hg
  rw [List.length_append]
  exact hown
end Go.Proofs.Ytdjciahaohfohaa
namespace Go.Proofs.Ytdjciahaohfohaa
open Go.RowKit Go.Maps
def tb (s : ByteArray) : List UInt8 := nb s.size ++ sb s
end Go.Proofs.Ytdjciahaohfohaa
namespace Go.Proofs.Ytdjciahaohfohaa.D
open Go.RowKit
def letB (c : Int) : Bool := decide ((97 ≤ c ∧ c ≤ 122) ∨ (65 ≤ c ∧ c ≤ 90))
def digB (c : Int) : Bool := decide (48 ≤ c ∧ c ≤ 57)
theorem ret_bool {a b : Bool} (h : a = b) : Ending.returned (.bool a) = .returned (.bool b) := by rw [h]
end Go.Proofs.Ytdjciahaohfohaa.D
namespace Go.Proofs.Ytdjciahaohfohaa.D
open Go.RowKit
def midB (c : Int) : Bool := letB c || digB c || decide (c = 95)
def nameL (l : List UInt8) : Bool :=
  decide (0 < l.length) && decide (l.length ≤ 64) && letB ((l.getD 0 0).toNat : Int) && l.all fun c => midB (c.toNat : Int)
def nameB (s : ByteArray) : Bool := nameL s.data.toList
end Go.Proofs.Ytdjciahaohfohaa.D
namespace Go.Proofs.Ytdjciahaohfohaa.D
open Go.RowKit
def rightB (k : Int) (c : ByteArray) : Bool := if k = 4 then nameB c else decide (1 ≤ k ∧ k ≤ 5) && decide (c.size = 0)
def typeT (k : Int) (c : ByteArray) : ByteArray :=
  if k = 1 then ⟨#[73]⟩ else if k = 2 then ⟨#[83]⟩ else if k = 3 then ⟨#[65]⟩ else if k = 5 then ⟨#[86]⟩ else if k = 4 then (⟨#[76]⟩ ++ c) ++ ⟨#[59]⟩ else ⟨#[]⟩
end Go.Proofs.Ytdjciahaohfohaa.D
namespace Go.Proofs.Ytdjciahaohfohaa.D
open Go.RowKit
abbrev Ty := Int × ByteArray
def tyv (t : Ty) : Value := .agg #[.int .i64 t.1, .string t.2]
def bx (l : List UInt8) : ByteArray := ⟨l.toArray⟩
def t0 : Ty := (0, ⟨#[]⟩)
theorem data_app (a b : ByteArray) : (a ++ b).data.toList = a.data.toList ++ b.data.toList := by simp
def cutAt : List UInt8 → Option (List UInt8 × List UInt8)
  | [] => none
  | c :: r => if c = 59 then some ([], r) else (cutAt r).map fun p => (c :: p.1, p.2)
def refR (r : List UInt8) : Ty × List UInt8 × Bool :=
  match cutAt r with
  | some (a, b) => if nameL a then ((4, bx a), b, true) else (t0, [], false)
  | none => (t0, [], false)
def firstR : List UInt8 → Ty × List UInt8 × Bool
  | [] => (t0, [], false)
  | c :: r =>
    if c = 73 then ((1, bx []), r, true) else if c = 83 then ((2, bx []), r, true) else if c = 65 then ((3, bx []), r, true)
    else if c = 86 then ((5, bx []), r, true) else if c = 76 then refR r else (t0, [], false)
def typeL (t : Ty) : List UInt8 := (typeT t.1 t.2).data.toList
def oneR (s : List UInt8) : Ty × Bool := if (firstR s).2.2 && (firstR s).2.1.isEmpty then ((firstR s).1, true) else (t0, false)
def listR : Nat → List Ty → List UInt8 → List Ty × List UInt8 × Bool
  | 0, _, _ => ([], [], false)
  | n + 1, ps, s =>
    if Lib.hasPrefix s [41] then (ps, s.drop 1, true)
    else if (firstR s).2.2 = false ∨ (firstR s).1.1 = 5 ∨ ps.length = 8 then ([], [], false)
    else listR n (ps ++ [(firstR s).1]) (firstR s).2.1
def parseR (s : List UInt8) : List Ty × Ty × Bool :=
  if Lib.hasPrefix s [40] then
    (if (listR s.length [] (s.drop 1)).2.2 && (oneR (listR s.length [] (s.drop 1)).2.1).2 then ((listR s.length [] (s.drop 1)).1, (oneR (listR s.length [] (s.drop 1)).2.1).1, true) else ([], t0, false))
  else ([], t0, false)
def ofL (ps : List Ty) (r : Ty) : List UInt8 := 40 :: (ps.flatMap typeL ++ 41 :: typeL r)
end Go.Proofs.Ytdjciahaohfohaa.D
namespace Go.Proofs.Ytdjciahaohfohaa.D
open Go.RowKit
theorem below_drewN {B : Nat} {a w : World} (h : Below B a w) (n : Nat) : Below B a (w.drewN n) := ⟨h.os, h.tape, h.output, h.size, h.block⟩
end Go.Proofs.Ytdjciahaohfohaa.D
namespace Go.Proofs.Ytdjciahaohfohaa.D
open Go.RowKit
def RdT (w : World) (v : Value) (ts : List Ty) : Prop :=
  ∃ (p : Option Addr) (cap : Nat), v = .slice p ts.length cap ∧ (∀ a, p = some a → ts ≠ [] → a.spot = none) ∧ (p = none → ts = []) ∧
    ∀ a, p = some a → ∀ (i : Nat) t, ts[i]? = some t → w.cell? ⟨a.block, a.off + i * 2, none⟩ = some (.int .i64 t.1) ∧ w.cell? ⟨a.block, a.off + i * 2 + 1, none⟩ = some (.string t.2)
def tyCells (ts : List Ty) : List Value := ts.flatMap fun t => [.int .i64 t.1, .string t.2]
def OwnT (w : World) (B : Nat) (v : Value) (ts : List Ty) : Prop := w.ownsRow B 24 2 v ts.length (tyCells ts)
theorem add0 (g i : Nat) : (⟨g, 0, none⟩ : Addr).add i = ⟨g, 0 + i, none⟩ := by unfold Addr.add; split <;> simp_all
end Go.Proofs.Ytdjciahaohfohaa.D
namespace Go.Proofs.Ytdjciahaohfohaa.D
open Go.RowKit
theorem OwnT.setCell {w : World} {B : Nat} {v : Value} {ts : List Ty} (h : OwnT w B v ts) {a : Addr} (ha : a.block < B) (u : Value) : OwnT (w.setCell a u) B v ts := ownsRow_setCell_below h ha u
theorem OwnT.drew {w : World} {B : Nat} {v : Value} {ts : List Ty} (h : OwnT w B v ts) : OwnT w.drew B v ts := h
theorem OwnT.drewN {w : World} {B : Nat} {v : Value} {ts : List Ty} (h : OwnT w B v ts) (n : Nat) : OwnT (w.drewN n) B v ts := h
theorem OwnT.mono {w : World} {B C : Nat} {v : Value} {ts : List Ty} (h : OwnT w B v ts) (hC : C ≤ B) : OwnT w C v ts := by
  refine ⟨h.1, ?_⟩
  rcases h.2 with h' | ⟨g, cap, cur, e, hB, r⟩
  · exact .inl h'
  · exact .inr ⟨g, cap, cur, e, Nat.le_trans hC hB, r⟩
end Go.Proofs.Ytdjciahaohfohaa.D
namespace Go.Proofs.Ytdjciahaohfohaa.O
open Go.Proofs.Ytdjciahaohfohaa.D
open Go.RowKit
abbrev Ins : Type := Int × Int × Int × ByteArray × ByteArray × ByteArray × ByteArray
def insV (x : Ins) : Value := .agg #[.int .i64 x.1, .int .i32 x.2.1, .int .i64 x.2.2.1, .string x.2.2.2.1, .string x.2.2.2.2.1, .string x.2.2.2.2.2.1, .string x.2.2.2.2.2.2]
end Go.Proofs.Ytdjciahaohfohaa.O
namespace Go.Proofs.Ytdjciahaohfohaa.D
open Go.RowKit
theorem RdT.drew {w : World} {v : Value} {ts : List Ty} (h : RdT w v ts) : RdT w.drew v ts := h
theorem typeL_len (t : Ty) : (typeL t).length ≤ t.2.size + 2 := by
  unfold typeL typeT
  split
  · show 1 ≤ _; omega
  split
  · show 1 ≤ _; omega
  split
  · show 1 ≤ _; omega
  split
  · show 1 ≤ _; omega
  split
  · rw [data_app, data_app, List.length_append, List.length_append, Lib.size_eq]
    show 1 + _ + 1 ≤ _
    omega
  · show 0 ≤ _; omega
theorem flat_len (ts : List Ty) (m : Nat) (h : ∀ u ∈ ts, u.2.size ≤ m) : (ts.flatMap typeL).length ≤ ts.length * (m + 2) := by
  induction ts with
  | nil => simp
  | cons t ts ih =>
    have h1 := ih (fun u hu => h u (List.mem_cons_of_mem _ hu))
    have h2 := typeL_len t
    have h3 := h t (List.mem_cons_self ..)
    rw [List.flatMap_cons, List.length_append, List.length_cons, Nat.add_mul]
    omega
end Go.Proofs.Ytdjciahaohfohaa.D
namespace Go.Proofs.Ytdjciahaohfohaa.A
open Go.RowKit Go.Proofs.Ytdjciahaohfohaa.D Go.Proofs.Ytdjciahaohfohaa.O
abbrev Fld : Type := ByteArray × Ty × Bool
abbrev Hnd : Type := Int × Int × Int × ByteArray
structure Mth where
  name : ByteArray
  params : List Ty
  ret : Ty
  st : Bool
  ab : Bool
  locals : Int
  code : List Ins
  hs : List Hnd
structure Cls where
  name : ByteArray
  super : ByteArray
  ifaces : List ByteArray
  kind : Int
  fields : List Fld
  methods : List Mth
abbrev Arch : Type := List Cls
instance tyDec : DecidableEq Ty := inferInstanceAs (DecidableEq (Int × ByteArray))
instance b4Dec : DecidableEq (ByteArray × ByteArray × ByteArray × ByteArray) := inferInstance
instance insDec : DecidableEq Ins := @instDecidableEqProd _ _ inferInstance (@instDecidableEqProd _ _ inferInstance (@instDecidableEqProd _ _ inferInstance b4Dec))
instance hndDec : DecidableEq Hnd := inferInstanceAs (DecidableEq (Int × Int × Int × ByteArray))
instance fldDec : DecidableEq Fld := inferInstanceAs (DecidableEq (ByteArray × Ty × Bool))
theorem Mth.eq_iff (a b : Mth) : (a.name = b.name ∧ a.params = b.params ∧ a.ret = b.ret ∧ a.st = b.st ∧ a.ab = b.ab ∧ a.locals = b.locals ∧ a.code = b.code ∧ a.hs = b.hs) ↔ a = b := by
  cases a; cases b; simp
instance : DecidableEq Mth := fun a b => decidable_of_iff (a.name = b.name ∧ a.params = b.params ∧ a.ret = b.ret ∧ a.st = b.st ∧ a.ab = b.ab ∧ a.locals = b.locals ∧ a.code = b.code ∧ a.hs = b.hs) (Mth.eq_iff a b)
theorem Cls.eq_iff (a b : Cls) : (a.name = b.name ∧ a.super = b.super ∧ a.ifaces = b.ifaces ∧ a.kind = b.kind ∧ a.fields = b.fields ∧ a.methods = b.methods) ↔ a = b := by
  cases a; cases b; simp
instance : DecidableEq Cls := fun a b => decidable_of_iff (a.name = b.name ∧ a.super = b.super ∧ a.ifaces = b.ifaces ∧ a.kind = b.kind ∧ a.fields = b.fields ∧ a.methods = b.methods) (Cls.eq_iff a b)
abbrev WS : Type := List ByteArray × List UInt8
abbrev Ps (α : Type) : Type := List UInt8 → Except Nat (α × List UInt8)
def pb {α β : Type} (p : Ps α) (q : α → Ps β) : Ps β := fun l => match p l with | .ok (x, r) => q x r | .error e => .error e
def pr {α : Type} (x : α) : Ps α := fun l => .ok (x, l)
def es : ByteArray := ⟨#[]⟩
abbrev St : Type := Except Nat (List UInt8)
def Wr {α : Type} (f : WS → WS) (p : List ByteArray → Ps α) (x : α) : Prop :=
  ∀ st : WS, ∃ M bs, f st = (st.1 ++ M, st.2 ++ bs) ∧ ∀ N r, (st.1 ++ M ++ N).length ≤ 65536 → p (st.1 ++ M ++ N) (bs ++ r) = .ok (x, r)
theorem Wr.pr {α : Type} (x : α) : Wr (fun st => st) (fun _ => pr x) x := fun st => ⟨[], [], by simp, fun N r _ => rfl⟩
theorem Wr.pb {α β : Type} {f g F : WS → WS} {p : List ByteArray → Ps α} {q : List ByteArray → α → Ps β} {x : α} {y : β} (h1 : Wr f p x) (h2 : Wr g (fun L => q L x) y) (hF : ∀ st, F st = g (f st)) : Wr F (fun L => A.pb (p L) (q L)) y := by
  intro st
  obtain ⟨M1, b1, e1, r1⟩ := h1 st
  obtain ⟨M2, b2, e2, r2⟩ := h2 (f st)
  refine ⟨M1 ++ M2, b1 ++ b2, by rw [hF, e2, e1]; simp, fun N r hN => ?_⟩
  rw [e1] at r2
  simp only at r2
  have hL : st.1 ++ (M1 ++ M2) ++ N = st.1 ++ M1 ++ (M2 ++ N) := by simp
  have hL2 : st.1 ++ (M1 ++ M2) ++ N = st.1 ++ M1 ++ M2 ++ N := by simp
  show A.pb (p (st.1 ++ (M1 ++ M2) ++ N)) (q (st.1 ++ (M1 ++ M2) ++ N)) (b1 ++ b2 ++ r) = _
  unfold A.pb
  rw [List.append_assoc b1 b2 r, hL, r1 (M2 ++ N) (b2 ++ r) (by rw [← hL]; exact hN), ← hL, hL2]
  exact r2 N r (by rw [← hL2]; exact hN)
theorem Wr.map {α β : Type} {f : WS → WS} {p : List ByteArray → Ps α} {x : α} (g : α → β) (h : Wr f p x) : Wr f (fun L => A.pb (p L) fun v => A.pr (g v)) (g x) :=
  Wr.pb (q := fun _ v => A.pr (g v)) h (Wr.pr (g x)) (fun _ => rfl)
end Go.Proofs.Ytdjciahaohfohaa.A
namespace Go.Proofs.Ytdjciahaohfohaa.D
open Go.RowKit
def kb : ByteArray := ⟨#[40, 73, 76, 65, 59, 41, 86]⟩
def kts : List Ty := [(1, ⟨#[]⟩), (4, ⟨#[65]⟩)]
theorem k1 : parseR kb.data.toList = (kts, (5, ⟨#[]⟩), true) := by kernel_rfl
theorem k2 : parseR (⟨#[40, 86, 41, 86]⟩ : ByteArray).data.toList = ([], t0, false) := by kernel_rfl
theorem k3 : oneR (⟨#[83]⟩ : ByteArray).data.toList = ((2, ⟨#[]⟩), true) := by kernel_rfl
theorem k4 : nameB ⟨#[97, 95, 49]⟩ = true := by kernel_rfl
theorem k5 : nameB ⟨#[49, 97]⟩ = false := by kernel_rfl
theorem k6 : rightB 2 ⟨#[]⟩ = true := by kernel_rfl
theorem k7 : typeT 4 ⟨#[65]⟩ = ⟨#[76, 65, 59]⟩ := by kernel_rfl
theorem k8 : bx (ofL kts (5, ⟨#[]⟩)) = kb := by kernel_rfl
end Go.Proofs.Ytdjciahaohfohaa.D
namespace Go.Proofs.Ytdjciahaohfohaa.A
open Go.RowKit Go.Proofs.Ytdjciahaohfohaa.D Go.Proofs.Ytdjciahaohfohaa.O
def okI (x : Ins) : Prop := -2147483648 ≤ x.2.1 ∧ x.2.1 ≤ 2147483647
def wfM (m : Mth) : Prop := ∀ x ∈ m.code, okI x
end Go.Proofs.Ytdjciahaohfohaa.A
namespace Go.Proofs.Ytdjciahaohfohaa.A
open Go.RowKit Go.Proofs.Ytdjciahaohfohaa.D Go.Proofs.Ytdjciahaohfohaa.O
def Ext (f : WS → WS) (n : Nat) : Prop := ∀ st : WS, ∃ M bs, f st = (st.1 ++ M, st.2 ++ bs) ∧ M.length ≤ n ∧ bs.length ≤ 30 * n ∧ ∀ s ∈ M, s.size ≤ 1000
theorem Ext.id : Ext (fun st => st) 0 := fun st => ⟨[], [], by simp, by simp, by simp, by simp⟩
theorem Ext.comp {f g F : WS → WS} {a b n : Nat} (h1 : Ext f a) (h2 : Ext g b) (hF : ∀ st, F st = g (f st)) (hn : a + b ≤ n) : Ext F n := by
  intro st
  obtain ⟨M1, b1, e1, l1, m1, s1⟩ := h1 st
  obtain ⟨M2, b2, e2, l2, m2, s2⟩ := h2 (f st)
  refine ⟨M1 ++ M2, b1 ++ b2, by rw [hF, e2, e1]; simp, by rw [List.length_append]; omega, by rw [List.length_append]; omega, fun s hs => ?_⟩
  rcases List.mem_append.1 hs with h | h
  · exact s1 s h
  · exact s2 s h
theorem Ext.mono {f : WS → WS} {a n : Nat} (h : Ext f a) (hn : a ≤ n) : Ext f n := Ext.comp h Ext.id (fun _ => rfl) hn
end Go.Proofs.Ytdjciahaohfohaa.A
namespace Go.Proofs.Ytdjciahaohfohaa.A
open Go.RowKit Go.Proofs.Ytdjciahaohfohaa.D Go.Proofs.Ytdjciahaohfohaa.O
def iOne (o : Int) : Ins := (o, 0, 0, es, es, es, es)
def iNum (n : Int) : Ins := (1, n, 0, es, es, es, es)
def iStr (s : ByteArray) : Ins := (2, 0, 0, s, es, es, es)
def iAt (o k : Int) : Ins := (o, 0, k, es, es, es, es)
def iOf (o : Int) (c : ByteArray) : Ins := (o, 0, 0, es, c, es, es)
def iPart (o : Int) (c m : ByteArray) : Ins := (o, 0, 0, es, c, m, es)
def iCall (o : Int) (c m d : ByteArray) : Ins := (o, 0, 0, es, c, m, d)
abbrev BS : Type := List Ins × List Hnd
def bAdd (l : List Ins) (st : BS) : BS := (st.1 ++ l, st.2)
def bTry (f : Nat) (c s : ByteArray) (st : BS) : BS :=
  (st.1 ++ [iAt 19 ((st.1.length : Int) + 4)] ++ [iOne 6, iStr s, iOne 41], st.2 ++ [((f : Int), (st.1.length : Int), (st.1.length : Int) + 1, c)])
def bSet (i : Nat) (f : Ins → Ins) (st : BS) : BS := (st.1.modify i f, st.2)
def selI (n m : Int) (l : List Int) : Int := l.getD (n % m).toNat 0
def selT (n m : Int) (l : List ByteArray) : ByteArray := l.getD (n % m).toNat es
def wordT (n : Int) : ByteArray := selT n 5 [⟨#[97]⟩, ⟨#[98, 99]⟩, ⟨#[]⟩, ⟨#[120, 32, 121]⟩, ⟨#[48]⟩]
def classT (n : Int) : ByteArray := selT n 4 [⟨#[65]⟩, ⟨#[66]⟩, ⟨#[67]⟩, ⟨#[68]⟩]
def snip (k : Nat) (n : Int) (st : BS) : BS :=
  match k with
  | 0 => bAdd [iAt 4 0, iOne 18, iOne 41] st
  | 1 => bAdd [iAt 4 0, iNum (n - 100), iOne 8, iAt 5 0] st
  | 2 => bAdd [iOne 42, iAt 5 0] st
  | 3 => bAdd [iAt 4 1, iStr (wordT n), iOne 16, iAt 5 1] st
  | 4 => bAdd [iAt 4 1, iOne 41] st
  | 5 => bAdd [iAt 4 2, iNum (n % 5 - 1), iAt 4 0, iOne 24] st
  | 6 => bAdd [iAt 4 2, iNum (n % 4), iOne 23, iAt 5 0] st
  | 7 => bTry st.1.length (selT (n / 4) 2 [⟨#[90, 101, 114, 111, 70, 97, 117, 108, 116]⟩, ⟨#[70, 97, 117, 108, 116]⟩]) ⟨#[122, 101, 114, 111]⟩ (bAdd [iAt 4 0, iNum (n % 7 - 3), iOne (selI n 4 [10, 11, 12, 9]), iAt 5 0] st)
  | 8 => bAdd [iAt 4 0, iNum (n % 9), iOne (selI n 2 [14, 15]), iAt 5 0] st
  | 9 => bAdd [iAt 4 0, iOne 13, iAt 5 0] st
  | 10 => bAdd [iAt 4 1, iOne 17, iAt 5 0] st
  | 11 => bTry st.1.length ⟨#[83, 105, 122, 101, 70, 97, 117, 108, 116]⟩ ⟨#[115, 105, 122, 101]⟩ (bAdd [iNum (n % 6 - 1), iOne 21, iAt 5 2] st)
  | 12 => bAdd [iAt 4 2, iOne 22, iAt 5 0] st
  | 13 => bAdd [iAt 4 0, iAt 20 ((st.1.length : Int) + 4), iStr (wordT n), iOne 41] st
  | 14 => bAdd [iAt 19 ((st.1.length : Int) + 2)] (bSet (st.1.length + 3) (fun x => (x.1, x.2.1, (st.1.length : Int) + 11, x.2.2.2)) (bAdd [iAt 4 5, iAt 20 ((st.1.length : Int) + 10), iStr ⟨#[46]⟩, iOne 41, iAt 4 5, iNum 1, iOne 9, iAt 5 5] (bAdd [iNum (n % 4), iAt 5 5] st)))
  | 15 => bAdd [iStr (wordT n), iOne 7, iOne 16, iOne 41] st
  | 16 => bAdd [iOf 25 (classT n), iAt 5 3] st
  | 17 => bAdd [iOf 25 (classT n), iAt 5 3] st
  | 18 => bAdd [iOne 3, iAt 5 3] st
  | 19 => bAdd [iAt 4 3, iCall 34 ⟨#[66, 97, 115, 101]⟩ ⟨#[114, 117, 110]⟩ ⟨#[40, 41, 73]⟩, iAt 5 0] st
  | 20 => bAdd [iAt 4 3, iOf 30 ⟨#[73]⟩, iAt 5 4] st
  | 21 => bTry st.1.length ⟨#[78, 117, 108, 108, 70, 97, 117, 108, 116]⟩ ⟨#[110, 117, 108, 108]⟩ (bAdd [iAt 4 4, iCall 35 ⟨#[73]⟩ ⟨#[114, 117, 110]⟩ ⟨#[40, 41, 73]⟩, iAt 5 0] st)
  | 22 => bAdd [iAt 4 3, iCall 34 ⟨#[66, 97, 115, 101]⟩ ⟨#[110, 97, 109, 101]⟩ ⟨#[40, 41, 83]⟩, iOne 41] st
  | 23 => bAdd [iAt 4 3, iAt 4 0, iPart 27 ⟨#[66, 97, 115, 101]⟩ ⟨#[120]⟩] st
  | 24 => bAdd [iAt 4 3, iPart 26 ⟨#[66, 97, 115, 101]⟩ ⟨#[120]⟩, iAt 5 0] st
  | 25 => bAdd [iAt 4 3, iNum n, iPart 27 ⟨#[66, 97, 115, 101]⟩ ⟨#[119]⟩] st
  | 26 => bAdd [iPart 28 ⟨#[65]⟩ ⟨#[99, 111, 117, 110, 116]⟩, iNum 1, iOne 8, iPart 29 ⟨#[65]⟩ ⟨#[99, 111, 117, 110, 116]⟩] st
  | 27 => bAdd [iAt 4 0, iPart 29 (selT n 2 [⟨#[85, 116, 105, 108]⟩, ⟨#[68]⟩]) ⟨#[119, 97, 115, 116, 101]⟩] st
  | 28 => bAdd [iAt 4 0, iCall 36 ⟨#[85, 116, 105, 108]⟩ (selT n 4 [⟨#[105, 110, 99]⟩, ⟨#[116, 119, 105, 99, 101]⟩, ⟨#[119, 111, 114, 107]⟩, ⟨#[100, 111, 119, 110]⟩]) ⟨#[40, 73, 41, 73]⟩, iAt 5 0] st
  | 29 => bAdd [iAt 4 3, iCall 36 ⟨#[85, 116, 105, 108]⟩ ⟨#[115, 97, 109, 101]⟩ ⟨#[40, 76, 66, 97, 115, 101, 59, 41, 76, 66, 97, 115, 101, 59]⟩, iAt 5 3] st
  | 30 => bTry st.1.length (selT n 4 [⟨#[69, 114, 114]⟩, ⟨#[69, 114, 114, 50]⟩, ⟨#[70, 97, 117, 108, 116]⟩, ⟨#[78, 117, 108, 108, 70, 97, 117, 108, 116]⟩]) ⟨#[101, 114, 114]⟩ (bAdd [iCall 36 ⟨#[85, 116, 105, 108]⟩ ⟨#[102, 97, 105, 108]⟩ ⟨#[40, 41, 86]⟩] st)
  | 31 => bAdd [iAt 4 3, iAt 4 3, iPart 27 ⟨#[66, 97, 115, 101]⟩ ⟨#[110, 101, 120, 116]⟩, iAt 4 3, iPart 26 ⟨#[66, 97, 115, 101]⟩ ⟨#[110, 101, 120, 116]⟩, iAt 5 3] st
  | 32 => bAdd [iAt 4 3, iOf 31 (selT n 6 [⟨#[66]⟩, ⟨#[77, 105, 100]⟩, ⟨#[73]⟩, ⟨#[66, 97, 115, 101]⟩, ⟨#[79, 98, 106, 101, 99, 116]⟩, ⟨#[67]⟩]), iAt 5 0] st
  | 33 => bTry st.1.length (selT (n / 4) 2 [⟨#[67, 97, 115, 116, 70, 97, 117, 108, 116]⟩, ⟨#[70, 97, 117, 108, 116]⟩]) ⟨#[99, 97, 115, 116]⟩ (bAdd [iAt 4 3, iOf 30 (selT n 4 [⟨#[66]⟩, ⟨#[77, 105, 100]⟩, ⟨#[65]⟩, ⟨#[68]⟩]), iAt 5 3] st)
  | 34 => bAdd [iAt 4 3, iAt 4 3, iPart 26 ⟨#[66, 97, 115, 101]⟩ ⟨#[110, 101, 120, 116]⟩, iOne 32, iAt 5 0] st
  | 35 => bTry st.1.length ⟨#[78, 117, 108, 108, 70, 97, 117, 108, 116]⟩ ⟨#[99, 104, 101, 99, 107]⟩ (bAdd [iAt 4 3, iOne 33] st)
  | 36 => bAdd [iOf 25 ⟨#[67]⟩, iOne 7, iNum n, iPart 27 ⟨#[77, 105, 100]⟩ ⟨#[109]⟩, iCall 34 ⟨#[67]⟩ ⟨#[101, 120, 116, 114, 97]⟩ ⟨#[40, 41, 73]⟩, iAt 5 0] st
  | 37 => bSet st.1.length (fun _ => iAt 4 4) (bAdd [iAt 4 3, iCall 36 ⟨#[85, 116, 105, 108]⟩ ⟨#[112, 97, 115, 115]⟩ ⟨#[40, 76, 73, 59, 41, 76, 73, 59]⟩, iAt 5 4] st)
  | 38 => bTry st.1.length (selT n 2 [⟨#[69, 114, 114]⟩, ⟨#[70, 97, 117, 108, 116]⟩]) ⟨#[116, 104, 114, 111, 119, 110]⟩ (bAdd [iOf 25 (selT n 3 [⟨#[69, 114, 114]⟩, ⟨#[69, 114, 114, 50]⟩, ⟨#[66, 111, 117, 110, 100, 115, 70, 97, 117, 108, 116]⟩]), iOne 38] st)
  | _ => bAdd [iCall 36 ⟨#[85, 116, 105, 108]⟩ ⟨#[115, 104, 111, 119]⟩ ⟨#[40, 41, 86]⟩] st
def roundS (a b : Nat) (st : BS) : BS :=
  if a = 255 then bAdd [iNum b, iOne 43] (snip (a % 40) b st) else snip (a % 40) b st
def roundsS : Nat → List Nat → BS → BS
  | m + 1, a :: b :: l, st => roundsS m l (roundS a b st)
  | _, _, st => st
def bodyS (l : List Nat) : BS :=
  bAdd [iOne 40] (roundsS 20 l ([iNum 1, iAt 5 0, iStr ⟨#[115]⟩, iAt 5 1, iNum 3, iOne 21, iAt 5 2, iOf 25 ⟨#[65]⟩, iAt 5 3, iOne 3, iAt 5 4], []))
def tI : Ty := (1, es)
def tS : Ty := (2, es)
def tV : Ty := (5, es)
def tR (s : ByteArray) : Ty := (4, s)
def mthS (name : ByteArray) (ps : List Ty) (r : Ty) (st : Bool) (lo : Int) (code : List Ins) : Mth := ⟨name, ps, r, st, false, lo, code, []⟩
def absS : Mth := ⟨⟨#[114, 117, 110]⟩, [], tI, false, true, 0, [], []⟩
def clinitS (s : ByteArray) : Mth := mthS ⟨#[99, 108, 105, 110, 105, 116]⟩ [] tV true 0 [iStr s, iOne 41, iOne 40]
def runS (c : ByteArray) (n : Nat) : Mth :=
  mthS ⟨#[114, 117, 110]⟩ [] tI false 1 ((if n / 5 % 4 = 1 then [iStr c, iOne 41] else if n / 5 % 4 = 2 then [iAt 4 0, iNum 9, iPart 27 ⟨#[66, 97, 115, 101]⟩ ⟨#[119]⟩, iAt 4 0, iNum n, iPart 27 ⟨#[66, 97, 115, 101]⟩ ⟨#[120]⟩] else []) ++
    [iAt 4 0, iPart 26 ⟨#[66, 97, 115, 101]⟩ ⟨#[120]⟩, iNum ((n % 5 : Nat) : Int), iOne 8, iOne 39])
def utilS (k : Nat) : Cls :=
  ⟨⟨#[85, 116, 105, 108]⟩, ⟨#[79, 98, 106, 101, 99, 116]⟩, [], 1, [(⟨#[119, 97, 115, 116, 101]⟩, tI, true)],
    [mthS ⟨#[105, 110, 99]⟩ [tI] tI true 1 [iAt 4 0, iNum 1, iOne 8, iOne 39],
     mthS ⟨#[116, 119, 105, 99, 101]⟩ [tI] tI true 3 [iAt 4 0, iAt 5 2, iAt 4 2, iAt 4 2, iOne 8, iOne 39],
     mthS ⟨#[119, 111, 114, 107]⟩ [tI] tI true 1 [iAt 4 0, iAt 20 4, iNum 7, iOne 39, iNum 3, iOne 39],
     mthS ⟨#[100, 111, 119, 110]⟩ [tI] tI true 1 [iAt 4 0, iNum 1, iOne 14, iAt 20 6, iNum 0, iOne 39, iAt 4 0, iNum 50, iOne 9, iCall 36 ⟨#[85, 116, 105, 108]⟩ ⟨#[100, 111, 119, 110]⟩ ⟨#[40, 73, 41, 73]⟩, iNum 1, iOne 8, iOne 39],
     mthS ⟨#[115, 97, 109, 101]⟩ [tR ⟨#[66, 97, 115, 101]⟩] (tR ⟨#[66, 97, 115, 101]⟩) true 1 [iAt 4 0, iOne 39],
     mthS ⟨#[112, 97, 115, 115]⟩ [tR ⟨#[73]⟩] (tR ⟨#[73]⟩) true 1 [iAt 4 0, iOne 39],
     mthS ⟨#[102, 97, 105, 108]⟩ [] tV true 0 [iOf 25 ⟨#[69, 114, 114, 50]⟩, iOne 38],
     mthS ⟨#[115, 104, 111, 119]⟩ [] tV true 0 (if k % 2 = 1 then [iNum 5, iStr ⟨#[108, 101, 102, 116]⟩, iOne 41, iOne 40] else [iStr ⟨#[115, 104, 111, 119]⟩, iOne 41, iOne 40]),
     mthS ⟨#[100, 101, 97, 100]⟩ [tI] tI true 1 [iAt 4 0, iCall 36 ⟨#[71, 111, 110, 101]⟩ ⟨#[102]⟩ ⟨#[40, 73, 41, 73]⟩, iOne 39]] ++ (if k / 2 % 2 = 1 then [clinitS ⟨#[117, 116, 105, 108]⟩] else [])⟩
def whenS {α : Type} (b : Bool) (l : List α) : List α := if b then l else []
def bitS (k i : Nat) : Bool := decide (k / 2 ^ i % 2 = 1)
def familyS (k0 k1 k2 k3 : Nat) : List Cls :=
  [⟨⟨#[66, 97, 115, 101]⟩, ⟨#[79, 98, 106, 101, 99, 116]⟩, [⟨#[73]⟩], 2, [(⟨#[120]⟩, tI, false), (⟨#[110, 101, 120, 116]⟩, tR ⟨#[66, 97, 115, 101]⟩, false), (⟨#[119]⟩, tI, false), (⟨#[117, 110, 117, 115, 101, 100]⟩, tS, false)],
      [mthS ⟨#[110, 97, 109, 101]⟩ [] tS false 1 [iStr ⟨#[98, 97, 115, 101]⟩, iOne 39]] ++ whenS (bitS k0 0) [absS] ++ whenS (bitS k0 1) [clinitS ⟨#[98, 97, 115, 101]⟩]⟩,
   ⟨⟨#[65]⟩, ⟨#[66, 97, 115, 101]⟩, [], 1, [(⟨#[99, 111, 117, 110, 116]⟩, tI, true)], [runS ⟨#[65]⟩ k1] ++ whenS (bitS k0 2) [clinitS ⟨#[97]⟩]⟩,
   ⟨⟨#[66]⟩, ⟨#[65]⟩, [], if bitS k0 3 then 3 else 1, [], whenS (bitS k0 4) [runS ⟨#[66]⟩ k2] ++ whenS (bitS k0 5) [mthS ⟨#[110, 97, 109, 101]⟩ [] tS false 1 [iAt 4 0, iCall 37 ⟨#[65]⟩ ⟨#[110, 97, 109, 101]⟩ ⟨#[40, 41, 83]⟩, iStr ⟨#[43, 98]⟩, iOne 16, iOne 39]]⟩,
   ⟨⟨#[77, 105, 100]⟩, ⟨#[66, 97, 115, 101]⟩, whenS (bitS k0 6) [⟨#[74]⟩], 2, [(⟨#[109]⟩, tI, false)], []⟩,
   ⟨⟨#[67]⟩, ⟨#[77, 105, 100]⟩, [], 1, [], [runS ⟨#[67]⟩ k3, mthS ⟨#[101, 120, 116, 114, 97]⟩ [] tI false 1 [iAt 4 0, iPart 26 ⟨#[77, 105, 100]⟩ ⟨#[109]⟩, iOne 39]] ++ whenS (bitS k0 7) [mthS ⟨#[110, 97, 109, 101]⟩ [] tS false 1 [iAt 4 0, iCall 37 ⟨#[77, 105, 100]⟩ ⟨#[110, 97, 109, 101]⟩ ⟨#[40, 41, 83]⟩, iStr ⟨#[43, 99]⟩, iOne 16, iOne 39]]⟩,
   ⟨⟨#[68]⟩, ⟨#[66, 97, 115, 101]⟩, [⟨#[74]⟩], 3, [(⟨#[119, 97, 115, 116, 101]⟩, tI, true), (⟨#[120]⟩, tS, false)], [runS ⟨#[68]⟩ ((k1 + k2) % 256)] ++ whenS (bitS k1 0) [clinitS ⟨#[100]⟩]⟩]
def mainS (k2 : Nat) (l m : List Nat) : Cls :=
  ⟨⟨#[77, 97, 105, 110]⟩, ⟨#[79, 98, 106, 101, 99, 116]⟩, [], 1, [],
    [⟨⟨#[109, 97, 105, 110]⟩, [], tV, true, false, 6, (bodyS l).1, (bodyS l).2⟩, ⟨⟨#[97, 108, 116]⟩, [], tV, true, false, 6, (bodyS m).1, (bodyS m).2⟩] ++ whenS (bitS k2 0) [clinitS ⟨#[109, 97, 105, 110]⟩]⟩
def archS (k0 k1 k2 k3 : Nat) (l m : List Nat) : Arch :=
  (fun a : Arch => if bitS k2 2 then a.reverse else a)
   ([mainS k2 l m, ⟨⟨#[73]⟩, ⟨#[79, 98, 106, 101, 99, 116]⟩, [], 4, [], [absS]⟩, ⟨⟨#[74]⟩, ⟨#[79, 98, 106, 101, 99, 116]⟩, [⟨#[73]⟩], 4, [], whenS (bitS k2 1) [absS]⟩] ++ familyS k0 k1 k2 k3 ++
    [⟨⟨#[69, 114, 114]⟩, ⟨#[70, 97, 117, 108, 116]⟩, [], 1, [], []⟩, ⟨⟨#[69, 114, 114, 50]⟩, ⟨#[69, 114, 114]⟩, [], 1, [], []⟩, ⟨⟨#[71, 111, 110, 101]⟩, ⟨#[65]⟩, [], 1, [], [mthS ⟨#[102]⟩ [tI] tI true 1 [iOf 25 ⟨#[71, 111, 110, 101]⟩, iOne 6, iAt 4 0, iOne 39]]⟩, utilS k3])
end Go.Proofs.Ytdjciahaohfohaa.A
namespace Go.Proofs.Ytdjciahaohfohaa.S
structure TO {α : Type} (lt : α → α → Bool) : Prop where
  irr : ∀ x, lt x x = false
  tr : ∀ {x y z}, lt x y = true → lt y z = true → lt x z = true
  tot : ∀ {x y}, lt x y = false → lt y x = false → x = y
section
variable {α : Type} {lt : α → α → Bool} (T : TO lt)
include T
end
section
variable {α : Type} {lt : α → α → Bool}
end
def at' {α : Type} (d : α) (h : List α) (k : Nat) : α := (h[k]?).getD d
def onceL {α : Type} [DecidableEq α] (l : List α) : List α := l.foldl (fun a x => if x ∈ a then a else a ++ [x]) []
def addS {α : Type} [DecidableEq α] (a : List α) (x : α) : List α := if x ∈ a then a else a ++ [x]
theorem addS_mem {α : Type} [DecidableEq α] {a : List α} {x y : α} : y ∈ addS a x ↔ y ∈ a ∨ y = x := by
  unfold addS
  split
  · rename_i hx
    exact ⟨.inl, fun h => h.elim id (fun e => e ▸ hx)⟩
  · simp
theorem addS_in {α : Type} [DecidableEq α] {a : List α} {x : α} (h : x ∈ a) : addS a x = a := if_pos h
theorem addS_out {α : Type} [DecidableEq α] {a : List α} {x : α} (h : x ∉ a) : addS a x = a ++ [x] := if_neg h
theorem addS_len {α : Type} [DecidableEq α] (a : List α) (x : α) : (addS a x).length ≤ a.length + 1 := by unfold addS; split <;> simp
theorem onceL_snoc {α : Type} [DecidableEq α] (l : List α) (x : α) : onceL (l ++ [x]) = addS (onceL l) x := by unfold onceL addS; rw [List.foldl_append]; rfl
theorem onceL_nil {α : Type} [DecidableEq α] : onceL ([] : List α) = [] := rfl
theorem rev_ind {α : Type} {P : List α → Prop} (h0 : P []) (h1 : ∀ l x, P l → P (l ++ [x])) (l : List α) : P l := by
  have : ∀ n (l : List α), l.length = n → P l := by
    intro n
    induction n with
    | zero => intro l h; rw [List.length_eq_zero_iff.1 h]; exact h0
    | succ n ih =>
      intro l h
      have hne : l ≠ [] := by rintro rfl; simp at h
      rw [← List.dropLast_concat_getLast hne]
      exact h1 _ _ (ih _ (by simp [h]))
  exact this _ l rfl
theorem onceL_mem {α : Type} [DecidableEq α] (l : List α) : ∀ y, y ∈ onceL l ↔ y ∈ l := rev_ind (P := fun l => ∀ y, y ∈ onceL l ↔ y ∈ l) (by simp [onceL_nil]) (fun l x h y => by rw [onceL_snoc, addS_mem, h y]; simp) l
theorem onceL_len {α : Type} [DecidableEq α] (l : List α) : (onceL l).length ≤ l.length := rev_ind (P := fun l => (onceL l).length ≤ l.length) (by simp [onceL_nil]) (fun l x h => by
  rw [onceL_snoc]; have := addS_len (onceL l) x; simp; omega) l
theorem once_take {α : Type} [DecidableEq α] {l : List α} {i : Nat} (h : i < l.length) : onceL (l.take (i + 1)) = addS (onceL (l.take i)) l[i] := by
  rw [List.take_succ_eq_append_getElem h, onceL_snoc]
def hasB {α : Type} [DecidableEq α] (a : List α) (x : α) : Bool := decide (x ∈ a)
theorem hasB_iff {α : Type} [DecidableEq α] {a : List α} {x : α} : hasB a x = true ↔ x ∈ a := decide_eq_true_iff
theorem hasB_in {α : Type} [DecidableEq α] {a : List α} {x : α} (h : x ∈ a) : hasB a x = true := decide_eq_true h
theorem hasB_out {α : Type} [DecidableEq α] {a : List α} {x : α} (h : x ∉ a) : hasB a x = false := decide_eq_false h
theorem hasB_eq {α : Type} [DecidableEq α] {a b : List α} {x : α} (h : x ∈ a ↔ x ∈ b) : hasB a x = hasB b x := by unfold hasB; rw [decide_eq_decide]; exact h
end Go.Proofs.Ytdjciahaohfohaa.S
