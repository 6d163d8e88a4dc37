/- Texts that the proof is made of, joined. No condition. -/
import Derived.Test.YtlmpnmnfloeoiaaGreatRows
import Derived.WalkKit
import Derived.WalkSpells
import Derived.WalkLawsBesides
import Derived.Lib.Hide
import Derived.Below
import Derived.OwnWalk
import Derived.Maps.OwnSet
import Derived.Maps.RangeWalk
import Derived.Maps.AppendAt
import Derived.Laws.AppendOwnNone
import Derived.Laws.MakeOwn
import Derived.Deep.QuietTactic
import Derived.Deep.DeepCutAuto
import Derived.BigRegion
import Derived.BigQuiet
import Derived.StringKeys
import Derived.DeepKeys4
import Derived.Lib.AppendStr
import Derived.Laws.BitsAllLaws
import Derived.OpenShut
import Derived.SliceStrings
import Derived.Shelf.Strings.Builder1
import Derived.Shelf.Strings.BuilderF
import Derived.Shelf.Strings.BuilderK
import Derived.Shelf.Strconv.Itoa0
import Derived.Test.YtlmpnmnfloeoiaaGreatProg
set_option linter.unusedVariables false
set_option linter.unusedSimpArgs false
set_option maxRecDepth 100000
set_option maxHeartbeats 16000000
namespace Go.Proofs.YtlmpnmnfloeoiaaGreat.S
structure TO {α : Type} (lt : α → α → Bool) : Prop where
  irr : ∀ x, lt x x = false
  tr : ∀ {x y z}, lt x y = true → lt y z = true → lt x z = true
  tot : ∀ {x y}, lt x y = false → lt y x = false → x = y
section
variable {α : Type} {lt : α → α → Bool} (T : TO lt)
include T
theorem TO.asym {x y : α} (h : lt x y = true) : lt y x = false := by
  cases h' : lt y x with
  | false => rfl
  | true =>
    have := T.tr h h'
    rw [T.irr] at this
    cases this
theorem TO.nt {x y z : α} (h1 : lt y x = false) (h2 : lt z y = false) : lt z x = false := by
  cases h : lt z x with
  | false => rfl
  | true =>
    cases h3 : lt x y with
    | true =>
      have := T.tr h h3
      rw [h2] at this
      cases this
    | false =>
      have := T.tot h1 h3
      subst this
      rw [h2] at h
      cases h
theorem TO.ne {x y : α} (h : lt x y = true) : x ≠ y := by
  rintro rfl
  rw [T.irr] at h
  cases h
end
abbrev Srt {α : Type} (lt : α → α → Bool) (l : List α) : Prop := l.Pairwise (fun x y => lt x y = true)
theorem srt_eq {α : Type} {lt : α → α → Bool} (T : TO lt) : ∀ {l m : List α}, Srt lt l → Srt lt m → (∀ x, x ∈ l ↔ x ∈ m) → l = m
  | [], [], _, _, _ => rfl
  | [], y :: m, _, _, h => by have := (h y).2 (by simp); simp at this
  | x :: l, [], _, _, h => by have := (h x).1 (by simp); simp at this
  | x :: l, y :: m, hl, hm, h => by
    obtain ⟨hx, hl⟩ := List.pairwise_cons.1 hl
    obtain ⟨hy, hm'⟩ := List.pairwise_cons.1 hm
    have e : x = y := by
      rcases List.mem_cons.1 ((h x).1 (by simp)) with e | hxm
      · exact e
      · rcases List.mem_cons.1 ((h y).2 (by simp)) with e | hyl
        · exact e.symm
        · have h1 := T.asym (hx y hyl)
          rw [hy x hxm] at h1
          cases h1
    subst e
    congr 1
    refine srt_eq T hl hm' fun z => ⟨fun hz => ?_, fun hz => ?_⟩
    · rcases List.mem_cons.1 ((h z).1 (by simp [hz])) with e | hz'
      · exact absurd e.symm (T.ne (hx z hz))
      · exact hz'
    · rcases List.mem_cons.1 ((h z).2 (by simp [hz])) with e | hz'
      · exact absurd e.symm (T.ne (hy z hz))
      · exact hz'
theorem Srt.nodup {α : Type} {lt : α → α → Bool} (T : TO lt) {l : List α} (h : Srt lt l) : l.Nodup := List.Pairwise.imp (fun h => T.ne h) h
section
variable {α : Type} {lt : α → α → Bool}
end
def at' {α : Type} (d : α) (h : List α) (k : Nat) : α := (h[k]?).getD d
def onceL {α : Type} [DecidableEq α] (l : List α) : List α := l.foldl (fun a x => if x ∈ a then a else a ++ [x]) []
def addS {α : Type} [DecidableEq α] (a : List α) (x : α) : List α := if x ∈ a then a else a ++ [x]
theorem addS_mem {α : Type} [DecidableEq α] {a : List α} {x y : α} : y ∈ addS a x ↔ y ∈ a ∨ y = x := by
  unfold addS
  split
  · rename_i hx
    exact ⟨.inl, fun h => h.elim id (fun e => e ▸ hx)⟩
  · simp
theorem addS_in {α : Type} [DecidableEq α] {a : List α} {x : α} (h : x ∈ a) : addS a x = a := if_pos h
theorem addS_out {α : Type} [DecidableEq α] {a : List α} {x : α} (h : x ∉ a) : addS a x = a ++ [x] := if_neg h
theorem addS_len {α : Type} [DecidableEq α] (a : List α) (x : α) : (addS a x).length ≤ a.length + 1 := by unfold addS; split <;> simp
theorem onceL_snoc {α : Type} [DecidableEq α] (l : List α) (x : α) : onceL (l ++ [x]) = addS (onceL l) x := by unfold onceL addS; rw [List.foldl_append]; rfl
theorem onceL_nil {α : Type} [DecidableEq α] : onceL ([] : List α) = [] := rfl
theorem rev_ind {α : Type} {P : List α → Prop} (h0 : P []) (h1 : ∀ l x, P l → P (l ++ [x])) (l : List α) : P l := by
  have : ∀ n (l : List α), l.length = n → P l := by
    intro n
    induction n with
    | zero => intro l h; rw [List.length_eq_zero_iff.1 h]; exact h0
    | succ n ih =>
      intro l h
      have hne : l ≠ [] := by rintro rfl; simp at h
      rw [← List.dropLast_concat_getLast hne]
      exact h1 _ _ (ih _ (by simp [h]))
  exact this _ l rfl
theorem onceL_mem {α : Type} [DecidableEq α] (l : List α) : ∀ y, y ∈ onceL l ↔ y ∈ l := rev_ind (P := fun l => ∀ y, y ∈ onceL l ↔ y ∈ l) (by simp [onceL_nil]) (fun l x h y => by rw [onceL_snoc, addS_mem, h y]; simp) l
theorem onceL_len {α : Type} [DecidableEq α] (l : List α) : (onceL l).length ≤ l.length := rev_ind (P := fun l => (onceL l).length ≤ l.length) (by simp [onceL_nil]) (fun l x h => by
  rw [onceL_snoc]; have := addS_len (onceL l) x; simp; omega) l
theorem once_take {α : Type} [DecidableEq α] {l : List α} {i : Nat} (h : i < l.length) : onceL (l.take (i + 1)) = addS (onceL (l.take i)) l[i] := by
  rw [List.take_succ_eq_append_getElem h, onceL_snoc]
def hasB {α : Type} [DecidableEq α] (a : List α) (x : α) : Bool := decide (x ∈ a)
theorem hasB_iff {α : Type} [DecidableEq α] {a : List α} {x : α} : hasB a x = true ↔ x ∈ a := decide_eq_true_iff
theorem hasB_in {α : Type} [DecidableEq α] {a : List α} {x : α} (h : x ∈ a) : hasB a x = true := decide_eq_true h
theorem hasB_out {α : Type} [DecidableEq α] {a : List α} {x : α} (h : x ∉ a) : hasB a x = false := decide_eq_false h
def delS {α : Type} [DecidableEq α] (a : List α) (x : α) : List α := a.filter (fun y => decide (y ≠ x))
theorem delS_nodup {α : Type} [DecidableEq α] {a : List α} (h : a.Nodup) (x : α) : (delS a x).Nodup := List.Pairwise.filter _ h
theorem delS_mem {α : Type} [DecidableEq α] {a : List α} {x y : α} : y ∈ delS a x ↔ y ∈ a ∧ y ≠ x := by unfold delS; simp
theorem nodup_len_eq {α : Type} [DecidableEq α] : ∀ {l m : List α}, l.Nodup → m.Nodup → (∀ x, x ∈ l ↔ x ∈ m) → l.length = m.length := by
  intro l m hl hm h
  exact Nat.le_antisymm (hl.length_le_of_subset (fun x hx => (h x).1 hx)) (hm.length_le_of_subset (fun x hx => (h x).2 hx))
def cmp3 {α : Type} (lt : α → α → Bool) (x y : α) : Int := if lt x y = true then -1 else if lt y x = true then 1 else 0
theorem cmp3_lt {α : Type} (lt : α → α → Bool) (x y : α) : decide (cmp3 lt x y < 0) = lt x y := by
  unfold cmp3
  cases h : lt x y
  · cases h2 : lt y x <;> simp
  · simp
end Go.Proofs.YtlmpnmnfloeoiaaGreat.S
namespace Go.Proofs.YtlmpnmnfloeoiaaGreat.S
open Go.RowKit Go.Maps
theorem add_add (x : Addr) (i : Nat) (h : x.spot = none) : x.add i = ⟨x.block, x.off + i, none⟩ := by
  obtain ⟨b, o, s⟩ := x
  simp only at h
  subst h
  unfold Addr.add
  split <;> simp_all
theorem grown_set (w : World) (rb j : Nat) (u : Value) : w.grownBy (w.setCell ⟨rb, j, none⟩ u) (some rb) :=
  ⟨rfl, rfl, rfl, by simp, fun k _ hk => heap_setCell_other w ⟨rb, j, none⟩ k u (fun e => hk (by simp [e]))⟩
theorem grown_drewN (w : World) (n : Nat) (r : Option Nat) : w.grownBy (w.drewN n) r := ⟨rfl, rfl, rfl, Nat.le_refl _, fun _ _ _ => rfl⟩
theorem below_drewN (B : Nat) (w : World) (n : Nat) : Below B w (w.drewN n) := ⟨rfl, rfl, rfl, Nat.le_refl _, fun _ _ => rfl⟩
def Kpt (S : List Nat) (w w' : World) : Prop := Below 0 w w' ∧ ∀ g, g < w.heap.size → g ∉ S → w'.heap[g]? = w.heap[g]?
theorem Kpt.size {S : List Nat} {w w' : World} (h : Kpt S w w') : w.heap.size ≤ w'.heap.size := h.1.size
theorem Kpt.refl (S : List Nat) (w : World) : Kpt S w w := ⟨Below.refl _ _, fun _ _ _ => rfl⟩
theorem Kpt.trans {S S' : List Nat} {a b c : World} (h : Kpt S a b) (k : Kpt S' b c) (hs : ∀ x ∈ S', x ∈ S ∨ a.heap.size ≤ x) : Kpt S a c :=
  ⟨h.1.trans k.1, fun g hg hn => (k.2 g (Nat.lt_of_lt_of_le hg h.size) (fun hx => by
    rcases hs g hx with h1 | h1
    · exact hn h1
    · omega)).trans (h.2 g hg hn)⟩
theorem Kpt.mono {S S' : List Nat} {a b : World} (h : Kpt S a b) (hs : ∀ x ∈ S, x < a.heap.size → x ∈ S') : Kpt S' a b :=
  ⟨h.1, fun g hg hn => h.2 g hg (fun hx => hn (hs g hx hg))⟩
theorem Kpt.of_below {S : List Nat} {w w' : World} (h : Below w.heap.size w w') : Kpt S w w' := ⟨h.mono (Nat.zero_le _), fun g hg _ => h.block g hg⟩
theorem Kpt.of_grown {S : List Nat} {w w' : World} {r : Option Nat} (h : w.grownBy w' r) (hr : ∀ g, r = some g → g ∈ S ∨ w.heap.size ≤ g) : Kpt S w w' :=
  ⟨⟨h.os, h.tape, h.output, h.size, fun k hk => absurd hk (Nat.not_lt_zero k)⟩, fun g hg hn => h.block g hg (fun e => by
    rcases hr g e.symm with h1 | h1
    · exact hn h1
    · omega)⟩
theorem Kpt.alloc (S : List Nat) (w : World) (o : Obj) : Kpt S w (w.alloc o) := .of_grown (World.grownBy_alloc w o none) (fun g h => by cases h)
theorem Kpt.drew {S : List Nat} {a w : World} (h : Kpt S a w) : Kpt S a w.drew := ⟨h.1.drew, h.2⟩
theorem Kpt.set (S : List Nat) (w : World) (b j : Nat) (u : Value) (h : b ∈ S) : Kpt S w (w.setCell ⟨b, j, none⟩ u) := .of_grown (grown_set w b j u) (fun g e => by cases e; exact .inl h)
theorem Kpt.below {S : List Nat} {w w' : World} {B : Nat} (h : Kpt S w w') (hS : ∀ x ∈ S, B ≤ x) (hB : B ≤ w.heap.size) : Below B w w' :=
  ⟨h.1.os, h.1.tape, h.1.output, h.1.size, fun k hk => h.2 k (Nat.lt_of_lt_of_le hk hB) (fun hx => by have := hS k hx; omega)⟩
theorem Kpt.block {S : List Nat} {w w' : World} (h : Kpt S w w') {b : Nat} {o : Obj} (hb : w.heap[b]? = some o) (hn : b ∉ S) : w'.heap[b]? = some o := (h.2 b (Array.getElem?_eq_some_iff.1 hb).1 hn).trans hb
theorem row_kpt {w w' : World} {B n sz : Nat} {e : TypeId} {v : Value} {xs : List Value} {S : List Nat} (h : w.ownsRow B e sz v n xs) (hk : Kpt S w w') (hS : ∀ g, v.ownBlock = some g → g ∉ S) : w'.ownsRow B e sz v n xs := by
  refine ⟨h.1, ?_⟩
  rcases h.2 with hn | ⟨g, cap, cur, rfl, hb, hgg, rest⟩
  · exact .inl hn
  · refine .inr ⟨g, cap, cur, rfl, hb, ?_, rest⟩
    rw [hk.2 g (Array.getElem?_eq_some_iff.1 hgg).1 (hS g rfl)]
    exact hgg
section
variable {α : Type} {c : α → Value}
def RdC (c : α → Value) (ok : Nat → Prop) (w : World) (v : Value) (xs : List α) : Prop :=
  ∃ (p : Option Addr) (cap : Nat), v = .slice p xs.length cap ∧ xs.length ≤ cap ∧ (p = none → cap = 0) ∧ cap ≤ maxLen ∧
    (xs = [] ∨ ∃ b off, p = some ⟨b, off, none⟩ ∧ ok b ∧ b < w.heap.size ∧ ∀ i x, xs[i]? = some x → w.cell? ⟨b, off + i, none⟩ = some (c x))
theorem RdC.form {ok : Nat → Prop} {w : World} {v : Value} {xs : List α} (h : RdC c ok w v xs) : ∃ p cap, v = .slice p xs.length cap ∧ xs.length ≤ cap ∧ cap ≤ maxLen := by
  obtain ⟨p, cap, h, h1, _, h2, _⟩ := h
  exact ⟨p, cap, h, h1, h2⟩
theorem RdC.at {ok : Nat → Prop} {w : World} {p : Option Addr} {n cap : Nat} {xs : List α} (h : RdC c ok w (.slice p n cap) xs) (hn : xs ≠ []) :
    ∃ b off, p = some ⟨b, off, none⟩ ∧ ok b ∧ b < w.heap.size ∧ ∀ i x, xs[i]? = some x → w.cell? ⟨b, off + i, none⟩ = some (c x) := by
  obtain ⟨p', cap', e, _, _, _, h3⟩ := h
  simp only [Value.slice.injEq] at e
  obtain ⟨rfl, rfl, rfl⟩ := e
  rcases h3 with h3 | h3
  · exact absurd h3 hn
  · exact h3
theorem RdC.keep {ok ok' : Nat → Prop} {w w' : World} {v : Value} {xs : List α} (h : RdC c ok w v xs) (hb : ∀ b, ok b → b < w.heap.size → w'.heap[b]? = w.heap[b]?) (ho : ∀ b, ok b → b < w.heap.size → ok' b) (hs : w.heap.size ≤ w'.heap.size) : RdC c ok' w' v xs := by
  obtain ⟨p, cap, rfl, h1, h2, h3, h4⟩ := h
  refine ⟨p, cap, rfl, h1, h2, h3, ?_⟩
  rcases h4 with h4 | ⟨b, off, rfl, hok, hlt, h4⟩
  · exact .inl h4
  · refine .inr ⟨b, off, rfl, ho b hok hlt, by omega, fun i x hx => ?_⟩
    rw [World.cell?_of_block (w := w) (a := ⟨b, off + i, none⟩) (hb b hok hlt)]
    exact h4 i x hx
theorem RdC.kpt {ok : Nat → Prop} {w w' : World} {v : Value} {xs : List α} {S : List Nat} (h : RdC c ok w v xs) (hk : Kpt S w w') (hS : ∀ b, ok b → b ∉ S) : RdC c ok w' v xs :=
  h.keep (fun b hb hl => hk.2 b hl (hS b hb)) (fun _ h _ => h) hk.size
theorem RdC.nil (ok : Nat → Prop) (w : World) : RdC c ok w (.slice none 0 0) ([] : List α) := ⟨none, 0, rfl, by simp, fun _ => rfl, by unfold maxLen; omega, .inl rfl⟩
def OwnC (c : α → Value) (T : TypeId) (w : World) (B : Nat) (v : Value) (xs : List α) : Prop := w.ownsRow B T 1 v xs.length (xs.map c)
variable {T : TypeId}
theorem OwnC.nil (w : World) (B : Nat) : OwnC c T w B (.slice none 0 0) ([] : List α) := World.ownsRow_nil _ _ _ _
theorem OwnC.alloc {w : World} {B : Nat} {v : Value} {xs : List α} (h : OwnC c T w B v xs) (o : Obj) : OwnC c T (w.alloc o) B v xs := World.ownsRow.alloc h o
theorem OwnC.lt {w : World} {B : Nat} {v : Value} {xs : List α} (h : OwnC c T w B v xs) : ∀ k, v.ownBlock = some k → B ≤ k ∧ k < w.heap.size := World.ownsRow.lt h
theorem OwnC.kpt {w w' : World} {B : Nat} {v : Value} {xs : List α} {S : List Nat} (h : OwnC c T w B v xs) (hk : Kpt S w w') (hS : ∀ g, v.ownBlock = some g → g ∉ S) : OwnC c T w' B v xs := row_kpt h hk hS
theorem OwnC.mono {w : World} {B B' : Nat} {v : Value} {xs : List α} (h : OwnC c T w B v xs) (hB : B' ≤ B) : OwnC c T w B' v xs := by
  refine ⟨h.1, ?_⟩
  rcases h.2 with h' | ⟨g, cap, cur, e, hb, r⟩
  · exact .inl h'
  · exact .inr ⟨g, cap, cur, e, Nat.le_trans hB hb, r⟩
theorem OwnC.cells {w : World} {B : Nat} {v : Value} {xs : List α} (h : OwnC c T w B v xs) : (v = .slice none 0 0 ∧ xs = []) ∨ ∃ g cap cur, v = .slice (some ⟨g, 0, none⟩) xs.length cap ∧ B ≤ g ∧ g < w.heap.size ∧ w.heap[g]? = some (.cells cur T (0, 0)) ∧ xs.length ≤ cap ∧ cap ≤ maxLen ∧
    (∀ i x, xs[i]? = some x → w.cell? ⟨g, i, none⟩ = some (c x)) ∧ (∀ i, w.frozen? ⟨g, i, none⟩ = false) ∧ (∀ i, i < cap → ∃ u, w.cell? ⟨g, i, none⟩ = some u) := by
  have hh := h
  rcases h.2 with ⟨rfl, hn⟩ | ⟨g, cap, cur, rfl, hb, hg, h1, h2, h3, h4⟩
  · exact .inl ⟨rfl, List.eq_nil_of_length_eq_zero hn⟩
  · refine .inr ⟨g, cap, cur, rfl, hb, (Array.getElem?_eq_some_iff.1 hg).1, hg, h1, h2, fun i x hx => ?_, fun i => by simp [World.frozen?, hg], fun i hi => ⟨cur[i]'(by omega), ?_⟩⟩
    · have := World.ownsRow.cells hh (g := g) rfl i (c x) (by simp [hx])
      rw [add_add _ i rfl, Nat.zero_add] at this
      exact this
    · simp only [World.cell?, hg]
      exact Array.getElem?_eq_getElem (by omega)
theorem OwnC.rd {w : World} {B : Nat} {v : Value} {xs : List α} (h : OwnC c T w B v xs) : RdC c (fun b => B ≤ b) w v xs := by
  rcases h.cells with ⟨rfl, rfl⟩ | ⟨g, cap, cur, rfl, hb, hlt, _, h1, h2, h3, _⟩
  · exact RdC.nil _ _
  · exact ⟨_, cap, rfl, h1, (fun e => by cases e), h2, .inr ⟨g, 0, rfl, hb, hlt, fun i x hx => by rw [Nat.zero_add]; exact h3 i x hx⟩⟩
theorem OwnC.slice {w : World} {B : Nat} {v : Value} {xs : List α} (h : OwnC c T w B v xs) : ∃ a n k, v = .slice a n k := by
  rcases h.cells with ⟨rfl, _⟩ | ⟨g, cap, cur, rfl, _⟩
  · exact ⟨_, _, _, rfl⟩
  · exact ⟨_, _, _, rfl⟩
theorem OwnC.set {w : World} {B g n cap : Nat} {xs : List α} (h : OwnC c T w B (.slice (some ⟨g, 0, none⟩) n cap) xs) (i : Nat) (y : α) : OwnC c T (w.setCell ⟨g, i, none⟩ (c y)) B (.slice (some ⟨g, 0, none⟩) n cap) (xs.set i y) := by
  have hn : n = xs.length := by
    rcases h.cells with ⟨e, _⟩ | ⟨g', cap', cur, e, _⟩
    · cases e
    · simp only [Value.slice.injEq] at e; exact e.2.1
  subst hn
  have := (World.ownsRow.stored h i (c y)).1
  unfold OwnC
  rw [List.length_set, List.map_set]
  exact this
theorem OwnC.front {w : World} {B n cap : Nat} {p : Option Addr} {xs : List α} (h : OwnC c T w B (.slice p n cap) xs) {k : Nat} (hk : k ≤ xs.length) (hp : xs ≠ []) : OwnC c T w B (.slice p k cap) (xs.take k) := by
  have hl : (xs.take k).length = k := by simp; omega
  rcases h.2 with ⟨e, hn⟩ | ⟨g, cap', cur, e, hb, hg, h1, h2, h3, h4⟩
  · exact absurd (List.eq_nil_of_length_eq_zero hn) hp
  · simp only [Value.slice.injEq] at e
    obtain ⟨rfl, rfl, rfl⟩ := e
    unfold OwnC
    rw [hl]
    refine ⟨by simp; omega, .inr ⟨g, cap, cur, rfl, hb, hg, by omega, h2, h3, ?_⟩⟩
    rw [List.map_take, ← h4, List.take_take]
    congr 1
    omega
def Inf1 (T TS : TypeId) (bytes : Nat) (z : Value) : Prop := (Tryz.prog.info? T).map (fun i => (i.zero, i.size, i.bytes)) = some (some z, 1, bytes) ∧ Tryz.prog.underlying TS = some (.slice T) ∧ z.cells.size = 1 ∧ bytes ≤ 1000
theorem wp_appC {TS : TypeId} {bytes : Nat} {z : Value} (hI : Inf1 T TS bytes z) (h1 : ∀ x, (c x).oneCell' = true) {w : World} {ops : Array Oper} {rest : List Oper} {o : Oper} {a : Act} {Q : Exit → Act → World → Prop} (hgd : o.guard = none) (s x : Operand)
    (ho : o.op = .call { callee := .builtin .append, args := #[s, x], argTypes := #[TS, TS] })
    (B : Nat) (v : Value) (xs : List α) (hs : a.eval s = v) (hown : OwnC c T w B v xs) (ok : Nat → Prop) (v2 : Value) (ys : List α) (hx : a.eval x = v2) (hy : RdC c ok w v2 ys)
    (hb : xs.length + ys.length ≤ 1000000) (hbase : B ≤ w.heap.size)
    (h : ∀ v' w', OwnC c T w' B v' (xs ++ ys) → w.grownBy w' v.ownBlock → (v'.ownBlock = v.ownBlock ∨ v'.ownBlock = some w.heap.size) → wpList Tryz.prog ops Q rest (a.put o.dst v') w') :
    wpList Tryz.prog ops Q (o :: rest) a w := by
  obtain ⟨hi1, hu, hz, hbb⟩ := hI
  obtain ⟨i0, hi, hz0, hz1, hz2⟩ := info_parts hi1
  have h1' : ∀ zs : List α, ∀ u ∈ zs.map c, u.oneCell' = true := fun zs u hu => by
    obtain ⟨y, _, rfl⟩ := List.mem_map.1 hu
    exact h1 y
  obtain ⟨p, cap, e2, hle, hnone, _, hcs⟩ := hy
  subst e2
  cases p with
  | none =>
    have hc0 := hnone rfl
    have hl0 : ys.length = 0 := by omega
    have hm : ys = [] := List.eq_nil_of_length_eq_zero hl0
    subst hm
    subst hc0
    refine wpList_append_own_none hgd s x TS ho B T i0 1 hu hi v xs.length (xs.map c) hs hown hx ?_
    exact h v w (by rw [List.append_nil]; exact hown) ⟨rfl, rfl, rfl, Nat.le_refl _, fun _ _ _ => rfl⟩ (.inl rfl)
  | some ad =>
    refine wpList_append_own_at w hgd s x TS ho B T i0 z 1 bytes hu hi hz0 hz1 hz2 hz (by decide) v xs.length (xs.map c) hs hown ad ys.length cap (ys.map c) hx (by simp) ?_ (h1' ys) (by unfold maxLen; omega) ?_ hbase ?_
    · intro j u hj
      rw [List.getElem?_map, Option.map_eq_some_iff] at hj
      obtain ⟨y, hy1, rfl⟩ := hj
      rcases hcs with rfl | ⟨b, off, e, _, _, hc⟩
      · simp at hy1
      · cases e
        rw [add_add _ j rfl]
        exact hc j y hy1
    · have := Nat.mul_le_mul hb hbb
      omega
    · intro v' w' g1 g2 _ g4
      refine h v' w' ?_ g2 g4
      unfold OwnC
      rw [List.length_append, List.map_append]
      exact g1
theorem rd_one {w : World} {b : Nat} {u : Value} {x : α} {fr : Nat × Nat} (h : w.heap[b]? = some (.cells #[u] T fr)) (hu : u = c x) : RdC c (fun _ => True) w (.slice (some ⟨b, 0, none⟩) 1 1) [x] := by
  subst hu
  refine ⟨_, 1, rfl, Nat.le_refl _, (fun e => by cases e), by unfold maxLen; omega, .inr ⟨b, 0, rfl, trivial, (Array.getElem?_eq_some_iff.1 h).1, fun i y hy => ?_⟩⟩
  cases i with
  | zero =>
    simp only [List.getElem?_cons_zero, Option.some.injEq] at hy
    subst hy
    simp [World.cell?, h]
  | succ i => simp at hy
end
theorem run_mapHint (t k e : TypeId) (ht : Tryz.prog.underlying t = some (.map k e)) (n : Int) (w : World) : (Instr.makeMap t (some (.int .i64 n))).run Tryz.prog w = .ok (.map (some w.heap.size)) (w.alloc (.map #[] 0)) := by
  simp [Instr.makeMap, run_underlying ht, asInt, asIntOf, newObj, Sem.run, Result.andThen]
structure El {α : Type} (tk : TypeId) (c : α → Value) (q : α → Lit) (ok : α → Prop) : Prop where
  law : Keyed Tryz.prog tk
  key : ∀ {x}, ok x → keyOf Tryz.prog tk (c x) = some (q x)
  inv : ∀ {v kl}, keyOf Tryz.prog tk v = some kl → ∃ x, v = c x ∧ kl = q x ∧ ok x
  inj : ∀ {x y}, q x = q y → x = y
  isKey : ∀ x, WideAt.IsKeyLit (q x)
  one : ∀ x, (c x).oneCell' = true
section
variable {α : Type} [DecidableEq α] {tk tm : TypeId} {c : α → Value} {q : α → Lit} {ok : α → Prop}
def SetD (q : α → Lit) (ok : α → Prop) (D : DataW Unit) (L : List α) : Prop := (∀ x, Maps.has D (q x) = decide (x ∈ L)) ∧ Maps.size D = L.length ∧ L.Nodup ∧ ∀ x ∈ L, ok x
theorem SetD.put (E : El tk c q ok) {D : DataW Unit} {L : List α} (h : SetD q ok D L) (hD : Tidy D) {x : α} (hx : x ∉ L) (hk : ok x) (d : DataW Unit) : SetD q ok (D.put (q x) d) (L ++ [x]) := by
  obtain ⟨h1, h2, h3, h4⟩ := h
  refine ⟨fun y => ?_, ?_, ?_, ?_⟩
  · by_cases e : y = x
    · subst e
      rw [has_put_same hD.isMap (E.isKey y)]
      simp
    · rw [has_put_other (fun h => e (E.inj h)), h1]
      simp [e]
  · rw [size_put hD, h1, h2]
    simp [hx]
  · rw [List.nodup_append]
    exact ⟨h3, by simp, fun y hy z hz e => hx (by rw [List.mem_singleton.1 hz] at e; rw [← e]; exact hy)⟩
  · intro y hy
    rcases List.mem_append.1 hy with hy | hy
    · exact h4 y hy
    · rw [List.mem_singleton.1 hy]; exact hk
def Mq (tk : TypeId) (q : α → Lit) (ok : α → Prop) (w : World) (b : Nat) (L : List α) : Prop := ∃ D : DataW Unit, w.ownsMap Tryz.prog tk unitElem b L.length D ∧ SetD q ok D L
theorem Mq.made (w : World) : Mq tk q ok (w.alloc (.map #[] 0)) w.heap.size ([] : List α) := ⟨_, World.ownsMap_made _ _ _ _, fun _ => rfl, rfl, List.nodup_nil, fun x hx => by cases hx⟩
theorem Mq.map {w : World} {b : Nat} {L : List α} (h : Mq tk q ok w b L) : ∃ es k, w.heap[b]? = some (.map es k) := by
  obtain ⟨D, ⟨es, k, hb, _⟩, _⟩ := h
  exact ⟨es, k, hb⟩
theorem Mq.kpt {w w' : World} {b : Nat} {L : List α} {S : List Nat} (h : Mq tk q ok w b L) (hk : Kpt S w w') (hS : b ∉ S) : Mq tk q ok w' b L := by
  obtain ⟨D, ⟨es, k, hb, hr⟩, h2⟩ := h
  exact ⟨D, ⟨es, k, hk.block hb hS, hr⟩, h2⟩
theorem wp_lookQ (E : El tk c q ok) {te : TypeId} (ht : Tryz.prog.underlying tm = some (.map tk te)) {w : World} (hz : (zeroValue te).run Tryz.prog w = .ok (.agg #[]) w) {ops : Array Oper} {rest : List Oper} {o : Oper} {a : Act} {Q : Exit → Act → World → Prop} (hg : o.guard = none) (m x : Operand) (hop : o.op = Op.lookup tm m x true)
    (b : Nat) (L : List α) (hm : a.eval m = .map (some b)) (h : Mq tk q ok w b L) (s : α) (hs : ok s) (hx : a.eval x = c s) (r : Bool) (hr : hasB L s = r)
    (hK : wpList Tryz.prog ops Q rest (a.put o.dst (.tuple #[.agg #[], .bool r])) w) :
    wpList Tryz.prog ops Q (o :: rest) a w := by
  obtain ⟨D, h1, h2, _⟩ := h
  refine wpList_lookup_own_unit w hg m x _ hop tk te E.law ht hz b _ D hm h1 _ (q s) hx (E.key hs) ?_
  rw [h2, show decide (s ∈ L) = r from hr]
  exact hK
theorem wp_storeQ (E : El tk c q ok) {te : TypeId} (ht : Tryz.prog.underlying tm = some (.map tk te)) {w : World} {ops : Array Oper} {rest : List Oper} {o : Oper} {a : Act} {Q : Exit → Act → World → Prop} (hg : o.guard = none) (m x v : Operand) (hop : o.op = Op.mapUpdate tm m x v)
    (b : Nat) (L : List α) (hm : a.eval m = .map (some b)) (h : Mq tk q ok w b L) (s : α) (hs : ok s) (hx : a.eval x = c s) (hv : a.eval v = .agg #[]) (hn : s ∉ L) (hl : L.length ≤ 1000000)
    (hK : ∀ w', Mq tk q ok w' b (L ++ [s]) → w.grownBy w' (some b) → wpList Tryz.prog ops Q rest (a.put o.dst undef) w') :
    wpList Tryz.prog ops Q (o :: rest) a w := by
  obtain ⟨D, h1, h2⟩ := h
  refine wpList_mapUpdate_own w hg m x v _ hop tk te E.law ht unitElem b L.length D hm h1 (by unfold maxLen; omega) _ _ (q s) hx hv (E.key hs) (.agg []) [] unitElem_mk ?_
  intro w' hown hg
  refine hK w' ⟨D.put (q s) (.agg []), ?_, h2.put E (h1.tidy E.law) hn hs _⟩ hg
  rw [List.length_append]
  exact hown
def Rg (tk : TypeId) (q : α → Lit) (ok : α → Prop) (w : World) (b r : Nat) (L R : List α) (n : Nat) : Prop := ∃ (D : DataW Unit) (left : Lit → Bool), w.ranges Tryz.prog tk unitElem b r L.length D left n ∧ SetD q ok D L ∧
  R.Nodup ∧ (∀ x ∈ R, x ∈ L) ∧ (∀ x, left (q x) = decide (x ∈ L ∧ x ∉ R)) ∧ ∀ kl, left kl = true → ∃ x, kl = q x
theorem Rg.kpt {w w' : World} {b r n : Nat} {L R : List α} {S : List Nat} (h : Rg tk q ok w b r L R n) (hk : Kpt S w w') (hb : b ∉ S) (hr : r ∉ S) : Rg tk q ok w' b r L R n := by
  obtain ⟨D, left, h1, h2⟩ := h
  refine ⟨D, left, ?_, h2⟩
  obtain ⟨es, clock, since, seen, c0, g1, g2, g3, g4, g5, g6⟩ := h1
  exact ⟨es, clock, since, seen, c0, hk.block g1 hb, g2, g3, g4, hk.block g5 hr, g6⟩
theorem Rg.lt {w : World} {b r n : Nat} {L R : List α} (h : Rg tk q ok w b r L R n) : r < w.heap.size := by
  obtain ⟨D, left, h1, _⟩ := h
  exact h1.lt
def St (tS tk : TypeId) (q : α → Lit) (ok : α → Prop) (w : World) (B sb mb : Nat) (L : List α) : Prop :=
  B ≤ sb ∧ B ≤ mb ∧ w.heap[sb]? = some (.cells #[.map (some mb), .slice none 0 0] tS (0, 0)) ∧ Mq tk q ok w mb L
variable {tS : TypeId}
theorem St.lt {w : World} {B sb mb : Nat} {L : List α} (h : St tS tk q ok w B sb mb L) : sb < w.heap.size ∧ mb < w.heap.size ∧ sb ≠ mb := by
  obtain ⟨_, _, h1, h2⟩ := h
  obtain ⟨es, k, h3⟩ := h2.map
  refine ⟨(Array.getElem?_eq_some_iff.1 h1).1, (Array.getElem?_eq_some_iff.1 h3).1, ?_⟩
  rintro rfl
  rw [h1] at h3
  cases h3
theorem St.kpt {w w' : World} {B sb mb : Nat} {L : List α} {S : List Nat} (h : St tS tk q ok w B sb mb L) (hk : Kpt S w w') (h1 : sb ∉ S) (h2 : mb ∉ S) : St tS tk q ok w' B sb mb L :=
  ⟨h.1, h.2.1, hk.block h.2.2.1 h1, h.2.2.2.kpt hk h2⟩
theorem St.mono {w : World} {B B' sb mb : Nat} {L : List α} (h : St tS tk q ok w B sb mb L) (hB : B' ≤ B) : St tS tk q ok w B' sb mb L := ⟨Nat.le_trans hB h.1, Nat.le_trans hB h.2.1, h.2.2⟩
theorem St.cells {w : World} {B sb mb : Nat} {L : List α} (h : St tS tk q ok w B sb mb L) : w.cell? ⟨sb, 0, none⟩ = some (.map (some mb)) ∧ w.cell? ⟨sb, 1, none⟩ = some (.slice none 0 0) ∧ w.frozen? ⟨sb, 1, none⟩ = false := by
  obtain ⟨_, _, h1, _⟩ := h
  refine ⟨?_, ?_, ?_⟩
  · simp [World.cell?, h1]
  · simp [World.cell?, h1]
  · simp [World.frozen?, h1]
theorem St.bel {w w' : World} {B sb mb : Nat} {L : List α} (h : St tS tk q ok w B sb mb L) (hb : Below w.heap.size w w') : St tS tk q ok w' B sb mb L := h.kpt (.of_below (S := []) hb) (by simp) (by simp)
end
end Go.Proofs.YtlmpnmnfloeoiaaGreat.S
namespace Go.Proofs.YtlmpnmnfloeoiaaGreat.S
open Go.RowKit Go.Maps
abbrev cS (x : ByteArray) : Value := .string x
def qS (x : ByteArray) : Lit := .string x.data.toList
def okI (x : Int) : Prop := (Lit.int .i64 x).wf = true
def okS (x : ByteArray) : Prop := x.size ≤ maxLen
def ltS (x y : ByteArray) : Bool := Op.bytesLess x.toList y.toList
theorem keyOf_string_inv {P : Program} {k : TypeId} (hk : P.underlying k = some .string) {key : Value} {kl : Lit} (h : keyOf P k key = some kl) : ∃ x : ByteArray, key = .string x ∧ kl = .string x.data.toList ∧ x.size ≤ maxLen := by
  cases key <;> simp [keyOf, hk, mapKey] at h
  rename_i s
  exact ⟨s, rfl, h.2.symm, h.1⟩
theorem qS_inj {a b : ByteArray} (h : qS a = qS b) : a = b := by
  unfold qS at h
  simp only [Lit.string.injEq] at h
  obtain ⟨a⟩ := a
  obtain ⟨b⟩ := b
  simp only at h
  rw [Array.toList_inj.1 h]
theorem elS : El 9 cS qS okS where
  law := string_keyed Tryz.underlying9
  key h := WideMaps.keyOf_string_mk Tryz.underlying9 h
  inv h := by
    obtain ⟨x, h1, h2, h3⟩ := keyOf_string_inv Tryz.underlying9 h
    exact ⟨x, h1, h2, h3⟩
  inj h := qS_inj h
  isKey x := by unfold qS WideAt.IsKeyLit; trivial
  one _ := rfl
theorem bl_irr : ∀ a : List UInt8, Op.bytesLess a a = false
  | [] => rfl
  | a :: l => by simp [Op.bytesLess, bl_irr l]
theorem bl_tr : ∀ {a b c : List UInt8}, Op.bytesLess a b = true → Op.bytesLess b c = true → Op.bytesLess a c = true
  | _, _, [], _, h => by simp [Op.bytesLess] at h
  | _, [], _ :: _, h, _ => by simp [Op.bytesLess] at h
  | [], _ :: _, _ :: _, _, _ => rfl
  | a :: l, b :: m, c :: n, h1, h2 => by
    simp only [Op.bytesLess, Bool.or_eq_true, decide_eq_true_eq, Bool.and_eq_true, beq_iff_eq] at h1 h2 ⊢
    rcases h1 with h1 | ⟨rfl, h1⟩
    · rcases h2 with h2 | ⟨rfl, h2⟩
      · exact .inl (UInt8.lt_trans h1 h2)
      · exact .inl h1
    · rcases h2 with h2 | ⟨rfl, h2⟩
      · exact .inl h2
      · exact .inr ⟨rfl, bl_tr h1 h2⟩
theorem bl_tot : ∀ {a b : List UInt8}, Op.bytesLess a b = false → Op.bytesLess b a = false → a = b
  | [], [], _, _ => rfl
  | [], _ :: _, h, _ => by simp [Op.bytesLess] at h
  | _ :: _, [], _, h => by simp [Op.bytesLess] at h
  | a :: l, b :: m, h1, h2 => by
    simp only [Op.bytesLess, Bool.or_eq_false_iff, decide_eq_false_iff_not, Bool.and_eq_false_imp, beq_iff_eq] at h1 h2
    have e : a = b := by
      have g1 := h1.1
      have g2 := h2.1
      rw [UInt8.lt_iff_toNat_lt] at g1 g2
      exact UInt8.toNat_inj.1 (by omega)
    subst e
    rw [bl_tot (h1.2 rfl) (h2.2 rfl)]
theorem txt_inj {a b : ByteArray} (h : a.toList = b.toList) : a = b := by
  rw [ByteArray.toList_eq, ByteArray.toList_eq] at h
  obtain ⟨⟨a⟩⟩ := a
  obtain ⟨⟨b⟩⟩ := b
  rw [show a = b from h]
theorem txt_ne {a b : ByteArray} (h : a ≠ b) : (a.toList == b.toList) = false := by rw [beq_eq_false_iff_ne]; exact fun e => h (txt_inj e)
theorem txt_eq {a b : ByteArray} (h : a = b) : (a.toList == b.toList) = true := by rw [h]; simp
theorem toS : TO ltS where
  irr _ := bl_irr _
  tr h1 h2 := bl_tr h1 h2
  tot h1 h2 := txt_inj (bl_tot h1 h2)
theorem ret_bool {a b : Bool} (h : a = b) : Ending.returned (.bool a) = .returned (.bool b) := by rw [h]
theorem zero0 (w : World) : (zeroValue 60).run Tryz.prog w = .ok (.agg #[]) w := by kernel_rfl
theorem infS : Inf1 9 23 16 (.string ⟨#[]⟩) := ⟨by kernel_rfl, Tryz.underlying23, rfl, by decide⟩
theorem odd_S (x : ByteArray) (w : World) : Calls Tryz.prog 107 #[.string x] w fun e w' => e = .returned (.bool false) ∧ w = w' := by
  go_enter Tryz.func107, Tryz.ntmps107
  go_wp2
  go_ret
  exact ⟨by simp, rfl⟩
end Go.Proofs.YtlmpnmnfloeoiaaGreat.S
namespace Go.Proofs.YtlmpnmnfloeoiaaGreat.S
open Go.RowKit Go.Maps
open Classical in
noncomputable def heldB {β : Type} (mk : β → Value) (v : Value) : Option (DataW Value × List MemPlace) := if (∃ c, v = mk c) then some (.held v, []) else none
theorem heldB_mk {β : Type} {mk : β → Value} (c : β) : heldB mk (mk c) = some (.held (mk c), []) := by unfold heldB; rw [if_pos ⟨c, rfl⟩]
theorem heldB_inv {β : Type} {mk : β → Value} {v : Value} {y : DataW Value × List MemPlace} (h : heldB mk v = some y) : ∃ c, v = mk c ∧ y = (.held (mk c), []) := by
  unfold heldB at h
  split at h
  · rename_i hc
    obtain ⟨c, rfl⟩ := hc
    exact ⟨c, rfl, (Option.some.inj h).symm⟩
  · cases h
structure Kd {α : Type} (tk : TypeId) (c : α → Value) (q : α → Lit) (ok : α → Prop) : Prop where
  law : Keyed Tryz.prog tk
  key : ∀ {x}, ok x → keyOf Tryz.prog tk (c x) = some (q x)
  inv : ∀ {v kl}, keyOf Tryz.prog tk v = some kl → ∃ x, v = c x ∧ kl = q x ∧ ok x
  inj : ∀ {x y}, ok x → ok y → q x = q y → x = y
  isKey : ∀ {x}, ok x → WideAt.IsKeyLit (q x)
theorem El.kd {α : Type} {tk : TypeId} {c : α → Value} {q : α → Lit} {ok : α → Prop} (E : El tk c q ok) : Kd tk c q ok := ⟨E.law, E.key, E.inv, fun _ _ h => E.inj h, fun {x} _ => E.isKey x⟩
section
variable {α β : Type} {tk tm : TypeId} {c : α → Value} {q : α → Lit} {ok : α → Prop} {mk : β → Value} {V : α → β → Prop}
def ValD (q : α → Lit) (ok : α → Prop) (mk : β → Value) (V : α → β → Prop) (D : DataW Value) (L : List α) : Prop :=
  L.Nodup ∧ (∀ x ∈ L, ok x) ∧ Maps.size D = L.length ∧ (∀ x ∈ L, Maps.has D (q x) = true ∧ ∃ v, (∀ z, D.atKey (q x) z = .held (mk v)) ∧ V x v) ∧ ∀ x, ok x → x ∉ L → Maps.has D (q x) = false
theorem ValD.put [DecidableEq α] (E : Kd tk c q ok) {D : DataW Value} {L : List α} (h : ValD q ok mk V D L) (hD : Tidy D) {x : α} {v : β} (hk : ok x) (hv : V x v) : ValD q ok mk V (D.put (q x) (.held (mk v))) (addS L x) := by
  obtain ⟨h1, h2, h3, h4, h5⟩ := h
  have hne : ∀ y, ok y → y ≠ x → q y ≠ q x := fun y hy e h => e (E.inj hy hk h)
  have hsz := size_put (k := q x) hD (.held (mk v))
  have hat : ∀ y, ok y → y ∈ L ∨ y = x → Maps.has (D.put (q x) (.held (mk v))) (q y) = true ∧ ∃ u, (∀ z, (D.put (q x) (.held (mk v))).atKey (q y) z = .held (mk u)) ∧ V y u := by
    intro y hy hm
    by_cases e : y = x
    · subst e
      exact ⟨has_put_same hD.isMap (E.isKey hk) _, v, fun z => atKey_put_same hD.isMap (E.isKey hk) _ z, hv⟩
    · obtain ⟨g1, u, g2, g3⟩ := h4 y (hm.elim id (fun h => absurd h e))
      exact ⟨by rw [has_put_other (hne y hy e)]; exact g1, u, fun z => by rw [atKey_put_other (hne y hy e)]; exact g2 z, g3⟩
  have hno : ∀ y, ok y → y ∉ L → y ≠ x → Maps.has (D.put (q x) (.held (mk v))) (q y) = false := fun y hy hn e => by rw [has_put_other (hne y hy e)]; exact h5 y hy hn
  by_cases hx : x ∈ L
  · rw [(h4 x hx).1, if_pos rfl] at hsz
    rw [addS_in hx]
    exact ⟨h1, h2, hsz.trans h3, fun y hy => hat y (h2 y hy) (.inl hy), fun y hy hn => hno y hy hn (fun e => hn (e ▸ hx))⟩
  · rw [h5 x hk hx] at hsz
    rw [addS_out hx]
    refine ⟨?_, ?_, ?_, ?_, ?_⟩
    · rw [List.nodup_append]
      exact ⟨h1, by simp, fun y hy z hz e => hx (by rw [List.mem_singleton.1 hz] at e; rw [← e]; exact hy)⟩
    · intro y hy
      rcases List.mem_append.1 hy with hy | hy
      · exact h2 y hy
      · rw [List.mem_singleton.1 hy]; exact hk
    · rw [hsz, List.length_append, h3]; rfl
    · intro y hy
      rcases List.mem_append.1 hy with hy | hy
      · exact hat y (h2 y hy) (.inl hy)
      · exact hat y (by rw [List.mem_singleton.1 hy]; exact hk) (.inr (List.mem_singleton.1 hy))
    · intro y hy hn
      exact hno y hy (fun h => hn (List.mem_append_left _ h)) (fun e => hn (List.mem_append_right _ (by rw [e]; simp)))
theorem ValD.del [DecidableEq α] (E : Kd tk c q ok) {D : DataW Value} {L : List α} (h : ValD q ok mk V D L) (hD : Tidy D) {x : α} (hk : ok x) : ValD q ok mk V (D.del (q x)) (delS L x) := by
  obtain ⟨h1, h2, h3, h4, h5⟩ := h
  have hne : ∀ y, ok y → y ≠ x → q y ≠ q x := fun y hy e h => e (E.inj hy hk h)
  have hsz := size_del (k := q x) hD
  refine ⟨delS_nodup h1 x, fun y hy => h2 y (delS_mem.1 hy).1, ?_, ?_, ?_⟩
  · by_cases hx : x ∈ L
    · rw [(h4 x hx).1, if_pos rfl, h3] at hsz
      have h6 : (x :: delS L x).length = L.length := nodup_len_eq (List.nodup_cons.2 ⟨fun h => (delS_mem.1 h).2 rfl, delS_nodup h1 x⟩) h1 (fun y => by
        rw [List.mem_cons, delS_mem]
        refine ⟨fun h => h.elim (fun e => e ▸ hx) (fun h => h.1), fun h => ?_⟩
        by_cases e : y = x
        · exact .inl e
        · exact .inr ⟨h, e⟩)
      rw [List.length_cons] at h6
      omega
    · rw [h5 x hk hx] at hsz
      have : delS L x = L := by
        unfold delS
        rw [List.filter_eq_self]
        intro y hy
        exact decide_eq_true (fun e => hx (e ▸ hy))
      rw [this, ← h3]
      simpa using hsz
  · intro y hy
    obtain ⟨hy1, hy2⟩ := delS_mem.1 hy
    obtain ⟨g1, u, g2, g3⟩ := h4 y hy1
    exact ⟨by rw [has_del_other (hne y (h2 y hy1) hy2)]; exact g1, u, fun z => by rw [atKey_del_other (hne y (h2 y hy1) hy2)]; exact g2 z, g3⟩
  · intro y hy hn
    by_cases e : y = x
    · subst e; exact has_del_same
    · rw [has_del_other (hne y hy e)]
      exact h5 y hy (fun h => hn (delS_mem.2 ⟨h, e⟩))
def Mv (tk : TypeId) (q : α → Lit) (ok : α → Prop) (mk : β → Value) (V : α → β → Prop) (w : World) (b : Nat) (L : List α) : Prop := ∃ D : DataW Value, w.ownsMap Tryz.prog tk (heldB mk) b L.length D ∧ ValD q ok mk V D L
def MvAt (tk : TypeId) (q : α → Lit) (mk : β → Value) (w : World) (b : Nat) (x : α) (v : β) : Prop := ∃ (n : Nat) (D : DataW Value), w.ownsMap Tryz.prog tk (heldB mk) b n D ∧ (∀ z, D.atKey (q x) z = .held (mk v)) ∧ Maps.has D (q x) = true
def MvNo (tk : TypeId) (q : α → Lit) (mk : β → Value) (w : World) (b : Nat) (x : α) : Prop := ∃ (n : Nat) (D : DataW Value), w.ownsMap Tryz.prog tk (heldB mk) b n D ∧ Maps.has D (q x) = false
theorem Mv.made (w : World) : Mv tk q ok mk V (w.alloc (.map #[] 0)) w.heap.size ([] : List α) := ⟨_, World.ownsMap_made _ _ _ _, List.nodup_nil, (fun x hx => by cases hx), rfl, (fun x hx => by cases hx), fun _ _ _ => rfl⟩
theorem Mv.map {w : World} {b : Nat} {L : List α} (h : Mv tk q ok mk V w b L) : ∃ es k, w.heap[b]? = some (.map es k) := by
  obtain ⟨D, ⟨es, k, hb, _⟩, _⟩ := h
  exact ⟨es, k, hb⟩
theorem Mv.lt {w : World} {b : Nat} {L : List α} (h : Mv tk q ok mk V w b L) : b < w.heap.size := by
  obtain ⟨es, k, hb⟩ := h.map
  exact (Array.getElem?_eq_some_iff.1 hb).1
theorem Mv.kpt {w w' : World} {b : Nat} {L : List α} {S : List Nat} (h : Mv tk q ok mk V w b L) (hk : Kpt S w w') (hS : b ∉ S) : Mv tk q ok mk V w' b L := by
  obtain ⟨D, ⟨es, k, hb, hr⟩, h2⟩ := h
  exact ⟨D, ⟨es, k, hk.block hb hS, hr⟩, h2⟩
theorem Mv.imp {V' : α → β → Prop} {w : World} {b : Nat} {L : List α} (h : Mv tk q ok mk V w b L) (hV : ∀ x v, x ∈ L → V x v → V' x v) : Mv tk q ok mk V' w b L := by
  obtain ⟨D, h0, h1, h2, h3, h4, h5⟩ := h
  refine ⟨D, h0, h1, h2, h3, fun x hx => ?_, h5⟩
  obtain ⟨g1, u, g2, g3⟩ := h4 x hx
  exact ⟨g1, u, g2, hV x u hx g3⟩
theorem Mv.nodup {w : World} {b : Nat} {L : List α} (h : Mv tk q ok mk V w b L) : L.Nodup := by
  obtain ⟨D, _, h, _⟩ := h
  exact h
theorem Mv.at {w : World} {b : Nat} {L : List α} (h : Mv tk q ok mk V w b L) {x : α} (hx : x ∈ L) : ∃ v, MvAt tk q mk w b x v ∧ V x v := by
  obtain ⟨D, h0, h1, h2, h3, h4, h5⟩ := h
  obtain ⟨g1, u, g2, g3⟩ := h4 x hx
  exact ⟨u, ⟨_, D, h0, g2, g1⟩, g3⟩
theorem Mv.no {w : World} {b : Nat} {L : List α} (h : Mv tk q ok mk V w b L) {x : α} (ho : ok x) (hx : x ∉ L) : MvNo tk q mk w b x := by
  obtain ⟨D, h0, h1, h2, h3, h4, h5⟩ := h
  exact ⟨_, D, h0, h5 x ho hx⟩
theorem MvAt.kpt {w w' : World} {b : Nat} {x : α} {v : β} {S : List Nat} (h : MvAt tk q mk w b x v) (hk : Kpt S w w') (hS : b ∉ S) : MvAt tk q mk w' b x v := by
  obtain ⟨n, D, ⟨es, k, hb, hr⟩, h2⟩ := h
  exact ⟨n, D, ⟨es, k, hk.block hb hS, hr⟩, h2⟩
theorem MvNo.kpt {w w' : World} {b : Nat} {x : α} {S : List Nat} (h : MvNo tk q mk w b x) (hk : Kpt S w w') (hS : b ∉ S) : MvNo tk q mk w' b x := by
  obtain ⟨n, D, ⟨es, k, hb, hr⟩, h2⟩ := h
  exact ⟨n, D, ⟨es, k, hk.block hb hS, hr⟩, h2⟩
theorem wp_look_at (E : Kd tk c q ok) {te : TypeId} (ht : Tryz.prog.underlying tm = some (.map tk te)) {w : World} (z : β) (hz : (zeroValue te).run Tryz.prog w = .ok (mk z) w) {ops : Array Oper} {rest : List Oper} {o : Oper} {a : Act} {Q : Exit → Act → World → Prop} (hg : o.guard = none) (m x : Operand) (hop : o.op = Op.lookup tm m x true)
    (b : Nat) (hm : a.eval m = .map (some b)) (s : α) (v : β) (h : MvAt tk q mk w b s v) (hs : ok s) (hx : a.eval x = c s)
    (hK : wpList Tryz.prog ops Q rest (a.put o.dst (.tuple #[mk v, .bool true])) w) :
    wpList Tryz.prog ops Q (o :: rest) a w := by
  obtain ⟨n, D, h1, h2, h3⟩ := h
  refine wpList_lookup_own_ok w hg m x _ hop tk te E.law ht _ hz _ [] (heldB_mk z) b n D hm h1 _ (q s) hx (E.key hs) ?_
  intro u ps hu
  rw [h2] at hu
  obtain ⟨u', rfl, e⟩ := heldB_inv hu
  simp only [Prod.mk.injEq, DataW.held.injEq] at e
  rw [h3, ← e.1]
  exact hK
theorem wp_look_no (E : Kd tk c q ok) {te : TypeId} (ht : Tryz.prog.underlying tm = some (.map tk te)) {w : World} (z : β) (hz : (zeroValue te).run Tryz.prog w = .ok (mk z) w) {ops : Array Oper} {rest : List Oper} {o : Oper} {a : Act} {Q : Exit → Act → World → Prop} (hg : o.guard = none) (m x : Operand) (hop : o.op = Op.lookup tm m x true)
    (b : Nat) (hm : a.eval m = .map (some b)) (s : α) (h : MvNo tk q mk w b s) (hs : ok s) (hx : a.eval x = c s)
    (hK : wpList Tryz.prog ops Q rest (a.put o.dst (.tuple #[mk z, .bool false])) w) :
    wpList Tryz.prog ops Q (o :: rest) a w := by
  obtain ⟨n, D, h1, h3⟩ := h
  refine wpList_lookup_own_ok w hg m x _ hop tk te E.law ht _ hz _ [] (heldB_mk z) b n D hm h1 _ (q s) hx (E.key hs) ?_
  intro u ps hu
  rw [atKey_of_not_has h3] at hu
  obtain ⟨u', rfl, e⟩ := heldB_inv hu
  simp only [Prod.mk.injEq, DataW.held.injEq] at e
  rw [h3, ← e.1]
  exact hK
theorem wp_storeV [DecidableEq α] (E : Kd tk c q ok) {te : TypeId} (ht : Tryz.prog.underlying tm = some (.map tk te)) {w : World} {ops : Array Oper} {rest : List Oper} {o : Oper} {a : Act} {Q : Exit → Act → World → Prop} (hg : o.guard = none) (m x v : Operand) (hop : o.op = Op.mapUpdate tm m x v)
    (b : Nat) (L : List α) (hm : a.eval m = .map (some b)) (h : Mv tk q ok mk V w b L) (s : α) (u : β) (hs : ok s) (hx : a.eval x = c s) (hv : a.eval v = mk u) (hV : V s u) (hl : L.length ≤ 1000000)
    (hK : ∀ w', Mv tk q ok mk V w' b (addS L s) → w.grownBy w' (some b) → wpList Tryz.prog ops Q rest (a.put o.dst undef) w') :
    wpList Tryz.prog ops Q (o :: rest) a w := by
  obtain ⟨D, h1, h2⟩ := h
  refine wpList_mapUpdate_own w hg m x v _ hop tk te E.law ht (heldB mk) b L.length D hm h1 (by unfold maxLen; omega) _ _ (q s) hx hv (E.key hs) (.held (mk u)) [] (heldB_mk u) ?_
  intro w' hown hg
  have h3 := h2.put E (h1.tidy E.law) hs hV
  refine hK w' ⟨D.put (q s) (.held (mk u)), ?_, h3⟩ hg
  obtain ⟨es, k, g1, g2, g3, g4⟩ := hown
  refine ⟨es, k, g1, g2, ?_, g4⟩
  have e : Maps.size (D.put (q s) (.held (mk u))) = es.size := by rw [g4]; simp [Maps.size, length_sorted]
  rw [← e, h3.2.2.1]
  exact Nat.le_refl _
theorem wp_delV [DecidableEq α] (E : Kd tk c q ok) {te : TypeId} (ht : Tryz.prog.underlying tm = some (.map tk te)) {w : World} {ops : Array Oper} {rest : List Oper} {o : Oper} {a : Act} {Q : Exit → Act → World → Prop} (hg : o.guard = none) (m x : Operand)
    (hop : o.op = Op.call { callee := Callee.builtin Builtin.delete, args := #[m, x], argTypes := #[tm, tk] })
    (b : Nat) (L : List α) (hm : a.eval m = .map (some b)) (h : Mv tk q ok mk V w b L) (s : α) (hs : ok s) (hx : a.eval x = c s)
    (hK : ∀ w', Mv tk q ok mk V w' b (delS L s) → w.grownBy w' (some b) → wpList Tryz.prog ops Q rest (a.put o.dst (.tuple #[])) w') :
    wpList Tryz.prog ops Q (o :: rest) a w := by
  obtain ⟨D, h1, h2⟩ := h
  refine wpList_delete_own w hg m x _ tk hop te E.law ht (heldB mk) b L.length D hm h1 _ (q s) hx (E.key hs) ?_
  intro w' hown ht'
  have h3 := h2.del E (h1.tidy E.law) hs
  refine hK w' ⟨_, ?_, h3⟩ ht'.grown
  obtain ⟨es, k, g1, g2, g3, g4⟩ := hown
  refine ⟨es, k, g1, g2, ?_, g4⟩
  have e : Maps.size (D.del (q s)) = es.size := by rw [g4]; simp [Maps.size, length_sorted]
  rw [← e, h3.2.2.1]
  exact Nat.le_refl _
theorem Mv.len {te : TypeId} (ht : Tryz.prog.underlying tm = some (.map tk te)) {w : World} {b : Nat} {L : List α} (h : Mv tk q ok mk V w b L) (ty : TypeId) : (Builtin.len_ #[tm] ty #[.map (some b)]).run Tryz.prog w = .ok (.int .i64 (L.length : Int)) w := by
  obtain ⟨D, h1, h2⟩ := h
  rw [h1.len ht ty, h2.2.2.1]
def Rv [DecidableEq α] (tk : TypeId) (q : α → Lit) (ok : α → Prop) (mk : β → Value) (V : α → β → Prop) (w : World) (b r : Nat) (L R : List α) (n : Nat) : Prop := ∃ (D : DataW Value) (left : Lit → Bool), w.ranges Tryz.prog tk (heldB mk) b r L.length D left n ∧ ValD q ok mk V D L ∧
  R.Nodup ∧ (∀ x ∈ R, x ∈ L) ∧ (∀ x, ok x → left (q x) = decide (x ∈ L ∧ x ∉ R)) ∧ ∀ kl, left kl = true → ∃ x, kl = q x ∧ ok x
theorem Rv.kpt [DecidableEq α] {w w' : World} {b r n : Nat} {L R : List α} {S : List Nat} (h : Rv tk q ok mk V w b r L R n) (hk : Kpt S w w') (hb : b ∉ S) (hr : r ∉ S) : Rv tk q ok mk V w' b r L R n := by
  obtain ⟨D, left, h1, h2⟩ := h
  refine ⟨D, left, ?_, h2⟩
  obtain ⟨es, clock, since, seen, c0, g1, g2, g3, g4, g5, g6⟩ := h1
  exact ⟨es, clock, since, seen, c0, hk.block g1 hb, g2, g3, g4, hk.block g5 hr, g6⟩
theorem Rv.left [DecidableEq α] {w : World} {b r n : Nat} {L R : List α} (h : Rv tk q ok mk V w b r L R n) : w.rangeLeft b r = n := by
  obtain ⟨D, left, h1, _⟩ := h
  exact h1.left_eq
theorem Rv.lt [DecidableEq α] {w : World} {b r n : Nat} {L R : List α} (h : Rv tk q ok mk V w b r L R n) : r < w.heap.size := by
  obtain ⟨D, left, h1, _⟩ := h
  exact h1.lt
theorem Rv.nodup [DecidableEq α] {w : World} {b r n : Nat} {L R : List α} (h : Rv tk q ok mk V w b r L R n) : R.Nodup := by
  obtain ⟨D, left, h1, h2, h3, _⟩ := h
  exact h3
theorem Rv.sub [DecidableEq α] {w : World} {b r n : Nat} {L R : List α} (h : Rv tk q ok mk V w b r L R n) : ∀ x ∈ R, x ∈ L := by
  obtain ⟨D, left, h1, h2, h3, h4, _⟩ := h
  exact h4
theorem wp_rangeV [DecidableEq α] (E : Kd tk c q ok) {te : TypeId} (ht : Tryz.prog.underlying tm = some (.map tk te)) {w : World} {ops : Array Oper} {rest : List Oper} {o : Oper} {a : Act} {Q : Exit → Act → World → Prop} (hg : o.guard = none) (m : Operand) (hop : o.op = Op.range tm m)
    (b : Nat) (L : List α) (hm : a.eval m = .map (some b)) (h : Mv tk q ok mk V w b L)
    (hK : ∀ w' n, Rv tk q ok mk V w' b w.heap.size L [] n → w.grownBy w' none → w'.heap.size = w.heap.size + 1 → wpList Tryz.prog ops Q rest (a.put o.dst (.pointer (some ⟨w.heap.size, 0, none⟩))) w') :
    wpList Tryz.prog ops Q (o :: rest) a w := by
  obtain ⟨D, h1, h2⟩ := h
  refine wpList_range_own w hg m _ hop tk te E.law ht (heldB mk) b L.length D hm h1 ?_
  intro w' hr hgr hsz
  refine hK w' _ ⟨D, _, hr, h2, List.nodup_nil, (fun x hx => by cases hx), (fun x hx => ?_), fun kl hkl => ?_⟩ hgr hsz
  · by_cases hm : x ∈ L
    · rw [(h2.2.2.2.1 x hm).1]; simp [hm]
    · rw [h2.2.2.2.2 x hx hm]; simp [hm]
  · obtain ⟨es, clock, since, seen, c0, g1, g2, g3, g4, g5, g6, g7, g8, g9, _⟩ := hr
    obtain ⟨e, he, rfl⟩ := g9 kl hkl
    obtain ⟨y, hy⟩ := g2.reads e he
    rw [WideElems.rg_of hy]
    obtain ⟨x, _, hx, ho⟩ := E.inv (WideElems.rd_key hy)
    exact ⟨x, hx, ho⟩
def MoreV [DecidableEq α] (tk : TypeId) (c : α → Value) (q : α → Lit) (ok : α → Prop) (mk : β → Value) (V : α → β → Prop) (w : World) (ops : Array Oper) (rest : List Oper) (o : Oper) (a : Act) (Q : Exit → Act → World → Prop) (b r n : Nat) (L R : List α) : Prop :=
  ∀ (x : α) (v : β) (w' : World) (n' : Nat), ok x → x ∈ L → x ∉ R → V x v → Rv tk q ok mk V w' b r L (R ++ [x]) n' → n' < n → w.grownBy w' (some r) → w'.heap.size = w.heap.size →
      (Instr.entry (.pointer (some ⟨r, 0, none⟩))).run Tryz.prog w' = .ok (.tuple #[c x, mk v]) w' → wpList Tryz.prog ops Q rest (a.put o.dst (.tuple #[.bool true, c x, mk v])) w'
def DoneV (w : World) (ops : Array Oper) (rest : List Oper) (o : Oper) (a : Act) (Q : Exit → Act → World → Prop) (L R : List α) : Prop :=
  (∀ x, x ∈ R ↔ x ∈ L) → wpList Tryz.prog ops Q rest (a.put o.dst (.tuple #[.bool false])) w
theorem wp_nextV [DecidableEq α] (E : Kd tk c q ok) (hmk : ∀ u v, mk u = mk v → u = v) {w : World} {ops : Array Oper} {rest : List Oper} {o : Oper} {a : Act} {Q : Exit → Act → World → Prop} (hg : o.guard = none) (it : Operand) (hop : o.op = Op.next it false)
    (b r n : Nat) (L R : List α) (hit : a.eval it = .pointer (some ⟨r, 0, none⟩)) (h : Rv tk q ok mk V w b r L R n)
    (hDone : DoneV w ops rest o a Q L R)
    (hMore : MoreV tk c q ok mk V w ops rest o a Q b r n L R) :
    wpList Tryz.prog ops Q (o :: rest) a w := by
  obtain ⟨D, left, h1, h2, h3, h4, h5, h6⟩ := h
  refine wpList_next_ranges (α := α) (β := β) w hg it hop tk E.law (heldB mk) c mk (fun key kl hk => by obtain ⟨x, hx, _⟩ := E.inv hk; exact ⟨x, hx⟩) (fun v y hv => by obtain ⟨u, hv, _⟩ := heldB_inv hv; exact ⟨u, hv⟩) b r _ D left n hit h1 ?_ ?_
  · intro _ hl
    refine hDone fun x => ⟨h4 x, fun hx => ?_⟩
    have := (h5 x (h2.2.1 x hx)).symm.trans (hl (q x))
    rw [decide_eq_false_iff_not] at this
    exact Classical.byContradiction fun hn => this ⟨hx, hn⟩
  · intro x u kl y w' n' hkey hleft hR hat hrg hlt hgr hsz hen
    obtain ⟨x', ex, rfl, hox⟩ := E.inv hkey
    have hin := (h5 x' hox).symm.trans hleft
    rw [decide_eq_true_iff] at hin
    rw [ex] at hen ⊢
    obtain ⟨u', e1, rfl⟩ := heldB_inv hR
    obtain ⟨_, v, g1, g2⟩ := h2.2.2.2.1 x' hin.1
    have e2 := (g1 (.map [])).symm.trans (hat (.map []))
    simp only [DataW.held.injEq] at e2
    have e3 : u = v := (hmk _ _ e1).trans (hmk _ _ e2).symm
    subst e3
    refine hMore x' u w' n' hox hin.1 hin.2 g2 ⟨D, _, hrg, h2, ?_, ?_, ?_, ?_⟩ hlt hgr hsz hen
    · rw [List.nodup_append]
      exact ⟨h3, by simp, fun y hy z hz e => hin.2 (by rw [List.mem_singleton.1 hz] at e; rw [← e]; exact hy)⟩
    · intro y hy
      rcases List.mem_append.1 hy with hy | hy
      · exact h4 y hy
      · rw [List.mem_singleton.1 hy]; exact hin.1
    · intro z hz
      by_cases e : z = x'
      · subst e
        rw [WideAt.sameKey_self (E.isKey hz)]
        simp
      · have hs : (q z).sameKey (q x') = false := sameKey_ne (fun h => e (E.inj hz hox h))
        show (left (q z) && !(q z).sameKey (q x')) = _
        rw [hs, h5 z hz]
        simp [e]
    · intro kl' hk'
      simp only [Bool.and_eq_true] at hk'
      exact h6 kl' hk'.1
end
end Go.Proofs.YtlmpnmnfloeoiaaGreat.S
namespace Go.Proofs.YtlmpnmnfloeoiaaGreat
open Go.RowKit
def nb (v : Nat) : List UInt8 :=
  if v < 128 then [UInt8.ofNat v] else UInt8.ofNat (v % 128 + 128) :: nb (v / 128)
termination_by v
decreasing_by omega
def cnt (z : Int) : Nat := z.toNat
def u8 (x : UInt8) : Value := .int .u8 (x.toNat : Int)
def Rd (w : World) (v : Value) (l : List UInt8) : Prop :=
  ∃ (p : Option Addr) (cap : Nat), v = .slice p l.length cap ∧ l.length ≤ cap ∧ (p = none → cap = 0) ∧
    ∀ a, p = some a → ∀ (i : Nat) x, l[i]? = some x → w.cell? (a.add i) = some (u8 x)
def Own (w : World) (B : Nat) (v : Value) (l : List UInt8) : Prop := w.ownsRow B 5 1 v l.length (l.map u8)
theorem add_block (a : Addr) (i : Nat) : (a.add i).block = a.block := by unfold Addr.add; split <;> rfl
theorem Rd.below {B : Nat} {w w' : World} {v : Value} {l : List UInt8} (h : Rd w v l) (hb : Below B w w') (hv : l = [] ∨ ∀ g, v.ownBlock = some g → g < B) : Rd w' v l := by
  obtain ⟨p, cap, rfl, h1, h2, h3⟩ := h
  rcases hv with rfl | hv
  · exact ⟨p, cap, rfl, h1, h2, fun a ha i x hx => by simp at hx⟩
  refine ⟨p, cap, rfl, h1, h2, fun a ha i x hx => ?_⟩
  have hlt := hv a.block (by rw [ha]; rfl)
  rw [hb.cell (p := a.add i) (by rw [add_block]; exact hlt)]
  exact h3 a ha i x hx
theorem Own.mono {w : World} {B B' : Nat} {v : Value} {l : List UInt8} (h : Own w B v l) (hB : B' ≤ B) : Own w B' v l := by
  refine ⟨h.1, ?_⟩
  rcases h.2 with h' | ⟨g, cap, cur, e, hb, r⟩
  · exact .inl h'
  · exact .inr ⟨g, cap, cur, e, Nat.le_trans hB hb, r⟩
theorem Own.below {w w' : World} {B C : Nat} {v : Value} {l : List UInt8} (h : Own w B v l) (hb : Below C w w') (hC : ∀ g, v.ownBlock = some g → g < C) : Own w' B v l := by
  refine ⟨h.1, ?_⟩
  rcases h.2 with h' | ⟨g, cap, cur, e, hB, hg, r⟩
  · exact .inl h'
  · refine .inr ⟨g, cap, cur, e, hB, ?_, r⟩
    rw [hb.block g (hC g (by rw [e]; rfl))]
    exact hg
end Go.Proofs.YtlmpnmnfloeoiaaGreat
namespace Go.Proofs.YtlmpnmnfloeoiaaGreat
open Go.RowKit
def sb (s : ByteArray) : List UInt8 := s.data.toList
end Go.Proofs.YtlmpnmnfloeoiaaGreat
namespace Go.Proofs.YtlmpnmnfloeoiaaGreat
open Go.RowKit
theorem Own.alloc {w : World} {B : Nat} {v : Value} {l : List UInt8} (h : Own w B v l) (o : Obj) : Own (w.alloc o) B v l := World.ownsRow.alloc h o
theorem Own.lt {w : World} {B : Nat} {v : Value} {l : List UInt8} (h : Own w B v l) : ∀ k, v.ownBlock = some k → B ≤ k ∧ k < w.heap.size := World.ownsRow.lt h
end Go.Proofs.YtlmpnmnfloeoiaaGreat
namespace Go.Proofs.YtlmpnmnfloeoiaaGreat
open Go.RowKit
def RdI (w : World) (v : Value) (zs : List Int) : Prop :=
  ∃ (p : Option Addr) (cap : Nat), v = .slice p zs.length cap ∧ (∀ a, p = some a → zs ≠ [] → a.spot = none) ∧ (p = none → zs = []) ∧
    (∀ (i : Nat) x, zs[i]? = some x → -9223372036854775808 ≤ x ∧ x ≤ 9223372036854775807) ∧
    ∀ a, p = some a → ∀ (i : Nat) x, zs[i]? = some x → w.cell? ⟨a.block, a.off + i, none⟩ = some (.int .i64 x)
theorem RdI.below {B : Nat} {w w' : World} {v : Value} {l : List Int} (h : RdI w v l) (hb : Below B w w') (hv : l = [] ∨ ∀ g, v.ownBlock = some g → g < B) : RdI w' v l := by
  obtain ⟨p, cap, rfl, h1, h2, hr, h3⟩ := h
  rcases hv with rfl | hv
  · exact ⟨p, cap, rfl, h1, h2, hr, fun a ha i x hx => by simp at hx⟩
  refine ⟨p, cap, rfl, h1, h2, hr, fun a ha i x hx => ?_⟩
  have hlt := hv a.block (by rw [ha]; rfl)
  rw [hb.cell (p := ⟨a.block, a.off + i, none⟩) hlt]
  exact h3 a ha i x hx
end Go.Proofs.YtlmpnmnfloeoiaaGreat
namespace Go.Proofs.YtlmpnmnfloeoiaaGreat
open Go.RowKit
def twoN (n : Int) : Nat := min (cnt n) 65535
def two (n : Int) : List UInt8 := [UInt8.ofNat (twoN n % 256), UInt8.ofNat (twoN n / 256)]
theorem Rd.alloc {w : World} {v : Value} {l : List UInt8} (h : Rd w v l) (o : Obj) (hv : l = [] ∨ ∀ g, v.ownBlock = some g → g < w.heap.size) : Rd (w.alloc o) v l :=
  h.below ((Below.refl _ _).alloc (Nat.le_refl _) o) hv
end Go.Proofs.YtlmpnmnfloeoiaaGreat
namespace Go.Proofs.YtlmpnmnfloeoiaaGreat
open Go.RowKit
def Byte (w : World) (g : Nat) (bs : List UInt8) (i n : Nat) : Prop := ∃ c : UInt8, n = c.toNat ∧ bs[i]? = some c ∧ w.cell? ⟨g, i, none⟩ = some (.int .u8 (n : Int))
theorem Byte.cell {w : World} {g : Nat} {bs : List UInt8} {i n : Nat} (h : Byte w g bs i n) : w.cell? ⟨g, i, none⟩ = some (.int .u8 (n : Int)) := by
  obtain ⟨_, _, _, h⟩ := h
  exact h
end Go.Proofs.YtlmpnmnfloeoiaaGreat
namespace Go.Proofs.YtlmpnmnfloeoiaaGreat
open Go.RowKit
theorem grown_set (w : World) (rb j : Nat) (u : Value) : w.grownBy (w.setCell ⟨rb, j, none⟩ u) (some rb) :=
  ⟨rfl, rfl, rfl, by simp, fun k _ hk => heap_setCell_other w ⟨rb, j, none⟩ k u (fun e => hk (by simp [e]))⟩
theorem grown_drewN (w : World) (n : Nat) (r : Option Nat) : w.grownBy (w.drewN n) r := ⟨rfl, rfl, rfl, Nat.le_refl _, fun _ _ _ => rfl⟩
end Go.Proofs.YtlmpnmnfloeoiaaGreat
namespace Go.Proofs.YtlmpnmnfloeoiaaGreat
open Go.RowKit
theorem ret_str {a b : ByteArray} (h : a = b) : Ending.returned (.string a) = .returned (.string b) := by rw [h]
end Go.Proofs.YtlmpnmnfloeoiaaGreat
namespace Go.Proofs.YtlmpnmnfloeoiaaGreat
open Go.RowKit
theorem rd_nil (w : World) : Rd w (.slice none 0 0) [] := ⟨none, 0, rfl, Nat.le_refl _, fun _ => rfl, fun a ha => by cases ha⟩
def kb : List UInt8 := [172, 2, 3, 2, 97, 98, 1, 2, 128]
end Go.Proofs.YtlmpnmnfloeoiaaGreat
namespace Go.Proofs.YtlmpnmnfloeoiaaGreat
open Go.RowKit
theorem add_add (x : Addr) (i : Nat) (h : x.spot = none) : x.add i = ⟨x.block, x.off + i, none⟩ := by
  obtain ⟨b, o, s⟩ := x
  simp only at h
  subst h
  unfold Addr.add
  split <;> simp_all
end Go.Proofs.YtlmpnmnfloeoiaaGreat
namespace Go.Proofs.YtlmpnmnfloeoiaaGreat
open Go.RowKit
def RowAt (w : World) (b off len : Nat) (V : Nat → Value) : Prop := b < w.heap.size ∧ ∀ i, i < len → w.cell? ⟨b, off + i, none⟩ = some (V i)
theorem RowAt.below {w w' : World} {b off len i : Nat} {V : Nat → Value} (h : RowAt w b off len V) (hb : Below w.heap.size w w') (hi : i < len) : w'.cell? ⟨b, off + i, none⟩ = some (V i) :=
  (hb.cell (p := ⟨b, off + i, none⟩) h.1).trans (h.2 i hi)
end Go.Proofs.YtlmpnmnfloeoiaaGreat
namespace Go.Proofs
open Go.Shelf
def Tryz.lays169_ren : Go.Shelf.Ren := ⟨fun | 169 => 111 | n => n, fun | 70 => 167 | 9 => 9 | 0 => 0 | 72 => 169 | 37 => 69 | 127 => 188 | 3 => 3 | 5 => 5 | n => n, fun | n => n⟩
theorem Tryz.lays169 : Go.Proofs.Lays.n169 Tryz.prog Tryz.lays169_ren := {
  mixed := by kernel_rfl
  f169 := Tryz.func111.trans (congrArg some (by kernel_rfl))
  t0 := Tryz.underlying0
  a0 := Tryz.isAgg0
  z0 := Tryz.sizeOf0
  v0 := Tryz.zeroValue0
  t3 := Tryz.underlying3
  a3 := Tryz.isAgg3
  z3 := Tryz.sizeOf3
  v3 := Tryz.zeroValue3
  t9 := Tryz.underlying9
  a9 := Tryz.isAgg9
  z9 := Tryz.sizeOf9
  v9 := Tryz.zeroValue9
  t37 := Tryz.underlying69
  a37 := Tryz.isAgg69
  z37 := Tryz.sizeOf69
  v37 := Tryz.zeroValue69
  t70 := Tryz.underlying167
  a70 := Tryz.isAgg167
  z70 := Tryz.sizeOf167
  v70 := Tryz.zeroValue167
  t72 := Tryz.underlying169
  a72 := Tryz.isAgg169
  z72 := Tryz.sizeOf169
  v72 := Tryz.zeroValue169
  t127 := Tryz.underlying188
  a127 := Tryz.isAgg188
  z127 := Tryz.sizeOf188
  v127 := Tryz.zeroValue188 }
theorem Tryz.Builder_Extra_169 : Builder.Extra Tryz.prog Tryz.lays169_ren := {
  sizeBuilder := by kernel_rfl
  liesBuilder := by kernel_rfl
  t5 := Tryz.underlying5
  a5 := Tryz.isAgg5
  z5 := Tryz.sizeOf5
  v5 := Tryz.zeroValue5
  infoByte := by kernel_rfl
  cellsByte := by kernel_rfl
  sizeByte := by kernel_rfl
  neB5 := by decide }
open Go.RowKit in
theorem Tryz.Builder_String_any (B b : Nat) (l : List UInt8) (w : World) (h : Lib.IsBuilder 169 5 B b (Lib.byteCells l) w) (hBw : B ≤ w.heap.size) :
    Calls Tryz.prog 111 #[.pointer (some ⟨b, 0, none⟩)] w fun e w' => e = .returned (.string ⟨l.toArray⟩) ∧ Below B w w' := Any.Builder_String_any Tryz.lays169 Tryz.Builder_Extra_169 B b l w h hBw
end Go.Proofs
