/- What stays in memory; slices of the call's own, of one cell an element; maps that hold no more than their keys. -/
import Derived.Test.YtejjmbfbjagifaaSPlain
import Derived.WalkKit
import Derived.WalkSpells
import Derived.WalkLawsBesides
import Derived.Lib.Hide
import Derived.Below
import Derived.OwnWalk
import Derived.Maps.OwnSet
import Derived.Maps.RangeWalk
import Derived.Maps.AppendAt
import Derived.Laws.AppendOwnNone
import Derived.Laws.MakeOwn
import Derived.Deep.QuietTactic
import Derived.Deep.DeepCutAuto
import Derived.BigRegion
import Derived.BigQuiet
import Derived.StringKeys
namespace Go.Proofs.Ytejjmbfbjagifaa.S
open Go.RowKit Go.Maps

theorem add_add (x : Addr) (i : Nat) (h : x.spot = none) : x.add i = ⟨x.block, x.off + i, none⟩ := by
  obtain ⟨b, o, s⟩ := x
  simp only at h
  subst h
  unfold Addr.add
  split <;> simp_all
theorem grown_set (w : World) (rb j : Nat) (u : Value) : w.grownBy (w.setCell ⟨rb, j, none⟩ u) (some rb) :=
  ⟨rfl, rfl, rfl, by simp, fun k _ hk => heap_setCell_other w ⟨rb, j, none⟩ k u (fun e => hk (by simp [e]))⟩
theorem grown_drewN (w : World) (n : Nat) (r : Option Nat) : w.grownBy (w.drewN n) r := ⟨rfl, rfl, rfl, Nat.le_refl _, fun _ _ _ => rfl⟩

theorem below_drewN (B : Nat) (w : World) (n : Nat) : Below B w (w.drewN n) := ⟨rfl, rfl, rfl, Nat.le_refl _, fun _ _ => rfl⟩
/-- nothing but the blocks S, and what is new, has changed -/
def Kpt (S : List Nat) (w w' : World) : Prop := Below 0 w w' ∧ ∀ g, g < w.heap.size → g ∉ S → w'.heap[g]? = w.heap[g]?
theorem Kpt.size {S : List Nat} {w w' : World} (h : Kpt S w w') : w.heap.size ≤ w'.heap.size := h.1.size
theorem Kpt.refl (S : List Nat) (w : World) : Kpt S w w := ⟨Below.refl _ _, fun _ _ _ => rfl⟩
theorem Kpt.trans {S S' : List Nat} {a b c : World} (h : Kpt S a b) (k : Kpt S' b c) (hs : ∀ x ∈ S', x ∈ S ∨ a.heap.size ≤ x) : Kpt S a c :=
  ⟨h.1.trans k.1, fun g hg hn => (k.2 g (Nat.lt_of_lt_of_le hg h.size) (fun hx => by
    rcases hs g hx with h1 | h1
    · exact hn h1
    · omega)).trans (h.2 g hg hn)⟩
theorem Kpt.mono {S S' : List Nat} {a b : World} (h : Kpt S a b) (hs : ∀ x ∈ S, x < a.heap.size → x ∈ S') : Kpt S' a b :=
  ⟨h.1, fun g hg hn => h.2 g hg (fun hx => hn (hs g hx hg))⟩
theorem Kpt.of_below {S : List Nat} {w w' : World} (h : Below w.heap.size w w') : Kpt S w w' := ⟨h.mono (Nat.zero_le _), fun g hg _ => h.block g hg⟩
theorem Kpt.of_grown {S : List Nat} {w w' : World} {r : Option Nat} (h : w.grownBy w' r) (hr : ∀ g, r = some g → g ∈ S ∨ w.heap.size ≤ g) : Kpt S w w' :=
  ⟨⟨h.os, h.tape, h.output, h.size, fun k hk => absurd hk (Nat.not_lt_zero k)⟩, fun g hg hn => h.block g hg (fun e => by
    rcases hr g e.symm with h1 | h1
    · exact hn h1
    · omega)⟩
theorem Kpt.alloc (S : List Nat) (w : World) (o : Obj) : Kpt S w (w.alloc o) := .of_grown (World.grownBy_alloc w o none) (fun g h => by cases h)
theorem Kpt.drew {S : List Nat} {a w : World} (h : Kpt S a w) : Kpt S a w.drew := ⟨h.1.drew, h.2⟩
theorem Kpt.set (S : List Nat) (w : World) (b j : Nat) (u : Value) (h : b ∈ S) : Kpt S w (w.setCell ⟨b, j, none⟩ u) := .of_grown (grown_set w b j u) (fun g e => by cases e; exact .inl h)
theorem Kpt.below {S : List Nat} {w w' : World} {B : Nat} (h : Kpt S w w') (hS : ∀ x ∈ S, B ≤ x) (hB : B ≤ w.heap.size) : Below B w w' :=
  ⟨h.1.os, h.1.tape, h.1.output, h.1.size, fun k hk => h.2 k (Nat.lt_of_lt_of_le hk hB) (fun hx => by have := hS k hx; omega)⟩
theorem Kpt.block {S : List Nat} {w w' : World} (h : Kpt S w w') {b : Nat} {o : Obj} (hb : w.heap[b]? = some o) (hn : b ∉ S) : w'.heap[b]? = some o := (h.2 b (Array.getElem?_eq_some_iff.1 hb).1 hn).trans hb

theorem row_kpt {w w' : World} {B n sz : Nat} {e : TypeId} {v : Value} {xs : List Value} {S : List Nat} (h : w.ownsRow B e sz v n xs) (hk : Kpt S w w') (hS : ∀ g, v.ownBlock = some g → g ∉ S) : w'.ownsRow B e sz v n xs := by
  refine ⟨h.1, ?_⟩
  rcases h.2 with hn | ⟨g, cap, cur, rfl, hb, hgg, rest⟩
  · exact .inl hn
  · refine .inr ⟨g, cap, cur, rfl, hb, ?_, rest⟩
    rw [hk.2 g (Array.getElem?_eq_some_iff.1 hgg).1 (hS g rfl)]
    exact hgg

/-! ### slices of one cell an element -/
section
variable {α : Type} {c : α → Value}
/-- the slice value v reads as xs; its cells lie in a block of ok -/
def RdC (c : α → Value) (ok : Nat → Prop) (w : World) (v : Value) (xs : List α) : Prop :=
  ∃ (p : Option Addr) (cap : Nat), v = .slice p xs.length cap ∧ xs.length ≤ cap ∧ (p = none → cap = 0) ∧ cap ≤ maxLen ∧
    (xs = [] ∨ ∃ b off, p = some ⟨b, off, none⟩ ∧ ok b ∧ b < w.heap.size ∧ ∀ i x, xs[i]? = some x → w.cell? ⟨b, off + i, none⟩ = some (c x))
theorem RdC.form {ok : Nat → Prop} {w : World} {v : Value} {xs : List α} (h : RdC c ok w v xs) : ∃ p cap, v = .slice p xs.length cap ∧ xs.length ≤ cap ∧ cap ≤ maxLen := by
  obtain ⟨p, cap, h, h1, _, h2, _⟩ := h
  exact ⟨p, cap, h, h1, h2⟩
theorem RdC.at {ok : Nat → Prop} {w : World} {p : Option Addr} {n cap : Nat} {xs : List α} (h : RdC c ok w (.slice p n cap) xs) (hn : xs ≠ []) :
    ∃ b off, p = some ⟨b, off, none⟩ ∧ ok b ∧ b < w.heap.size ∧ ∀ i x, xs[i]? = some x → w.cell? ⟨b, off + i, none⟩ = some (c x) := by
  obtain ⟨p', cap', e, _, _, _, h3⟩ := h
  simp only [Value.slice.injEq] at e
  obtain ⟨rfl, rfl, rfl⟩ := e
  rcases h3 with h3 | h3
  · exact absurd h3 hn
  · exact h3
theorem RdC.keep {ok ok' : Nat → Prop} {w w' : World} {v : Value} {xs : List α} (h : RdC c ok w v xs) (hb : ∀ b, ok b → b < w.heap.size → w'.heap[b]? = w.heap[b]?) (ho : ∀ b, ok b → b < w.heap.size → ok' b) (hs : w.heap.size ≤ w'.heap.size) : RdC c ok' w' v xs := by
  obtain ⟨p, cap, rfl, h1, h2, h3, h4⟩ := h
  refine ⟨p, cap, rfl, h1, h2, h3, ?_⟩
  rcases h4 with h4 | ⟨b, off, rfl, hok, hlt, h4⟩
  · exact .inl h4
  · refine .inr ⟨b, off, rfl, ho b hok hlt, by omega, fun i x hx => ?_⟩
    rw [World.cell?_of_block (w := w) (a := ⟨b, off + i, none⟩) (hb b hok hlt)]
    exact h4 i x hx
theorem RdC.kpt {ok : Nat → Prop} {w w' : World} {v : Value} {xs : List α} {S : List Nat} (h : RdC c ok w v xs) (hk : Kpt S w w') (hS : ∀ b, ok b → b ∉ S) : RdC c ok w' v xs :=
  h.keep (fun b hb hl => hk.2 b hl (hS b hb)) (fun _ h _ => h) hk.size
theorem RdC.nil (ok : Nat → Prop) (w : World) : RdC c ok w (.slice none 0 0) ([] : List α) := ⟨none, 0, rfl, by simp, fun _ => rfl, by unfold maxLen; omega, .inl rfl⟩

/-- the slice value v is the call's own, from block B on, and reads as xs -/
def OwnC (c : α → Value) (T : TypeId) (w : World) (B : Nat) (v : Value) (xs : List α) : Prop := w.ownsRow B T 1 v xs.length (xs.map c)
variable {T : TypeId}
theorem OwnC.nil (w : World) (B : Nat) : OwnC c T w B (.slice none 0 0) ([] : List α) := World.ownsRow_nil _ _ _ _
theorem OwnC.alloc {w : World} {B : Nat} {v : Value} {xs : List α} (h : OwnC c T w B v xs) (o : Obj) : OwnC c T (w.alloc o) B v xs := World.ownsRow.alloc h o
theorem OwnC.lt {w : World} {B : Nat} {v : Value} {xs : List α} (h : OwnC c T w B v xs) : ∀ k, v.ownBlock = some k → B ≤ k ∧ k < w.heap.size := World.ownsRow.lt h
theorem OwnC.kpt {w w' : World} {B : Nat} {v : Value} {xs : List α} {S : List Nat} (h : OwnC c T w B v xs) (hk : Kpt S w w') (hS : ∀ g, v.ownBlock = some g → g ∉ S) : OwnC c T w' B v xs := row_kpt h hk hS
theorem OwnC.mono {w : World} {B B' : Nat} {v : Value} {xs : List α} (h : OwnC c T w B v xs) (hB : B' ≤ B) : OwnC c T w B' v xs := by
  refine ⟨h.1, ?_⟩
  rcases h.2 with h' | ⟨g, cap, cur, e, hb, r⟩
  · exact .inl h'
  · exact .inr ⟨g, cap, cur, e, Nat.le_trans hB hb, r⟩
theorem OwnC.cells {w : World} {B : Nat} {v : Value} {xs : List α} (h : OwnC c T w B v xs) : (v = .slice none 0 0 ∧ xs = []) ∨ ∃ g cap cur, v = .slice (some ⟨g, 0, none⟩) xs.length cap ∧ B ≤ g ∧ g < w.heap.size ∧ w.heap[g]? = some (.cells cur T (0, 0)) ∧ xs.length ≤ cap ∧ cap ≤ maxLen ∧
    (∀ i x, xs[i]? = some x → w.cell? ⟨g, i, none⟩ = some (c x)) ∧ (∀ i, w.frozen? ⟨g, i, none⟩ = false) ∧ (∀ i, i < cap → ∃ u, w.cell? ⟨g, i, none⟩ = some u) := by
  have hh := h
  rcases h.2 with ⟨rfl, hn⟩ | ⟨g, cap, cur, rfl, hb, hg, h1, h2, h3, h4⟩
  · exact .inl ⟨rfl, List.eq_nil_of_length_eq_zero hn⟩
  · refine .inr ⟨g, cap, cur, rfl, hb, (Array.getElem?_eq_some_iff.1 hg).1, hg, h1, h2, fun i x hx => ?_, fun i => by simp [World.frozen?, hg], fun i hi => ⟨cur[i]'(by omega), ?_⟩⟩
    · have := World.ownsRow.cells hh (g := g) rfl i (c x) (by simp [hx])
      rw [add_add _ i rfl, Nat.zero_add] at this
      exact this
    · simp only [World.cell?, hg]
      exact Array.getElem?_eq_getElem (by omega)
theorem OwnC.rd {w : World} {B : Nat} {v : Value} {xs : List α} (h : OwnC c T w B v xs) : RdC c (fun b => B ≤ b) w v xs := by
  rcases h.cells with ⟨rfl, rfl⟩ | ⟨g, cap, cur, rfl, hb, hlt, _, h1, h2, h3, _⟩
  · exact RdC.nil _ _
  · exact ⟨_, cap, rfl, h1, (fun e => by cases e), h2, .inr ⟨g, 0, rfl, hb, hlt, fun i x hx => by rw [Nat.zero_add]; exact h3 i x hx⟩⟩
theorem OwnC.slice {w : World} {B : Nat} {v : Value} {xs : List α} (h : OwnC c T w B v xs) : ∃ a n k, v = .slice a n k := by
  rcases h.cells with ⟨rfl, _⟩ | ⟨g, cap, cur, rfl, _⟩
  · exact ⟨_, _, _, rfl⟩
  · exact ⟨_, _, _, rfl⟩
theorem OwnC.set {w : World} {B g n cap : Nat} {xs : List α} (h : OwnC c T w B (.slice (some ⟨g, 0, none⟩) n cap) xs) (i : Nat) (y : α) : OwnC c T (w.setCell ⟨g, i, none⟩ (c y)) B (.slice (some ⟨g, 0, none⟩) n cap) (xs.set i y) := by
  have hn : n = xs.length := by
    rcases h.cells with ⟨e, _⟩ | ⟨g', cap', cur, e, _⟩
    · cases e
    · simp only [Value.slice.injEq] at e; exact e.2.1
  subst hn
  have := (World.ownsRow.stored h i (c y)).1
  unfold OwnC
  rw [List.length_set, List.map_set]
  exact this
/-- the first k of them -/
theorem OwnC.front {w : World} {B n cap : Nat} {p : Option Addr} {xs : List α} (h : OwnC c T w B (.slice p n cap) xs) {k : Nat} (hk : k ≤ xs.length) (hp : xs ≠ []) : OwnC c T w B (.slice p k cap) (xs.take k) := by
  have hl : (xs.take k).length = k := by simp; omega
  rcases h.2 with ⟨e, hn⟩ | ⟨g, cap', cur, e, hb, hg, h1, h2, h3, h4⟩
  · exact absurd (List.eq_nil_of_length_eq_zero hn) hp
  · simp only [Value.slice.injEq] at e
    obtain ⟨rfl, rfl, rfl⟩ := e
    unfold OwnC
    rw [hl]
    refine ⟨by simp; omega, .inr ⟨g, cap, cur, rfl, hb, hg, by omega, h2, h3, ?_⟩⟩
    rw [List.map_take, ← h4, List.take_take]
    congr 1
    omega

/-- what is known of an element's type and a slice's -/
def Inf1 (T TS : TypeId) (bytes : Nat) (z : Value) : Prop := (Try.prog.info? T).map (fun i => (i.zero, i.size, i.bytes)) = some (some z, 1, bytes) ∧ Try.prog.underlying TS = some (.slice T) ∧ z.cells.size = 1 ∧ bytes ≤ 1000

/-- an append of a slice -/
theorem wp_appC {TS : TypeId} {bytes : Nat} {z : Value} (hI : Inf1 T TS bytes z) (h1 : ∀ x, (c x).oneCell' = true) {w : World} {ops : Array Oper} {rest : List Oper} {o : Oper} {a : Act} {Q : Exit → Act → World → Prop} (hgd : o.guard = none) (s x : Operand)
    (ho : o.op = .call { callee := .builtin .append, args := #[s, x], argTypes := #[TS, TS] })
    (B : Nat) (v : Value) (xs : List α) (hs : a.eval s = v) (hown : OwnC c T w B v xs) (ok : Nat → Prop) (v2 : Value) (ys : List α) (hx : a.eval x = v2) (hy : RdC c ok w v2 ys)
    (hb : xs.length + ys.length ≤ 1000000) (hbase : B ≤ w.heap.size)
    (h : ∀ v' w', OwnC c T w' B v' (xs ++ ys) → w.grownBy w' v.ownBlock → (v'.ownBlock = v.ownBlock ∨ v'.ownBlock = some w.heap.size) → wpList Try.prog ops Q rest (a.put o.dst v') w') :
    wpList Try.prog ops Q (o :: rest) a w := by
  obtain ⟨hi1, hu, hz, hbb⟩ := hI
  obtain ⟨i0, hi, hz0, hz1, hz2⟩ := info_parts hi1
  have h1' : ∀ zs : List α, ∀ u ∈ zs.map c, u.oneCell' = true := fun zs u hu => by
    obtain ⟨y, _, rfl⟩ := List.mem_map.1 hu
    exact h1 y
  obtain ⟨p, cap, e2, hle, hnone, _, hcs⟩ := hy
  subst e2
  cases p with
  | none =>
    have hc0 := hnone rfl
    have hl0 : ys.length = 0 := by omega
    have hm : ys = [] := List.eq_nil_of_length_eq_zero hl0
    subst hm
    subst hc0
    refine wpList_append_own_none hgd s x TS ho B T i0 1 hu hi v xs.length (xs.map c) hs hown hx ?_
    exact h v w (by rw [List.append_nil]; exact hown) ⟨rfl, rfl, rfl, Nat.le_refl _, fun _ _ _ => rfl⟩ (.inl rfl)
  | some ad =>
    refine wpList_append_own_at w hgd s x TS ho B T i0 z 1 bytes hu hi hz0 hz1 hz2 hz (by decide) v xs.length (xs.map c) hs hown ad ys.length cap (ys.map c) hx (by simp) ?_ (h1' ys) (by unfold maxLen; omega) ?_ hbase ?_
    · intro j u hj
      rw [List.getElem?_map, Option.map_eq_some_iff] at hj
      obtain ⟨y, hy1, rfl⟩ := hj
      rcases hcs with rfl | ⟨b, off, e, _, _, hc⟩
      · simp at hy1
      · cases e
        rw [add_add _ j rfl]
        exact hc j y hy1
    · have := Nat.mul_le_mul hb hbb
      omega
    · intro v' w' g1 g2 _ g4
      refine h v' w' ?_ g2 g4
      unfold OwnC
      rw [List.length_append, List.map_append]
      exact g1

/-- an append of nothing -/
theorem wp_app0 {TS : TypeId} {bytes : Nat} {z : Value} (hI : Inf1 T TS bytes z) {w : World} {ops : Array Oper} {rest : List Oper} {o : Oper} {a : Act} {Q : Exit → Act → World → Prop} (hgd : o.guard = none) (s x : Operand)
    (ho : o.op = .call { callee := .builtin .append, args := #[s, x], argTypes := #[TS, TS] })
    (B : Nat) (v : Value) (xs : List α) (hs : a.eval s = v) (hown : OwnC c T w B v xs) (hx : a.eval x = .slice none 0 0)
    (h : wpList Try.prog ops Q rest (a.put o.dst v) w) :
    wpList Try.prog ops Q (o :: rest) a w := by
  obtain ⟨hi1, hu, hz, hbb⟩ := hI
  obtain ⟨i0, hi, hz0, hz1, hz2⟩ := info_parts hi1
  exact wpList_append_own_none hgd s x TS ho B T i0 1 hu hi v xs.length (xs.map c) hs hown hx h
/-- make([]T, 0, n) -/
theorem run_mk {TS : TypeId} {bytes : Nat} {z : Value} (hI : Inf1 T TS bytes z) (n : Nat) (hn : n ≤ 1000000) (W : World) : (Instr.makeSlice TS (.int .i64 0) (.int .i64 (n : Int))).run Try.prog W = .ok (.slice (some ⟨W.heap.size, 0, none⟩) 0 n) (W.alloc (.cells (madeCells z.cells n) T)) := by
  obtain ⟨hi1, hu, hz, hbb⟩ := hI
  obtain ⟨i0, hi, hz0, hz1, hz2⟩ := info_parts hi1
  have h := run_makeSlice (P := Try.prog) (w := W) TS T i0 z hu hi hz0 .i64 .i64 0 n (by omega) (by omega) (by rw [hz1]; omega) (by
    have : i0.bytes * n ≤ 1000 * 1000000 := Nat.mul_le_mul (by omega) hn
    have h2 : ((i0.bytes * n : Nat) : Int) ≤ 281474976710656 := by omega
    rwa [Int.natCast_mul] at h2) (by omega)
  rw [hz1] at h
  simpa using h
/-- a boxed row of one -/
theorem rd_one {w : World} {b : Nat} {u : Value} {x : α} {fr : Nat × Nat} (h : w.heap[b]? = some (.cells #[u] T fr)) (hu : u = c x) : RdC c (fun _ => True) w (.slice (some ⟨b, 0, none⟩) 1 1) [x] := by
  subst hu
  refine ⟨_, 1, rfl, Nat.le_refl _, (fun e => by cases e), by unfold maxLen; omega, .inr ⟨b, 0, rfl, trivial, (Array.getElem?_eq_some_iff.1 h).1, fun i y hy => ?_⟩⟩
  cases i with
  | zero =>
    simp only [List.getElem?_cons_zero, Option.some.injEq] at hy
    subst hy
    simp [World.cell?, h]
  | succ i => simp at hy
end

theorem run_mapHint (t k e : TypeId) (ht : Try.prog.underlying t = some (.map k e)) (n : Int) (w : World) : (Instr.makeMap t (some (.int .i64 n))).run Try.prog w = .ok (.map (some w.heap.size)) (w.alloc (.map #[] 0)) := by
  simp [Instr.makeMap, run_underlying ht, asInt, asIntOf, newObj, Sem.run, Result.andThen]

/-! ### maps -/
/-- keys of one kind -/
structure El {α : Type} (tk : TypeId) (c : α → Value) (q : α → Lit) (ok : α → Prop) : Prop where
  law : Keyed Try.prog tk
  key : ∀ {x}, ok x → keyOf Try.prog tk (c x) = some (q x)
  inv : ∀ {v kl}, keyOf Try.prog tk v = some kl → ∃ x, v = c x ∧ kl = q x ∧ ok x
  inj : ∀ {x y}, q x = q y → x = y
  isKey : ∀ x, WideAt.IsKeyLit (q x)
  one : ∀ x, (c x).oneCell' = true

section
variable {α : Type} [DecidableEq α] {tk tm : TypeId} {c : α → Value} {q : α → Lit} {ok : α → Prop}
/-- D has just the keys of L -/
def SetD (q : α → Lit) (ok : α → Prop) (D : DataW Unit) (L : List α) : Prop := (∀ x, Maps.has D (q x) = decide (x ∈ L)) ∧ Maps.size D = L.length ∧ L.Nodup ∧ ∀ x ∈ L, ok x
theorem SetD.put (E : El tk c q ok) {D : DataW Unit} {L : List α} (h : SetD q ok D L) (hD : Tidy D) {x : α} (hx : x ∉ L) (hk : ok x) (d : DataW Unit) : SetD q ok (D.put (q x) d) (L ++ [x]) := by
  obtain ⟨h1, h2, h3, h4⟩ := h
  refine ⟨fun y => ?_, ?_, ?_, ?_⟩
  · by_cases e : y = x
    · subst e
      rw [has_put_same hD.isMap (E.isKey y)]
      simp
    · rw [has_put_other (fun h => e (E.inj h)), h1]
      simp [e]
  · rw [size_put hD, h1, h2]
    simp [hx]
  · rw [List.nodup_append]
    exact ⟨h3, by simp, fun y hy z hz e => hx (by rw [List.mem_singleton.1 hz] at e; rw [← e]; exact hy)⟩
  · intro y hy
    rcases List.mem_append.1 hy with hy | hy
    · exact h4 y hy
    · rw [List.mem_singleton.1 hy]; exact hk
theorem SetD.del (E : El tk c q ok) {D : DataW Unit} {L : List α} (h : SetD q ok D L) (hD : Tidy D) (x : α) : SetD q ok (D.del (q x)) (delS L x) := by
  obtain ⟨h1, h2, h3, h4⟩ := h
  have hsz := size_del (k := q x) hD
  rw [h1] at hsz
  refine ⟨fun y => ?_, ?_, delS_nodup h3 x, fun y hy => h4 y (delS_mem.1 hy).1⟩
  · by_cases e : y = x
    · subst e
      rw [has_del_same]
      symm
      rw [decide_eq_false_iff_not, delS_mem]
      exact fun h => h.2 rfl
    · rw [has_del_other (fun h => e (E.inj h)), h1, decide_eq_decide, delS_mem]
      exact ⟨fun h => ⟨h, e⟩, fun h => h.1⟩
  · by_cases hx : x ∈ L
    · rw [decide_eq_true hx, if_pos rfl, h2] at hsz
      have h5 : (x :: delS L x).length = L.length := nodup_len_eq (List.nodup_cons.2 ⟨fun h => (delS_mem.1 h).2 rfl, delS_nodup h3 x⟩) h3 (fun y => by
        rw [List.mem_cons, delS_mem]
        refine ⟨fun h => h.elim (fun e => e ▸ hx) (fun h => h.1), fun h => ?_⟩
        by_cases e : y = x
        · exact .inl e
        · exact .inr ⟨h, e⟩)
      rw [List.length_cons] at h5
      omega
    · rw [decide_eq_false hx] at hsz
      have : delS L x = L := by
        unfold delS
        rw [List.filter_eq_self]
        intro y hy
        exact decide_eq_true (fun e => hx (e ▸ hy))
      rw [this]
      simpa using hsz.trans h2

/-- the map in block b has just the keys of L -/
def Mq (tk : TypeId) (q : α → Lit) (ok : α → Prop) (w : World) (b : Nat) (L : List α) : Prop := ∃ D : DataW Unit, w.ownsMap Try.prog tk unitElem b L.length D ∧ SetD q ok D L
theorem Mq.made (w : World) : Mq tk q ok (w.alloc (.map #[] 0)) w.heap.size ([] : List α) := ⟨_, World.ownsMap_made _ _ _ _, fun _ => rfl, rfl, List.nodup_nil, fun x hx => by cases hx⟩
theorem Mq.map {w : World} {b : Nat} {L : List α} (h : Mq tk q ok w b L) : ∃ es k, w.heap[b]? = some (.map es k) := by
  obtain ⟨D, ⟨es, k, hb, _⟩, _⟩ := h
  exact ⟨es, k, hb⟩
theorem Mq.kpt {w w' : World} {b : Nat} {L : List α} {S : List Nat} (h : Mq tk q ok w b L) (hk : Kpt S w w') (hS : b ∉ S) : Mq tk q ok w' b L := by
  obtain ⟨D, ⟨es, k, hb, hr⟩, h2⟩ := h
  exact ⟨D, ⟨es, k, hk.block hb hS, hr⟩, h2⟩
theorem Mq.blk {w w' : World} {b : Nat} {L : List α} (h : Mq tk q ok w b L) (hb : w'.heap[b]? = w.heap[b]?) : Mq tk q ok w' b L := by
  obtain ⟨D, ⟨es, k, hb', hr⟩, h2⟩ := h
  exact ⟨D, ⟨es, k, hb.trans hb', hr⟩, h2⟩
theorem Mq.nodup {w : World} {b : Nat} {L : List α} (h : Mq tk q ok w b L) : L.Nodup := by
  obtain ⟨D, _, _, _, h, _⟩ := h
  exact h
theorem Mq.oks {w : World} {b : Nat} {L : List α} (h : Mq tk q ok w b L) : ∀ x ∈ L, ok x := by
  obtain ⟨D, _, _, _, _, h⟩ := h
  exact h

theorem wp_lookQ (E : El tk c q ok) {te : TypeId} (ht : Try.prog.underlying tm = some (.map tk te)) {w : World} (hz : (zeroValue te).run Try.prog w = .ok (.agg #[]) w) {ops : Array Oper} {rest : List Oper} {o : Oper} {a : Act} {Q : Exit → Act → World → Prop} (hg : o.guard = none) (m x : Operand) (hop : o.op = Op.lookup tm m x true)
    (b : Nat) (L : List α) (hm : a.eval m = .map (some b)) (h : Mq tk q ok w b L) (s : α) (hs : ok s) (hx : a.eval x = c s) (r : Bool) (hr : hasB L s = r)
    (hK : wpList Try.prog ops Q rest (a.put o.dst (.tuple #[.agg #[], .bool r])) w) :
    wpList Try.prog ops Q (o :: rest) a w := by
  obtain ⟨D, h1, h2, _⟩ := h
  refine wpList_lookup_own_unit w hg m x _ hop tk te E.law ht hz b _ D hm h1 _ (q s) hx (E.key hs) ?_
  rw [h2, show decide (s ∈ L) = r from hr]
  exact hK

theorem wp_storeQ (E : El tk c q ok) {te : TypeId} (ht : Try.prog.underlying tm = some (.map tk te)) {w : World} {ops : Array Oper} {rest : List Oper} {o : Oper} {a : Act} {Q : Exit → Act → World → Prop} (hg : o.guard = none) (m x v : Operand) (hop : o.op = Op.mapUpdate tm m x v)
    (b : Nat) (L : List α) (hm : a.eval m = .map (some b)) (h : Mq tk q ok w b L) (s : α) (hs : ok s) (hx : a.eval x = c s) (hv : a.eval v = .agg #[]) (hn : s ∉ L) (hl : L.length ≤ 1000000)
    (hK : ∀ w', Mq tk q ok w' b (L ++ [s]) → w.grownBy w' (some b) → wpList Try.prog ops Q rest (a.put o.dst undef) w') :
    wpList Try.prog ops Q (o :: rest) a w := by
  obtain ⟨D, h1, h2⟩ := h
  refine wpList_mapUpdate_own w hg m x v _ hop tk te E.law ht unitElem b L.length D hm h1 (by unfold maxLen; omega) _ _ (q s) hx hv (E.key hs) (.agg []) [] unitElem_mk ?_
  intro w' hown hg
  refine hK w' ⟨D.put (q s) (.agg []), ?_, h2.put E (h1.tidy E.law) hn hs _⟩ hg
  rw [List.length_append]
  exact hown

theorem wp_delQ (E : El tk c q ok) {te : TypeId} (ht : Try.prog.underlying tm = some (.map tk te)) {w : World} {ops : Array Oper} {rest : List Oper} {o : Oper} {a : Act} {Q : Exit → Act → World → Prop} (hg : o.guard = none) (m x : Operand)
    (hop : o.op = Op.call { callee := Callee.builtin Builtin.delete, args := #[m, x], argTypes := #[tm, tk] })
    (b : Nat) (L : List α) (hm : a.eval m = .map (some b)) (h : Mq tk q ok w b L) (s : α) (hs : ok s) (hx : a.eval x = c s)
    (hK : ∀ w', Mq tk q ok w' b (delS L s) → w.grownBy w' (some b) → wpList Try.prog ops Q rest (a.put o.dst (.tuple #[])) w') :
    wpList Try.prog ops Q (o :: rest) a w := by
  obtain ⟨D, h1, h2⟩ := h
  refine wpList_delete_own w hg m x _ tk hop te E.law ht unitElem b L.length D hm h1 _ (q s) hx (E.key hs) ?_
  intro w' hown ht'
  have h3 := h2.del E (h1.tidy E.law) s
  refine hK w' ⟨_, ?_, h3⟩ ht'.grown
  obtain ⟨es, k, g1, g2, g3, g4⟩ := hown
  refine ⟨es, k, g1, g2, ?_, g4⟩
  have e : Maps.size (D.del (q s)) = es.size := by rw [g4]; simp [Maps.size, length_sorted]
  rw [← e, h3.2.1]
  exact Nat.le_refl _

theorem wp_lenQ {te : TypeId} (ht : Try.prog.underlying tm = some (.map tk te)) {w : World} {ops : Array Oper} {rest : List Oper} {o : Oper} {a : Act} {Q : Exit → Act → World → Prop} (hg : o.guard = none) (m : Operand) (hop : o.op = Op.call { callee := Callee.builtin Builtin.len, args := #[m], argTypes := #[tm] })
    (b : Nat) (L : List α) (hm : a.eval m = .map (some b)) (h : Mq tk q ok w b L)
    (hK : wpList Try.prog ops Q rest (a.put o.dst (.int .i64 (L.length : Int))) w) :
    wpList Try.prog ops Q (o :: rest) a w := by
  obtain ⟨D, h1, h2⟩ := h
  refine wpList_len_own w hg m tm hop tk te ht unitElem b _ D hm h1 ?_
  rw [h2.2.1]
  exact hK

theorem Mq.len {te : TypeId} (ht : Try.prog.underlying tm = some (.map tk te)) {w : World} {b : Nat} {L : List α} (h : Mq tk q ok w b L) (ty : TypeId) : (Builtin.len_ #[tm] ty #[.map (some b)]).run Try.prog w = .ok (.int .i64 (L.length : Int)) w := by
  obtain ⟨D, h1, h2⟩ := h
  rw [h1.len ht ty, h2.2.1]
theorem Mq.lenN {te : TypeId} (ht : Try.prog.underlying tm = some (.map tk te)) {w : World} {b : Nat} {L : List α} (h : Mq tk q ok w b L) (n : Nat) (ty : TypeId) : (Builtin.len_ #[tm] ty #[.map (some b)]).run Try.prog (w.drewN n) = .ok (.int .i64 (L.length : Int)) (w.drewN n) :=
  Mq.len (w := w.drewN n) (tk := tk) (q := q) (ok := ok) ht h ty
/-- a range over the map in block b, by block r: what is in R has come -/
def Rg (tk : TypeId) (q : α → Lit) (ok : α → Prop) (w : World) (b r : Nat) (L R : List α) (n : Nat) : Prop := ∃ (D : DataW Unit) (left : Lit → Bool), w.ranges Try.prog tk unitElem b r L.length D left n ∧ SetD q ok D L ∧
  R.Nodup ∧ (∀ x ∈ R, x ∈ L) ∧ (∀ x, left (q x) = decide (x ∈ L ∧ x ∉ R)) ∧ ∀ kl, left kl = true → ∃ x, kl = q x
theorem Rg.kpt {w w' : World} {b r n : Nat} {L R : List α} {S : List Nat} (h : Rg tk q ok w b r L R n) (hk : Kpt S w w') (hb : b ∉ S) (hr : r ∉ S) : Rg tk q ok w' b r L R n := by
  obtain ⟨D, left, h1, h2⟩ := h
  refine ⟨D, left, ?_, h2⟩
  obtain ⟨es, clock, since, seen, c0, g1, g2, g3, g4, g5, g6⟩ := h1
  exact ⟨es, clock, since, seen, c0, hk.block g1 hb, g2, g3, g4, hk.block g5 hr, g6⟩
theorem Rg.owns {w : World} {b r n : Nat} {L R : List α} (h : Rg tk q ok w b r L R n) : Mq tk q ok w b L := by
  obtain ⟨D, left, h1, h2, _⟩ := h
  exact ⟨D, h1.owns, h2⟩
theorem Rg.left {w : World} {b r n : Nat} {L R : List α} (h : Rg tk q ok w b r L R n) : w.rangeLeft b r = n := by
  obtain ⟨D, left, h1, _⟩ := h
  exact h1.left_eq
theorem Rg.lt {w : World} {b r n : Nat} {L R : List α} (h : Rg tk q ok w b r L R n) : r < w.heap.size := by
  obtain ⟨D, left, h1, _⟩ := h
  exact h1.lt

theorem Rg.nodup {w : World} {b r n : Nat} {L R : List α} (h : Rg tk q ok w b r L R n) : R.Nodup := by
  obtain ⟨D, left, h1, h2, h3, _⟩ := h
  exact h3

theorem wp_rangeQ (E : El tk c q ok) {te : TypeId} (ht : Try.prog.underlying tm = some (.map tk te)) {w : World} {ops : Array Oper} {rest : List Oper} {o : Oper} {a : Act} {Q : Exit → Act → World → Prop} (hg : o.guard = none) (m : Operand) (hop : o.op = Op.range tm m)
    (b : Nat) (L : List α) (hm : a.eval m = .map (some b)) (h : Mq tk q ok w b L)
    (hK : ∀ w' n, Rg tk q ok w' b w.heap.size L [] n → w.grownBy w' none → w'.heap.size = w.heap.size + 1 → wpList Try.prog ops Q rest (a.put o.dst (.pointer (some ⟨w.heap.size, 0, none⟩))) w') :
    wpList Try.prog ops Q (o :: rest) a w := by
  obtain ⟨D, h1, h2⟩ := h
  refine wpList_range_own w hg m _ hop tk te E.law ht unitElem b L.length D hm h1 ?_
  intro w' hr hgr hsz
  refine hK w' _ ⟨D, _, hr, h2, List.nodup_nil, (fun x hx => by cases hx), (fun x => by rw [h2.1]; simp), fun kl hkl => ?_⟩ hgr hsz
  obtain ⟨es, clock, since, seen, c0, g1, g2, g3, g4, g5, g6, g7, g8, g9, _⟩ := hr
  obtain ⟨e, he, rfl⟩ := g9 kl hkl
  obtain ⟨y, hy⟩ := g2.reads e he
  rw [WideElems.rg_of hy]
  obtain ⟨x, _, hx, _⟩ := E.inv (WideElems.rd_key hy)
  exact ⟨x, hx⟩

theorem wp_nextQ (E : El tk c q ok) {w : World} {ops : Array Oper} {rest : List Oper} {o : Oper} {a : Act} {Q : Exit → Act → World → Prop} (hg : o.guard = none) (it : Operand) (hop : o.op = Op.next it false)
    (b r n : Nat) (L R : List α) (hit : a.eval it = .pointer (some ⟨r, 0, none⟩)) (h : Rg tk q ok w b r L R n)
    (hDone : (∀ x, x ∈ R ↔ x ∈ L) → wpList Try.prog ops Q rest (a.put o.dst (.tuple #[.bool false])) w)
    (hMore : ∀ (x : α) (w' : World) (n' : Nat), ok x → x ∈ L → x ∉ R → Rg tk q ok w' b r L (R ++ [x]) n' → n' < n → w.grownBy w' (some r) → w'.heap.size = w.heap.size →
      (Instr.entry (.pointer (some ⟨r, 0, none⟩))).run Try.prog w' = .ok (.tuple #[c x, .agg #[]]) w' → wpList Try.prog ops Q rest (a.put o.dst (.tuple #[.bool true, c x, .agg #[]])) w') :
    wpList Try.prog ops Q (o :: rest) a w := by
  obtain ⟨D, left, h1, h2, h3, h4, h5, h6⟩ := h
  refine wpList_next_ranges (α := α) (β := Unit) w hg it hop tk E.law unitElem c (fun _ => .agg #[]) (fun key kl hk => by obtain ⟨x, hx, _⟩ := E.inv hk; exact ⟨x, hx⟩) (fun v y hv => by obtain ⟨hv, _⟩ := unitElem_inv hv; exact ⟨(), hv⟩) b r _ D left n hit h1 ?_ ?_
  · intro _ hl
    refine hDone fun x => ⟨h4 x, fun hx => ?_⟩
    have := (h5 x).symm.trans (hl (q x))
    rw [decide_eq_false_iff_not] at this
    exact Classical.byContradiction fun hn => this ⟨hx, hn⟩
  · intro x _ kl y w' n' hkey hleft hR hat hrg hlt hgr hsz hen
    obtain ⟨x', ex, rfl, hox⟩ := E.inv hkey
    have hkk := E.key hox
    rw [← ex] at hkk
    have hin := (h5 x').symm.trans hleft
    rw [decide_eq_true_iff] at hin
    rw [ex] at hen ⊢
    refine hMore x' w' n' hox hin.1 hin.2 ⟨D, _, hrg, h2, ?_, ?_, ?_, ?_⟩ hlt hgr hsz hen
    · rw [List.nodup_append]
      exact ⟨h3, by simp, fun y hy z hz e => hin.2 (by rw [List.mem_singleton.1 hz] at e; rw [← e]; exact hy)⟩
    · intro y hy
      rcases List.mem_append.1 hy with hy | hy
      · exact h4 y hy
      · rw [List.mem_singleton.1 hy]; exact hin.1
    · intro z
      by_cases e : z = x'
      · subst e
        rw [WideAt.sameKey_self (E.isKey z)]
        simp
      · have hs : (q z).sameKey (q x') = false := sameKey_ne (fun h => e (E.inj h))
        show (left (q z) && !(q z).sameKey (q x')) = _
        rw [hs, h5]
        simp [e]
    · intro kl' hk'
      simp only [Bool.and_eq_true] at hk'
      exact h6 kl' hk'.1

/-- a Set in block sb, its map in block mb, has just L -/
def St (tS tk : TypeId) (q : α → Lit) (ok : α → Prop) (w : World) (B sb mb : Nat) (L : List α) : Prop :=
  B ≤ sb ∧ B ≤ mb ∧ w.heap[sb]? = some (.cells #[.map (some mb), .slice none 0 0] tS (0, 0)) ∧ Mq tk q ok w mb L
variable {tS : TypeId}
theorem St.lt {w : World} {B sb mb : Nat} {L : List α} (h : St tS tk q ok w B sb mb L) : sb < w.heap.size ∧ mb < w.heap.size ∧ sb ≠ mb := by
  obtain ⟨_, _, h1, h2⟩ := h
  obtain ⟨es, k, h3⟩ := h2.map
  refine ⟨(Array.getElem?_eq_some_iff.1 h1).1, (Array.getElem?_eq_some_iff.1 h3).1, ?_⟩
  rintro rfl
  rw [h1] at h3
  cases h3
theorem St.kpt {w w' : World} {B sb mb : Nat} {L : List α} {S : List Nat} (h : St tS tk q ok w B sb mb L) (hk : Kpt S w w') (h1 : sb ∉ S) (h2 : mb ∉ S) : St tS tk q ok w' B sb mb L :=
  ⟨h.1, h.2.1, hk.block h.2.2.1 h1, h.2.2.2.kpt hk h2⟩
theorem St.blk {w w' : World} {B sb mb : Nat} {L : List α} (h : St tS tk q ok w B sb mb L) (h1 : w'.heap[sb]? = w.heap[sb]?) (h2 : w'.heap[mb]? = w.heap[mb]?) : St tS tk q ok w' B sb mb L :=
  ⟨h.1, h.2.1, h1.trans h.2.2.1, h.2.2.2.blk h2⟩
theorem St.mono {w : World} {B B' sb mb : Nat} {L : List α} (h : St tS tk q ok w B sb mb L) (hB : B' ≤ B) : St tS tk q ok w B' sb mb L := ⟨Nat.le_trans hB h.1, Nat.le_trans hB h.2.1, h.2.2⟩
theorem St.cells {w : World} {B sb mb : Nat} {L : List α} (h : St tS tk q ok w B sb mb L) : w.cell? ⟨sb, 0, none⟩ = some (.map (some mb)) ∧ w.cell? ⟨sb, 1, none⟩ = some (.slice none 0 0) ∧ w.frozen? ⟨sb, 1, none⟩ = false := by
  obtain ⟨_, _, h1, _⟩ := h
  refine ⟨?_, ?_, ?_⟩
  · simp [World.cell?, h1]
  · simp [World.cell?, h1]
  · simp [World.frozen?, h1]
theorem St.bel {w w' : World} {B sb mb : Nat} {L : List α} (h : St tS tk q ok w B sb mb L) (hb : Below w.heap.size w w') : St tS tk q ok w' B sb mb L := h.kpt (.of_below (S := []) hb) (by simp) (by simp)
end
end Go.Proofs.Ytejjmbfbjagifaa.S
