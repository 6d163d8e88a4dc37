/- What the answers' Sorted tells. -/
import Derived.Test.YtejjmbfbjagifaaSRef
import Derived.Test.YtejjmbfbjagifaaSOpen
import Derived.Deep.RegionLaw
namespace Go.Proofs.Ytejjmbfbjagifaa.S
open Go.RowKit Go.Maps

theorem step_appC {α : Type} {c : α → Value} {T TS : TypeId} {bytes : Nat} {z : Value} (hI : Inf1 T TS bytes z) (h1 : ∀ x, (c x).oneCell' = true) {w : World} {ops : Array Oper} {o : Oper} {a : Act} {K : Act → World → Prop} {Q : Exit → Act → World → Prop} {E : Prop} (hw : Region.wanted o (yielded ops a.tmps) = true) (s x : Operand)
    (ho : o.op = .call { callee := .builtin .append, args := #[s, x], argTypes := #[TS, TS] })
    (B : Nat) (v : Value) (xs : List α) (hs : a.eval s = v) (hown : OwnC c T w B v xs) (ok : Nat → Prop) (v2 : Value) (ys : List α) (hx : a.eval x = v2) (hy : RdC c ok w v2 ys)
    (hb : xs.length + ys.length ≤ 1000000) (hbase : B ≤ w.heap.size)
    (h : ∀ v' w', OwnC c T w' B v' (xs ++ ys) → w.grownBy w' v.ownBlock → (v'.ownBlock = v.ownBlock ∨ v'.ownBlock = some w.heap.size) → K (a.put o.dst v') w') :
    if Region.wanted o (yielded ops a.tmps) = true then Oper.wp Try.prog o a w K Q else E := by
  rw [if_pos hw]
  obtain ⟨hi1, hu, hz, hbb⟩ := hI
  obtain ⟨i0, hi, hz0, hz1, hz2⟩ := info_parts hi1
  obtain ⟨p, cap, e2, hle, hnone, _, hcs⟩ := hy
  subst e2
  cases p with
  | none =>
    have hc0 := hnone rfl
    have hl0 : ys.length = 0 := by omega
    have hm : ys = [] := List.eq_nil_of_length_eq_zero hl0
    subst hm
    subst hc0
    have hrun := run_append_owned_none (P := Try.prog) (w := w) B TS o.type T i0 1 hu hi v xs.length (xs.map c) hown
    unfold Oper.wp execOp
    simp only [ho, resolve, invoke, builtin, Sem.run_bind, Sem.run_pure, Result.andThen_ok, List.map_toArray, List.map_cons, List.map_nil, hs, hx, List.length_nil, hrun]
    exact h v w (by rw [List.append_nil]; exact hown) ⟨rfl, rfl, rfl, Nat.le_refl _, fun _ _ _ => rfl⟩ (.inl rfl)
  | some ad =>
    obtain ⟨v', w', hrun, g1, g2, _, g4⟩ := run_append_own_at (P := Try.prog) w B TS o.type T i0 z 1 bytes hu hi hz0 hz1 hz2 hz (by decide) v xs.length (xs.map c) hown ad ys.length cap (ys.map c) (by simp) (fun j u hj => by
      rw [List.getElem?_map, Option.map_eq_some_iff] at hj
      obtain ⟨y, hy1, rfl⟩ := hj
      rcases hcs with rfl | ⟨b, off, e, _, _, hc⟩
      · simp at hy1
      · cases e
        rw [add_add _ j rfl]
        exact hc j y hy1) (fun u hu => by
      obtain ⟨y, _, rfl⟩ := List.mem_map.1 hu
      exact h1 y) (by unfold maxLen; omega) (by have := Nat.mul_le_mul hb hbb; omega) hbase
    unfold Oper.wp execOp
    simp only [ho, resolve, invoke, builtin, Sem.run_bind, Sem.run_pure, Result.andThen_ok, List.map_toArray, List.map_cons, List.map_nil, hs, hx, hrun]
    refine h v' w' ?_ g2 g4
    unfold OwnC
    rw [List.length_append, List.map_append]
    exact g1

theorem RdC.front {α : Type} {c : α → Value} {ok : Nat → Prop} {w : World} {p : Option Addr} {n cap : Nat} {xs : List α} (h : RdC c ok w (.slice p n cap) xs) {k : Nat} (hk : k ≤ xs.length) : RdC c ok w (.slice p k cap) (xs.take k) := by
  obtain ⟨p', cap', e, h1, h2, h3, h4⟩ := h
  simp only [Value.slice.injEq] at e
  obtain ⟨rfl, _, rfl⟩ := e
  have hl : (xs.take k).length = k := by simp; omega
  refine ⟨p, cap, by rw [hl], by rw [hl]; omega, h2, h3, ?_⟩
  rcases h4 with h4 | ⟨b, off, e, hb, hlt, h4⟩
  · exact .inl (by rw [h4]; simp)
  · exact .inr ⟨b, off, e, hb, hlt, fun i x hx => h4 i x (by
      have hi := (List.getElem?_eq_some_iff.1 hx).1
      rw [List.getElem?_take_of_lt (by omega)] at hx
      exact hx)⟩
theorem RdC.back {α : Type} {c : α → Value} {ok : Nat → Prop} {w : World} {b off n cap : Nat} {xs : List α} (h : RdC c ok w (.slice (some ⟨b, off, none⟩) n cap) xs) {k : Nat} (hk : k ≤ xs.length) : RdC c ok w (.slice (some ⟨b, off + k, none⟩) (xs.length - k) (cap - k)) (xs.drop k) := by
  obtain ⟨p', cap', e, h1, h2, h3, h4⟩ := h
  simp only [Value.slice.injEq] at e
  obtain ⟨rfl, _, rfl⟩ := e
  refine ⟨some ⟨b, off + k, none⟩, cap - k, by rw [List.length_drop], by rw [List.length_drop]; omega, (fun e => by cases e), by omega, ?_⟩
  rcases h4 with h4 | ⟨b', off', e, hb, hlt, h4⟩
  · exact .inl (by rw [h4]; simp)
  · simp only [Option.some.injEq, Addr.mk.injEq, and_true] at e
    obtain ⟨rfl, rfl⟩ := e
    refine .inr ⟨b, off + k, rfl, hb, hlt, fun i x hx => ?_⟩
    rw [List.getElem?_drop] at hx
    rw [show off + k + i = off + (k + i) by omega]
    exact h4 _ x hx

/-- x put where it belongs -/
theorem ins_srt {α : Type} {lt : α → α → Bool} (T : TO lt) {R : List α} {x : α} {k : Nat} (hR : Srt lt R) (hk : k ≤ R.length) (h1 : ∀ j y, j < k → R[j]? = some y → lt y x = true) (h2 : ∀ y, R[k]? = some y → lt y x = false ∧ y ≠ x) :
    Srt lt (R.take k ++ [x] ++ R.drop k) ∧ ∀ y, y ∈ R.take k ++ [x] ++ R.drop k ↔ y ∈ R ∨ y = x := by
  have hgt : ∀ y ∈ R.drop k, lt x y = true := by
    intro y hy
    obtain ⟨i, hi, rfl⟩ := List.mem_iff_getElem.1 hy
    rw [List.length_drop] at hi
    rw [List.getElem_drop]
    have hk' : k < R.length := by omega
    obtain ⟨h3, h4⟩ := h2 _ (List.getElem?_eq_getElem hk')
    have h5 : lt x R[k] = true := by
      cases h : lt x R[k] with
      | true => rfl
      | false => exact absurd (T.tot h3 h) h4
    by_cases e : i = 0
    · subst e; exact h5
    · exact T.tr h5 (List.pairwise_iff_getElem.1 hR k (k + i) hk' (by omega) (by omega))
  have hlt : ∀ y ∈ R.take k, lt y x = true := by
    intro y hy
    obtain ⟨i, hi, rfl⟩ := List.mem_iff_getElem.1 hy
    rw [List.length_take] at hi
    rw [List.getElem_take]
    exact h1 i _ (by omega) (List.getElem?_eq_getElem (by omega))
  constructor
  · show List.Pairwise _ _
    rw [List.append_assoc, List.singleton_append, List.pairwise_append]
    refine ⟨hR.sublist (List.take_sublist _ _), List.pairwise_cons.2 ⟨hgt, hR.sublist (List.drop_sublist _ _)⟩, fun y hy z hz => ?_⟩
    rcases List.mem_cons.1 hz with rfl | hz
    · exact hlt y hy
    · exact T.tr (hlt y hy) (hgt z hz)
  · intro y
    rw [List.append_assoc, List.singleton_append, List.mem_append, List.mem_cons]
    conv => rhs; rw [← List.take_append_drop k R, List.mem_append]
    constructor
    · rintro (h | h | h)
      · exact .inl (.inl h)
      · exact .inr h
      · exact .inl (.inr h)
    · rintro ((h | h) | h)
      · exact .inl h
      · exact .inr (.inr h)
      · exact .inr (.inl h)


theorem one_S (x : ByteArray) : (cS x).oneCell' = true := rfl
theorem mem_take_succ {α : Type} {xs : List α} {i : Nat} {x y : α} (h : xs[i]? = some x) : y ∈ xs.take (i + 1) ↔ y ∈ xs.take i ∨ y = x := by
  rw [List.take_add_one, h]
  simp
theorem OwnC.rd_g {α : Type} {c : α → Value} {T : TypeId} {w : World} {B g n cap : Nat} {xs : List α} (h : OwnC c T w B (.slice (some ⟨g, 0, none⟩) n cap) xs) : RdC c (fun b => b = g) w (.slice (some ⟨g, 0, none⟩) n cap) xs := by
  obtain ⟨p, cap', e, h1, h2, h3, h4⟩ := h.rd
  refine ⟨p, cap', e, h1, h2, h3, h4.imp id ?_⟩
  rintro ⟨b, off, e2, _, hlt, h5⟩
  simp only [Value.slice.injEq] at e
  rw [e2] at e
  simp only [Option.some.injEq, Addr.mk.injEq, and_true] at e
  exact ⟨b, off, e2, e.1.1.symm, hlt, h5⟩
theorem rd_none {α : Type} {c : α → Value} {xs : List α} {a : Addr} {cap : Nat} (h : xs = []) (hc : cap ≤ maxLen) : ∀ W : World, RdC c (fun _ => False) W (.slice (some a) 0 cap) xs := fun W => by
  subst h
  exact ⟨_, cap, rfl, Nat.zero_le _, (fun e => by cases e), hc, .inl rfl⟩
/-- what is read of the list where the appends begin -/
theorem s9_start {wq w : World} {g cu k : Nat} {R : List ByteArray} {x : ByteArray} (ho : OwnC cS 9 wq w.heap.size (.slice (some ⟨g, 0, none⟩) R.length cu) R) (hb : Below w.heap.size w wq) (hk : k ≤ R.length) :
    RdC cS (fun b => w.heap.size ≤ b) wq.drew (.slice (some ⟨g, 0, none⟩) k cu) (R.take k) ∧ RdC cS (fun b => w.heap.size ≤ b) (wq.alloc (.cells #[.string x] 9)).drew (.slice (some ⟨g, 0, none⟩) k cu) (R.take k) ∧
    w.heap.size ≤ wq.drew.heap.size ∧ w.heap.size ≤ (wq.alloc (.cells #[.string x] 9)).drew.heap.size :=
  ⟨ho.rd.front hk, (ho.alloc _).rd.front hk, hb.size, by show w.heap.size ≤ (wq.alloc _).heap.size; have := hb.size; simp; omega⟩
theorem s9n_start {wq w : World} {x : ByteArray} (hb : Below w.heap.size w wq) :
    RdC cS (fun b => w.heap.size ≤ b) wq.drew (.slice none 0 0) (([] : List ByteArray).take 0) ∧ RdC cS (fun b => w.heap.size ≤ b) (wq.alloc (.cells #[.string x] 9)).drew (.slice none 0 0) (([] : List ByteArray).take 0) ∧
    w.heap.size ≤ wq.drew.heap.size ∧ w.heap.size ≤ (wq.alloc (.cells #[.string x] 9)).drew.heap.size :=
  ⟨RdC.nil _ _, RdC.nil _ _, hb.size, by show w.heap.size ≤ (wq.alloc _).heap.size; have := hb.size; simp; omega⟩
theorem grown_undrew {w w' : World} {r : Option Nat} (h : w.drew.grownBy w' r) : w.grownBy w' r := ⟨h.os, h.tape, h.output, h.size, h.block⟩
/-- behind the first append, nothing laid before -/
theorem s9n_a {wq w x3 : World} {a3 : Option Addr} {n3 c3 b o : Nat} {M D : List ByteArray} {x : ByteArray} {tl : Value} (hb : Below w.heap.size w wq) (cx : wq.cell? ⟨b, o, none⟩ = some (.string x))
    (ho3 : OwnC cS 9 x3 w.heap.size (.slice a3 n3 c3) (([] : List ByteArray) ++ M)) (hg3 : wq.drew.grownBy x3 (Value.slice none 0 0).ownBlock) (_hl3 : (Value.slice a3 n3 c3).ownBlock = (Value.slice none 0 0).ownBlock ∨ (Value.slice a3 n3 c3).ownBlock = some wq.drew.heap.size)
    (ht : ∀ W, RdC cS (fun _ => False) W tl D) :
    OwnC cS 9 (x3.alloc (.cells #[.string x] 9)) w.heap.size (.slice a3 n3 c3) M ∧ RdC cS (fun _ => True) (x3.alloc (.cells #[.string x] 9)) (.slice (some ⟨x3.heap.size, 0, none⟩) 1 1) [x] ∧
    (RdC cS (fun _ => False) (x3.alloc (.cells #[.string x] 9)) tl D ∧ Below w.heap.size w (x3.alloc (.cells #[.string x] 9)) ∧ ∀ z, (Value.slice a3 n3 c3).ownBlock = some z → ¬ False) ∧
    x3.cell? ⟨b, o, none⟩ = some (.string x) ∧ w.heap.size ≤ (x3.alloc (.cells #[.string x] 9)).heap.size := by
  have k3 : Kpt [] wq x3 := .of_grown (grown_undrew hg3) (fun z e => by cases e)
  have k4 : Kpt [] wq (x3.alloc (.cells #[.string x] 9)) := k3.trans (Kpt.alloc [] _ _) (by simp)
  have hb4 : Below w.heap.size w (x3.alloc (.cells #[.string x] 9)) := hb.trans (k4.below (by simp) hb.size)
  refine ⟨by rw [List.nil_append] at ho3; exact ho3.alloc _, rd_one (heap_alloc_new x3 _) rfl, ⟨ht _, hb4, fun _ _ h => h⟩, ?_, hb4.size⟩
  have hlt : b < wq.heap.size := World.block_lt_of_cell? _ _ cx
  rw [World.cell?_of_block (w := wq) (a := ⟨b, o, none⟩) (k3.2 b hlt (by simp))]
  exact cx
/-- behind the first append, the new one laid before -/
theorem s9n_b {wq w x3 : World} {a3 : Option Addr} {n3 c3 b o : Nat} {M D : List ByteArray} {x : ByteArray} {tl : Value} (hb : Below w.heap.size w wq) (cx : wq.cell? ⟨b, o, none⟩ = some (.string x))
    (ho3 : OwnC cS 9 x3 w.heap.size (.slice a3 n3 c3) (([] : List ByteArray) ++ M)) (hg3 : (wq.alloc (.cells #[.string x] 9)).drew.grownBy x3 (Value.slice none 0 0).ownBlock) (_hl3 : (Value.slice a3 n3 c3).ownBlock = (Value.slice none 0 0).ownBlock ∨ (Value.slice a3 n3 c3).ownBlock = some (wq.alloc (.cells #[.string x] 9)).drew.heap.size)
    (ht : ∀ W, RdC cS (fun _ => False) W tl D) :
    OwnC cS 9 x3 w.heap.size (.slice a3 n3 c3) M ∧ RdC cS (fun _ => True) x3 (.slice (some ⟨wq.heap.size, 0, none⟩) 1 1) [x] ∧
    (RdC cS (fun _ => False) x3 tl D ∧ Below w.heap.size w x3 ∧ ∀ z, (Value.slice a3 n3 c3).ownBlock = some z → ¬ False) ∧
    x3.cell? ⟨b, o, none⟩ = some (.string x) ∧ w.heap.size ≤ x3.heap.size := by
  have k2 : Kpt [] wq (wq.alloc (.cells #[.string x] 9)) := Kpt.alloc [] _ _
  have k3' : Kpt [] (wq.alloc (.cells #[.string x] 9)) x3 := .of_grown (grown_undrew hg3) (fun z e => by cases e)
  have k3 : Kpt [] wq x3 := k2.trans k3' (by simp)
  have hb4 : Below w.heap.size w x3 := hb.trans (k3.below (by simp) hb.size)
  refine ⟨by rw [List.nil_append] at ho3; exact ho3, rd_one (k3'.block (heap_alloc_new wq _) (by simp)) rfl, ⟨ht _, hb4, fun _ _ h => h⟩, ?_, hb4.size⟩
  have hlt : b < wq.heap.size := World.block_lt_of_cell? _ _ cx
  rw [World.cell?_of_block (w := wq) (a := ⟨b, o, none⟩) (k3.2 b hlt (by simp))]
  exact cx
theorem s9_a {wq w x3 : World} {a3 : Option Addr} {g cu k n3 c3 b o : Nat} {R : List ByteArray} {x : ByteArray} (ho : OwnC cS 9 wq w.heap.size (.slice (some ⟨g, 0, none⟩) R.length cu) R) (hb : Below w.heap.size w wq) (cx : wq.cell? ⟨b, o, none⟩ = some (.string x)) (hk : k ≤ R.length)
    (ho3 : OwnC cS 9 x3 w.heap.size (.slice a3 n3 c3) (([] : List ByteArray) ++ R.take k)) (hg3 : wq.drew.grownBy x3 (Value.slice none 0 0).ownBlock) (hl3 : (Value.slice a3 n3 c3).ownBlock = (Value.slice none 0 0).ownBlock ∨ (Value.slice a3 n3 c3).ownBlock = some wq.drew.heap.size) :
    OwnC cS 9 (x3.alloc (.cells #[.string x] 9)) w.heap.size (.slice a3 n3 c3) (R.take k) ∧ RdC cS (fun _ => True) (x3.alloc (.cells #[.string x] 9)) (.slice (some ⟨x3.heap.size, 0, none⟩) 1 1) [x] ∧
    (RdC cS (fun b => b = g) (x3.alloc (.cells #[.string x] 9)) (.slice (some ⟨g, k, none⟩) (R.length - k) (cu - k)) (R.drop k) ∧ Below w.heap.size w (x3.alloc (.cells #[.string x] 9)) ∧ ∀ z, (Value.slice a3 n3 c3).ownBlock = some z → ¬ z = g) ∧
    x3.cell? ⟨b, o, none⟩ = some (.string x) ∧ w.heap.size ≤ (x3.alloc (.cells #[.string x] 9)).heap.size := by
  obtain ⟨q1, q2, q3, q4, q5⟩ := s9n_a (tl := .slice none 0 0) (D := []) hb cx ho3 hg3 hl3 (fun _ => RdC.nil _ _)
  have hgl : g < wq.heap.size := (ho.lt g rfl).2
  have htl := (ho.rd_g).back hk
  have k3 : Kpt [] wq x3 := .of_grown (grown_undrew hg3) (fun z e => by cases e)
  have k4 : Kpt [] wq (x3.alloc (.cells #[.string x] 9)) := k3.trans (Kpt.alloc [] _ _) (by simp)
  refine ⟨q1, q2, ⟨by have := htl.kpt k4 (by simp); simpa using this, q3.2.1, fun z hz => ?_⟩, q4, q5⟩
  rcases hl3 with e | e
  · rw [e] at hz; cases hz
  · rw [e] at hz
    cases hz
    show ¬ wq.heap.size = g
    omega
theorem s9_b {wq w x3 : World} {a3 : Option Addr} {g cu k n3 c3 b o : Nat} {R : List ByteArray} {x : ByteArray} (ho : OwnC cS 9 wq w.heap.size (.slice (some ⟨g, 0, none⟩) R.length cu) R) (hb : Below w.heap.size w wq) (cx : wq.cell? ⟨b, o, none⟩ = some (.string x)) (hk : k ≤ R.length)
    (ho3 : OwnC cS 9 x3 w.heap.size (.slice a3 n3 c3) (([] : List ByteArray) ++ R.take k)) (hg3 : (wq.alloc (.cells #[.string x] 9)).drew.grownBy x3 (Value.slice none 0 0).ownBlock) (hl3 : (Value.slice a3 n3 c3).ownBlock = (Value.slice none 0 0).ownBlock ∨ (Value.slice a3 n3 c3).ownBlock = some (wq.alloc (.cells #[.string x] 9)).drew.heap.size) :
    OwnC cS 9 x3 w.heap.size (.slice a3 n3 c3) (R.take k) ∧ RdC cS (fun _ => True) x3 (.slice (some ⟨wq.heap.size, 0, none⟩) 1 1) [x] ∧
    (RdC cS (fun b => b = g) x3 (.slice (some ⟨g, k, none⟩) (R.length - k) (cu - k)) (R.drop k) ∧ Below w.heap.size w x3 ∧ ∀ z, (Value.slice a3 n3 c3).ownBlock = some z → ¬ z = g) ∧
    x3.cell? ⟨b, o, none⟩ = some (.string x) ∧ w.heap.size ≤ x3.heap.size := by
  obtain ⟨q1, q2, q3, q4, q5⟩ := s9n_b (tl := .slice none 0 0) (D := []) hb cx ho3 hg3 hl3 (fun _ => RdC.nil _ _)
  have hgl : g < wq.heap.size := (ho.lt g rfl).2
  have htl := (ho.rd_g).back hk
  have k2 : Kpt [] wq (wq.alloc (.cells #[.string x] 9)) := Kpt.alloc [] _ _
  have k3' : Kpt [] (wq.alloc (.cells #[.string x] 9)) x3 := .of_grown (grown_undrew hg3) (fun z e => by cases e)
  have k3 : Kpt [] wq x3 := k2.trans k3' (by simp)
  refine ⟨q1, q2, ⟨by have := htl.kpt k3 (by simp); simpa using this, q3.2.1, fun z hz => ?_⟩, q4, q5⟩
  rcases hl3 with e | e
  · rw [e] at hz; cases hz
  · rw [e] at hz
    cases hz
    show ¬ (wq.alloc _).heap.size = g
    simp
    omega
theorem s9_mid {w X x9 : World} {v3 v9 tl : Value} {okt : Nat → Prop} {L M D : List ByteArray} (h : RdC cS okt X tl D ∧ Below w.heap.size w X ∧ ∀ z, v3.ownBlock = some z → ¬ okt z) (h3 : OwnC cS 9 X w.heap.size v3 M) (ho : OwnC cS 9 x9 w.heap.size v9 L) (hg : X.grownBy x9 v3.ownBlock) :
    OwnC cS 9 x9 w.heap.size v9 L ∧ RdC cS okt x9 tl D ∧ Below w.heap.size w x9 := by
  refine ⟨ho, h.1.keep (fun b hb hl => hg.block b hl (fun e => h.2.2 b e.symm hb)) (fun _ h _ => h) hg.size, h.2.1.grown hg h.2.1.size (fun z e => (h3.lt z e).1)⟩
theorem s9_end {w x9 x13 : World} {v9 : Value} {L : List ByteArray} (h : OwnC cS 9 x9 w.heap.size v9 L) (hb : Below w.heap.size w x9) (hg : x9.grownBy x13 v9.ownBlock) : Below w.heap.size w x13 :=
  hb.grown hg hb.size (fun z e => (h.lt z e).1)

set_option maxHeartbeats 4000000 in
set_option maxRecDepth 100000 in
theorem sorted_s (v : Value) (xs : List ByteArray) (B0 : Nat) (w : World) (hr : RdC cS (fun b => b < B0) w v xs) (hl : xs.length ≤ 1000) (hB : B0 ≤ w.heap.size) :
    Calls Try.prog 19 #[v] w fun e w' => ∃ v' R, e = .returned v' ∧ OwnC cS 9 w' w.heap.size v' R ∧ Srt ltS R ∧ (∀ y, y ∈ R ↔ y ∈ xs) ∧ Below w.heap.size w w' := by
  obtain ⟨p, cap, rfl, h1, h2⟩ := hr.form
  have HR := Lib.hid hr
  unfold maxLen at h2
  clear hr
  go_enter Try.func19, Try.ntmps19
  go_wp2_with fail
  go_loopw [3, 4] (fun u v wr => ∃ (i : Nat) (R : List ByteArray), v = .int .i64 (i : Int) ∧ i ≤ xs.length ∧ R.length ≤ i ∧ Hid (OwnC cS 9 wr w.heap.size u R) ∧ Hid (Srt ltS R) ∧ Hid (∀ y, y ∈ R ↔ y ∈ xs.take i) ∧ Hid (Below w.heap.size w wr)) (fun _ v _ => xs.length - (intOf v).toNat)
  case atStart => exact ⟨0, [], rfl, by omega, by simp, Lib.hid (OwnC.nil _ _), Lib.hid List.Pairwise.nil, Lib.hid (by simp), Lib.hid (Below.refl _ _)⟩
  case round =>
    obtain ⟨i, R, rfl, hi, hRl, HO, HS, HM, HB⟩ := hrel
    by_cases hlt : i < xs.length
    · have hlt' : (i : Int) < (xs.length : Int) := by omega
      have HRr := Lib.hid (HR.out.low (HB.out.mono hB))
      obtain ⟨pu, nu, cu, rfl⟩ := HO.out.slice
      have hnu : nu = R.length := by
        obtain ⟨p', c', e, _⟩ := HO.out.rd.form
        simp only [Value.slice.injEq] at e
        exact e.2.1
      subst hnu
      obtain ⟨x, hx⟩ : ∃ x, xs[i] = x := ⟨_, rfl⟩
      have HX : Hid (xs[i]? = some x) := Lib.hid (by rw [List.getElem?_eq_getElem hlt, hx])
      clear hx
      go_wp2_with fail
      go_loopw [5] (fun v w2 => ∃ k n : Nat, v = .int .i64 (k : Int) ∧ k ≤ R.length ∧ Hid (∀ j y, j < k → R[j]? = some y → ltS y x = true) ∧ w2 = wr.drewN n) (fun v _ => R.length - (intOf v).toNat)
      case atStart => exact ⟨0, 0, rfl, by omega, Lib.hid (fun j y hj => absurd hj (by omega)), rfl⟩
      case round =>
        obtain ⟨k, n, rfl, hk, HK, rfl⟩ := hrel
        have hne : xs ≠ [] := by rintro rfl; simp at hlt
        obtain ⟨b, off, rfl, hb, hbl, hc⟩ := HRr.out.at hne
        have cx : wr.cell? ⟨b, off + i, none⟩ = some (.string x) := hc i x HX.out
        clear hc
        by_cases hkl : k < R.length
        · rcases HO.out.cells with ⟨_, e⟩ | ⟨g, cap', cur, e, hgW, hgl, _, n1, n2, hcc, _⟩
          · rw [e] at hkl; simp at hkl
          simp only [Value.slice.injEq] at e
          obtain ⟨rfl, _, rfl⟩ := e
          have hkl' : (k : Int) < (R.length : Int) := by omega
          have hg := List.getElem?_eq_getElem hkl
          have cz : wr.cell? ⟨g, k, none⟩ = some (.string R[k]) := hcc k _ hg
          obtain ⟨z, hz⟩ : ∃ z, R[k] = z := ⟨_, rfl⟩
          rw [hz] at cz hg
          have HG := Lib.hid hg
          obtain ⟨r, hr⟩ : ∃ r, Op.bytesLess z.toList x.toList = r := ⟨_, rfl⟩
          have HRB := Lib.hid hr
          clear hz hg hcc
          cases r
          · go_wp2_with fail
            go_quiet (fail)
            clear hr
            have kne : ((k : Int) == (R.length : Int)) = false := beq_eq_false_iff_ne.2 (by omega)
            by_cases exz : z = x
            · subst exz
              go_wp2_with fail
              go_quiet (fail)
              go_wp2_with fail
              go_roundw
              case rel => exact ⟨i + 1, R, by go_num, by omega, by omega, Lib.hid (HO.out), HS, Lib.hid (fun y => by rw [mem_take_succ HX.out, ← HM.out y]; exact ⟨.inl, fun h => h.elim id (fun e => e ▸ List.mem_of_getElem? HG.out)⟩), Lib.hid (HB.out.trans (below_drewN _ _ _))⟩
              case measure => simp [intOf]; omega
            · have hne2 : (z.toList == x.toList) = false := txt_ne exz
              go_wp2_with fail
              go_quiet (fail)
              go_wp2_with fail
              generalize hwq : (((wr.drewN n).drewN _).drewN _) = wq
              have HOq : Hid (OwnC cS 9 wq w.heap.size (.slice (some ⟨g, 0, none⟩) R.length cu) R) := Lib.hid (by rw [← hwq]; exact HO.out)
              have HBq : Hid (Below w.heap.size w wq) := Lib.hid (by rw [← hwq]; exact HB.out.trans (((below_drewN _ _ _).trans (below_drewN _ _ _)).trans (below_drewN _ _ _)))
              have cxq : wq.cell? ⟨b, off + i, none⟩ = some (.string x) := by rw [← hwq]; exact cx
              have hkc : k ≤ cu := by first | omega | (simp <;> omega)
              have hkc' : ((k : Nat) : Int) ≤ (cu : Int) := by first | omega | (simp <;> omega)
              clear hwq HRr HO HB cx
              obtain ⟨e1, e2, z1, z2⟩ := s9_start (k := k) (x := x) HOq.out HBq.out hk
              have E1 := Lib.hid e1
              have E2 := Lib.hid e2
              have Z1 := Lib.hid z1
              have Z2 := Lib.hid z2
              clear e1 e2 z1 z2
              go_region_law (first
                | ((with_reducible refine step_appC (w := wq.drew) infS one_S (by with_unfolding_all rfl) (.const (.slice none 0 0)) (.tmp 46) (by with_unfolding_all rfl) w.heap.size (.slice none 0 0) ([] : List ByteArray) (by first | (simp [Act.eval]; done) | simp [Act.eval, Act.put]) (OwnC.nil _ _) _ _ (R.take k) (by first | (simp [Act.eval]; done) | simp [Act.eval, Act.put]) E1.out (by simp <;> omega) Z1.out ?_); intro v3 x3 ho3 hg3 hl3; obtain ⟨a3, n3, c3, hv3⟩ := ho3.slice; subst hv3; obtain ⟨f1, f2, f3, f4, f5⟩ := s9_a HOq.out HBq.out cxq hk ho3 hg3 hl3; have FA1 := Lib.hid f1; have FA2 := Lib.hid f2; have FA3 := Lib.hid f3; have FA5 := Lib.hid f5; clear f1 f2 f3 f5 ho3 hg3 hl3)
                | ((with_reducible refine step_appC (w := (wq.alloc (.cells #[.string x] 9)).drew) infS one_S (by with_unfolding_all rfl) (.const (.slice none 0 0)) (.tmp 46) (by with_unfolding_all rfl) w.heap.size (.slice none 0 0) ([] : List ByteArray) (by first | (simp [Act.eval]; done) | simp [Act.eval, Act.put]) (OwnC.nil _ _) _ _ (R.take k) (by first | (simp [Act.eval]; done) | simp [Act.eval, Act.put]) E2.out (by simp <;> omega) Z2.out ?_); intro v3 x3 ho3 hg3 hl3; obtain ⟨a3, n3, c3, hv3⟩ := ho3.slice; subst hv3; obtain ⟨f1, f2, f3, f4, f5⟩ := s9_b HOq.out HBq.out cxq hk ho3 hg3 hl3; have FB1 := Lib.hid f1; have FB2 := Lib.hid f2; have FB3 := Lib.hid f3; have FB5 := Lib.hid f5; clear f1 f2 f3 f5 ho3 hg3 hl3)
                | ((with_reducible refine step_appC (w := x3.alloc (.cells #[.string x] 9)) infS one_S (by with_unfolding_all rfl) (.tmp 47) (.tmp 52) (by with_unfolding_all rfl) w.heap.size _ (R.take k) (by first | (simp [Act.eval]; done) | simp [Act.eval, Act.put]) FA1.out _ _ [x] (by first | (simp [Act.eval]; done) | simp [Act.eval, Act.put]) FA2.out (by simp <;> omega) FA5.out ?_); intro v9 x9 ho9 hg9 hl9; obtain ⟨a9, n9, c9, hv9⟩ := ho9.slice; subst hv9; obtain ⟨j1, j2, j3⟩ := s9_mid FA3.out FA1.out ho9 hg9; have J1 := Lib.hid j1; have J2 := Lib.hid j2; have J3 := Lib.hid j3; clear j1 j2 j3 ho9 hg9 hl9)
                | ((with_reducible refine step_appC (w := x3) infS one_S (by with_unfolding_all rfl) (.tmp 47) (.tmp 52) (by with_unfolding_all rfl) w.heap.size _ (R.take k) (by first | (simp [Act.eval]; done) | simp [Act.eval, Act.put]) FB1.out _ _ [x] (by first | (simp [Act.eval]; done) | simp [Act.eval, Act.put]) FB2.out (by simp <;> omega) FB5.out ?_); intro v9 x9 ho9 hg9 hl9; obtain ⟨a9, n9, c9, hv9⟩ := ho9.slice; subst hv9; obtain ⟨j1, j2, j3⟩ := s9_mid FB3.out FB1.out ho9 hg9; have J1 := Lib.hid j1; have J2 := Lib.hid j2; have J3 := Lib.hid j3; clear j1 j2 j3 ho9 hg9 hl9)
                | ((with_reducible refine step_appC (w := x9) infS one_S (by with_unfolding_all rfl) (.tmp 53) (.tmp 56) (by with_unfolding_all rfl) w.heap.size _ (R.take k ++ [x]) (by first | (simp [Act.eval]; done) | simp [Act.eval, Act.put]) J1.out _ _ (R.drop k) (by first | (simp [Act.eval]; done) | (simp [Act.eval] <;> omega) | (simp [Act.eval, Act.put] <;> omega)) J2.out (by simp <;> omega) J3.out.size ?_); intro v13 x13 ho13 hg13 hl13; obtain ⟨a13, n13, c13, hv13⟩ := ho13.slice; subst hv13; have L1 := Lib.hid ho13; have L2 := Lib.hid (s9_end J1.out J3.out hg13); clear ho13 hg13 hl13))

              all_goals
                go_wp2_with fail
                go_roundw
                case rel => exact ⟨i + 1, R.take k ++ [x] ++ R.drop k, by go_num, by omega, by simp <;> omega, L1, Lib.hid (ins_srt toS HS.out hk HK.out (fun y hy => by rw [HG.out] at hy; cases hy; exact ⟨HRB.out, exz⟩)).1, Lib.hid (fun y => by rw [(ins_srt toS HS.out hk HK.out (fun y hy => by rw [HG.out] at hy; cases hy; exact ⟨HRB.out, exz⟩)).2, HM.out y, mem_take_succ HX.out]), L2⟩
                case measure => simp [intOf]; omega
          · go_wp2_with fail
            go_quiet (fail)
            clear hr
            go_wp2_with fail
            go_roundw
            case rel => exact ⟨k + 1, _, by go_num, by omega, Lib.hid (fun j y hj hy => by
              by_cases e : j = k
              · subst e
                rw [HG.out] at hy
                cases hy
                exact HRB.out
              · exact HK.out j y (by omega) hy), rfl⟩
            case measure => simp [intOf]; omega
        · obtain rfl : k = R.length := by omega
          rcases HO.out.cells with ⟨e, rfl⟩ | ⟨g, cap', cur, e, hgW, hgl, _, n1, n2, hcc, _⟩
          · simp only [Value.slice.injEq] at e
            obtain ⟨rfl, _, rfl⟩ := e
            go_wp2_with fail
            go_quiet (fail)
            go_wp2_with fail
            go_quiet (fail)
            go_wp2_with fail
            generalize hwq : (((wr.drewN n).drewN _).drewN _) = wq
            have HOq : Hid (OwnC cS 9 wq w.heap.size (.slice none 0 0) ([] : List ByteArray)) := Lib.hid (by rw [← hwq]; exact HO.out)
            have HBq : Hid (Below w.heap.size w wq) := Lib.hid (by rw [← hwq]; exact HB.out.trans (((below_drewN _ _ _).trans (below_drewN _ _ _)).trans (below_drewN _ _ _)))
            have cxq : wq.cell? ⟨b, off + i, none⟩ = some (.string x) := by rw [← hwq]; exact cx
            have hkc : 0 ≤ 0 := by first | omega | (simp <;> omega)
            have hkc' : ((0 : Nat) : Int) ≤ (0 : Int) := by first | omega | (simp <;> omega)
            clear hwq HRr HO HB cx
            obtain ⟨e1, e2, z1, z2⟩ := s9n_start (x := x) (w := w) (wq := wq) HBq.out
            have E1 := Lib.hid e1
            have E2 := Lib.hid e2
            have Z1 := Lib.hid z1
            have Z2 := Lib.hid z2
            clear e1 e2 z1 z2
            go_region_law (first
              | ((with_reducible refine step_appC (w := wq.drew) infS one_S (by with_unfolding_all rfl) (.const (.slice none 0 0)) (.tmp 46) (by with_unfolding_all rfl) w.heap.size (.slice none 0 0) ([] : List ByteArray) (by first | (simp [Act.eval]; done) | simp [Act.eval, Act.put]) (OwnC.nil _ _) _ _ (([] : List ByteArray).take 0) (by first | (simp [Act.eval]; done) | simp [Act.eval, Act.put]) E1.out (by simp <;> omega) Z1.out ?_); intro v3 x3 ho3 hg3 hl3; obtain ⟨a3, n3, c3, hv3⟩ := ho3.slice; subst hv3; obtain ⟨f1, f2, f3, f4, f5⟩ := s9n_a (tl := .slice none 0 0) (D := ([] : List ByteArray)) HBq.out cxq ho3 hg3 hl3 (fun _ => RdC.nil _ _); have FA1 := Lib.hid f1; have FA2 := Lib.hid f2; have FA3 := Lib.hid f3; have FA5 := Lib.hid f5; clear f1 f2 f3 f5 ho3 hg3 hl3)
              | ((with_reducible refine step_appC (w := (wq.alloc (.cells #[.string x] 9)).drew) infS one_S (by with_unfolding_all rfl) (.const (.slice none 0 0)) (.tmp 46) (by with_unfolding_all rfl) w.heap.size (.slice none 0 0) ([] : List ByteArray) (by first | (simp [Act.eval]; done) | simp [Act.eval, Act.put]) (OwnC.nil _ _) _ _ (([] : List ByteArray).take 0) (by first | (simp [Act.eval]; done) | simp [Act.eval, Act.put]) E2.out (by simp <;> omega) Z2.out ?_); intro v3 x3 ho3 hg3 hl3; obtain ⟨a3, n3, c3, hv3⟩ := ho3.slice; subst hv3; obtain ⟨f1, f2, f3, f4, f5⟩ := s9n_b (tl := .slice none 0 0) (D := ([] : List ByteArray)) HBq.out cxq ho3 hg3 hl3 (fun _ => RdC.nil _ _); have FB1 := Lib.hid f1; have FB2 := Lib.hid f2; have FB3 := Lib.hid f3; have FB5 := Lib.hid f5; clear f1 f2 f3 f5 ho3 hg3 hl3)
              | ((with_reducible refine step_appC (w := x3.alloc (.cells #[.string x] 9)) infS one_S (by with_unfolding_all rfl) (.tmp 47) (.tmp 52) (by with_unfolding_all rfl) w.heap.size _ (([] : List ByteArray).take 0) (by first | (simp [Act.eval]; done) | simp [Act.eval, Act.put]) FA1.out _ _ [x] (by first | (simp [Act.eval]; done) | simp [Act.eval, Act.put]) FA2.out (by simp <;> omega) FA5.out ?_); intro v9 x9 ho9 hg9 hl9; obtain ⟨a9, n9, c9, hv9⟩ := ho9.slice; subst hv9; obtain ⟨j1, j2, j3⟩ := s9_mid FA3.out FA1.out ho9 hg9; have J1 := Lib.hid j1; have J2 := Lib.hid j2; have J3 := Lib.hid j3; clear j1 j2 j3 ho9 hg9 hl9)
              | ((with_reducible refine step_appC (w := x3) infS one_S (by with_unfolding_all rfl) (.tmp 47) (.tmp 52) (by with_unfolding_all rfl) w.heap.size _ (([] : List ByteArray).take 0) (by first | (simp [Act.eval]; done) | simp [Act.eval, Act.put]) FB1.out _ _ [x] (by first | (simp [Act.eval]; done) | simp [Act.eval, Act.put]) FB2.out (by simp <;> omega) FB5.out ?_); intro v9 x9 ho9 hg9 hl9; obtain ⟨a9, n9, c9, hv9⟩ := ho9.slice; subst hv9; obtain ⟨j1, j2, j3⟩ := s9_mid FB3.out FB1.out ho9 hg9; have J1 := Lib.hid j1; have J2 := Lib.hid j2; have J3 := Lib.hid j3; clear j1 j2 j3 ho9 hg9 hl9)
              | ((with_reducible refine step_appC (w := x9) infS one_S (by with_unfolding_all rfl) (.tmp 53) (.tmp 56) (by with_unfolding_all rfl) w.heap.size _ (([] : List ByteArray).take 0 ++ [x]) (by first | (simp [Act.eval]; done) | simp [Act.eval, Act.put]) J1.out _ _ (([] : List ByteArray).drop 0) (by first | (simp [Act.eval]; done) | simp [Act.eval, Act.put]) J2.out (by simp <;> omega) J3.out.size ?_); intro v13 x13 ho13 hg13 hl13; obtain ⟨a13, n13, c13, hv13⟩ := ho13.slice; subst hv13; have L1 := Lib.hid ho13; have L2 := Lib.hid (s9_end J1.out J3.out hg13); clear ho13 hg13 hl13))

            all_goals
              go_wp2_with fail
              go_roundw
              case rel => exact ⟨i + 1, ([] : List ByteArray).take 0 ++ [x] ++ ([] : List ByteArray).drop 0, by go_num, by omega, by simp <;> omega, L1, Lib.hid (ins_srt (R := ([] : List ByteArray)) (k := 0) toS HS.out (Nat.le_refl _) (fun j y hj => absurd hj (by omega)) (fun y hy => by simp at hy)).1, Lib.hid (fun y => by rw [(ins_srt (R := ([] : List ByteArray)) (k := 0) toS HS.out (Nat.le_refl _) (fun j y hj => absurd hj (by omega)) (fun y hy => by simp at hy)).2, HM.out y, mem_take_succ HX.out]), L2⟩
              case measure => simp [intOf]; omega
          · simp only [Value.slice.injEq] at e
            obtain ⟨rfl, _, rfl⟩ := e
            unfold maxLen at n2
            have hd : decide (R.length < R.length) = false := by simp
            have hd2 : ((R.length : Int) == (R.length : Int)) = true := by simp
            clear hcc
            go_wp2_with fail
            go_quiet (fail)
            go_wp2_with fail
            go_quiet (fail)
            go_wp2_with fail
            generalize hwq : (((wr.drewN n).drewN _).drewN _) = wq
            have HOq : Hid (OwnC cS 9 wq w.heap.size (.slice (some ⟨g, 0, none⟩) R.length cu) R) := Lib.hid (by rw [← hwq]; exact HO.out)
            have HBq : Hid (Below w.heap.size w wq) := Lib.hid (by rw [← hwq]; exact HB.out.trans (((below_drewN _ _ _).trans (below_drewN _ _ _)).trans (below_drewN _ _ _)))
            have cxq : wq.cell? ⟨b, off + i, none⟩ = some (.string x) := by rw [← hwq]; exact cx
            have hkc : R.length ≤ cu := by first | omega | (simp <;> omega)
            have hkc' : ((R.length : Nat) : Int) ≤ (cu : Int) := by first | omega | (simp <;> omega)
            clear hwq HRr HO HB cx
            obtain ⟨e1, e2, z1, z2⟩ := s9_start (k := R.length) (x := x) HOq.out HBq.out (Nat.le_refl _)
            have E1 := Lib.hid e1
            have E2 := Lib.hid e2
            have Z1 := Lib.hid z1
            have Z2 := Lib.hid z2
            clear e1 e2 z1 z2
            go_region_law (first
              | ((with_reducible refine step_appC (w := wq.drew) infS one_S (by with_unfolding_all rfl) (.const (.slice none 0 0)) (.tmp 46) (by with_unfolding_all rfl) w.heap.size (.slice none 0 0) ([] : List ByteArray) (by first | (simp [Act.eval]; done) | simp [Act.eval, Act.put]) (OwnC.nil _ _) _ _ (R.take R.length) (by first | (simp [Act.eval]; done) | simp [Act.eval, Act.put]) E1.out (by simp <;> omega) Z1.out ?_); intro v3 x3 ho3 hg3 hl3; obtain ⟨a3, n3, c3, hv3⟩ := ho3.slice; subst hv3; obtain ⟨f1, f2, f3, f4, f5⟩ := s9n_a (tl := .slice (some ⟨g, if cu = R.length then 0 else R.length, none⟩) 0 (cu - R.length)) (D := R.drop R.length) HBq.out cxq ho3 hg3 hl3 (rd_none (by simp) (by unfold maxLen; omega)); have FA1 := Lib.hid f1; have FA2 := Lib.hid f2; have FA3 := Lib.hid f3; have FA5 := Lib.hid f5; clear f1 f2 f3 f5 ho3 hg3 hl3)
              | ((with_reducible refine step_appC (w := (wq.alloc (.cells #[.string x] 9)).drew) infS one_S (by with_unfolding_all rfl) (.const (.slice none 0 0)) (.tmp 46) (by with_unfolding_all rfl) w.heap.size (.slice none 0 0) ([] : List ByteArray) (by first | (simp [Act.eval]; done) | simp [Act.eval, Act.put]) (OwnC.nil _ _) _ _ (R.take R.length) (by first | (simp [Act.eval]; done) | simp [Act.eval, Act.put]) E2.out (by simp <;> omega) Z2.out ?_); intro v3 x3 ho3 hg3 hl3; obtain ⟨a3, n3, c3, hv3⟩ := ho3.slice; subst hv3; obtain ⟨f1, f2, f3, f4, f5⟩ := s9n_b (tl := .slice (some ⟨g, if cu = R.length then 0 else R.length, none⟩) 0 (cu - R.length)) (D := R.drop R.length) HBq.out cxq ho3 hg3 hl3 (rd_none (by simp) (by unfold maxLen; omega)); have FB1 := Lib.hid f1; have FB2 := Lib.hid f2; have FB3 := Lib.hid f3; have FB5 := Lib.hid f5; clear f1 f2 f3 f5 ho3 hg3 hl3)
              | ((with_reducible refine step_appC (w := x3.alloc (.cells #[.string x] 9)) infS one_S (by with_unfolding_all rfl) (.tmp 47) (.tmp 52) (by with_unfolding_all rfl) w.heap.size _ (R.take R.length) (by first | (simp [Act.eval]; done) | simp [Act.eval, Act.put]) FA1.out _ _ [x] (by first | (simp [Act.eval]; done) | simp [Act.eval, Act.put]) FA2.out (by simp <;> omega) FA5.out ?_); intro v9 x9 ho9 hg9 hl9; obtain ⟨a9, n9, c9, hv9⟩ := ho9.slice; subst hv9; obtain ⟨j1, j2, j3⟩ := s9_mid FA3.out FA1.out ho9 hg9; have J1 := Lib.hid j1; have J2 := Lib.hid j2; have J3 := Lib.hid j3; clear j1 j2 j3 ho9 hg9 hl9)
              | ((with_reducible refine step_appC (w := x3) infS one_S (by with_unfolding_all rfl) (.tmp 47) (.tmp 52) (by with_unfolding_all rfl) w.heap.size _ (R.take R.length) (by first | (simp [Act.eval]; done) | simp [Act.eval, Act.put]) FB1.out _ _ [x] (by first | (simp [Act.eval]; done) | simp [Act.eval, Act.put]) FB2.out (by simp <;> omega) FB5.out ?_); intro v9 x9 ho9 hg9 hl9; obtain ⟨a9, n9, c9, hv9⟩ := ho9.slice; subst hv9; obtain ⟨j1, j2, j3⟩ := s9_mid FB3.out FB1.out ho9 hg9; have J1 := Lib.hid j1; have J2 := Lib.hid j2; have J3 := Lib.hid j3; clear j1 j2 j3 ho9 hg9 hl9)
              | ((with_reducible refine step_appC (w := x9) infS one_S (by with_unfolding_all rfl) (.tmp 53) (.tmp 56) (by with_unfolding_all rfl) w.heap.size _ (R.take R.length ++ [x]) (by first | (simp [Act.eval]; done) | simp [Act.eval, Act.put]) J1.out _ _ (R.drop R.length) (by first | (simp [Act.eval]; done) | (simp [Act.eval] <;> split <;> rfl) | (simp [Act.eval, Act.put] <;> split <;> rfl)) J2.out (by simp <;> omega) J3.out.size ?_); intro v13 x13 ho13 hg13 hl13; obtain ⟨a13, n13, c13, hv13⟩ := ho13.slice; subst hv13; have L1 := Lib.hid ho13; have L2 := Lib.hid (s9_end J1.out J3.out hg13); clear ho13 hg13 hl13))

            all_goals
              go_wp2_with fail
              go_roundw
              case rel => exact ⟨i + 1, R.take R.length ++ [x] ++ R.drop R.length, by go_num, by omega, by simp <;> omega, L1, Lib.hid (ins_srt toS HS.out (Nat.le_refl _) HK.out (fun y hy => by simp at hy)).1, Lib.hid (fun y => by rw [(ins_srt toS HS.out (Nat.le_refl _) HK.out (fun y hy => by simp at hy)).2, HM.out y, mem_take_succ HX.out]), L2⟩
              case measure => simp [intOf]; omega
    · obtain rfl : i = xs.length := by omega
      rw [List.take_length] at HM
      clear hlt hi
      go_wp2
      go_ret
      exact ⟨_, R, rfl, HO.out, HS.out, HM.out, HB.out⟩
end Go.Proofs.Ytejjmbfbjagifaa.S
