/- Slices of types: read, owned, appended to. -/
import Derived.Test.YtibciicpgjgjbaaDoorDOne
import Derived.Laws.AppendOwnNone
import Derived.Deep.QuietTactic
import Derived.BigQuiet
namespace Go.Proofs.YtibciicpgjgjbaaDoor
open Go.RowKit

/-- the slice value v reads as the types ts -/
def RdT (w : World) (v : Value) (ts : List Ty) : Prop :=
  ∃ (p : Option Addr) (cap : Nat), v = .slice p ts.length cap ∧ (∀ a, p = some a → ts ≠ [] → a.spot = none) ∧ (p = none → ts = []) ∧
    ∀ a, p = some a → ∀ (i : Nat) t, ts[i]? = some t → w.cell? ⟨a.block, a.off + i * 2, none⟩ = some (.int .i64 t.1) ∧ w.cell? ⟨a.block, a.off + i * 2 + 1, none⟩ = some (.string t.2)

theorem RdT.below {B : Nat} {w w' : World} {v : Value} {ts : List Ty} (h : RdT w v ts) (hb : Below B w w') (hB : w.heap.size ≤ B) : RdT w' v ts := by
  obtain ⟨p, cap, rfl, h1, h2, h3⟩ := h
  refine ⟨p, cap, rfl, h1, h2, fun a ha i t ht => ?_⟩
  obtain ⟨c0, c1⟩ := h3 a ha i t ht
  have hlt := World.block_lt_of_cell? _ _ c0
  simp only at hlt
  exact ⟨by rw [hb.cell (p := ⟨a.block, a.off + i * 2, none⟩) (by simp only; omega)]; exact c0, by rw [hb.cell (p := ⟨a.block, a.off + i * 2 + 1, none⟩) (by simp only; omega)]; exact c1⟩

/-- the cells of types -/
def tyCells (ts : List Ty) : List Value := ts.flatMap fun t => [.int .i64 t.1, .string t.2]

theorem tyCells_app (a b : List Ty) : tyCells (a ++ b) = tyCells a ++ tyCells b := List.flatMap_append ..
theorem tyCells_len (ts : List Ty) : (tyCells ts).length = ts.length * 2 := by
  induction ts with
  | nil => rfl
  | cons t ts ih => show (tyCells ts).length + 1 + 1 = _; rw [ih, List.length_cons]; omega
theorem tyCells_get : ∀ (ts : List Ty) (i : Nat) (t : Ty), ts[i]? = some t → (tyCells ts)[i * 2]? = some (.int .i64 t.1) ∧ (tyCells ts)[i * 2 + 1]? = some (.string t.2)
  | [], i, t, h => by simp at h
  | u :: ts, 0, t, h => by
    simp only [List.getElem?_cons_zero, Option.some.injEq] at h
    subst h
    exact ⟨rfl, rfl⟩
  | u :: ts, i + 1, t, h => by
    have := tyCells_get ts i t (by simpa using h)
    rw [show (i + 1) * 2 = i * 2 + 1 + 1 from by omega]
    exact this

/-- the slice value v is the call's own, from block B on, and reads as the types ts -/
def OwnT (w : World) (B : Nat) (v : Value) (ts : List Ty) : Prop := w.ownsRow B 43 2 v ts.length (tyCells ts)

theorem tyInfo : (Tryd.prog.info? 43).map (fun i => (i.zero, i.size, i.bytes)) = some (some (.agg #[.int .i64 0, .string ⟨#[]⟩]), 2, 24) := by kernel_rfl

theorem add0 (g i : Nat) : (⟨g, 0, none⟩ : Addr).add i = ⟨g, 0 + i, none⟩ := by unfold Addr.add; split <;> simp_all

theorem OwnT.rd {w : World} {B : Nat} {v : Value} {ts : List Ty} (h : OwnT w B v ts) : RdT w v ts := by
  have hh := h
  rcases h.2 with ⟨rfl, hn⟩ | ⟨g, cap, cur, rfl, hb, hg, h1, h2, h3, h4⟩
  · have : ts = [] := List.eq_nil_of_length_eq_zero hn
    subst this
    exact ⟨none, 0, rfl, (fun a ha => by cases ha), fun _ => rfl, fun a ha => by cases ha⟩
  · refine ⟨some ⟨g, 0, none⟩, cap, rfl, (fun a ha _ => by cases ha; rfl), (fun h => by cases h), fun a ha i t ht => ?_⟩
    cases ha
    obtain ⟨g0, g1⟩ := tyCells_get ts i t ht
    have k0 := World.ownsRow.cells hh (g := g) rfl (i * 2) _ g0
    have k1 := World.ownsRow.cells hh (g := g) rfl (i * 2 + 1) _ g1
    rw [add0] at k0 k1
    simp only [Nat.zero_add] at k0 k1 ⊢
    exact ⟨k0, k1⟩

theorem OwnT.lt {w : World} {B : Nat} {v : Value} {ts : List Ty} (h : OwnT w B v ts) {g : Nat} (hg : v.ownBlock = some g) : B ≤ g ∧ g < w.heap.size := World.ownsRow.lt h g hg

theorem OwnT.nil (w : World) (B : Nat) : OwnT w B (.slice none 0 0) [] := ⟨by simp [tyCells], .inl ⟨rfl, rfl⟩⟩

theorem OwnT.below {w w' : World} {B C : Nat} {v : Value} {ts : List Ty} (h : OwnT w B v ts) (hb : Below C w w') (hC : w.heap.size ≤ C) : OwnT w' B v ts := by
  have hh := h
  refine ⟨h.1, ?_⟩
  rcases h.2 with h' | ⟨g, cap, cur, e, hB, hg, r⟩
  · exact .inl h'
  · refine .inr ⟨g, cap, cur, e, hB, ?_, r⟩
    rw [hb.block g (Nat.lt_of_lt_of_le (hh.lt (by rw [e]; rfl)).2 hC)]
    exact hg

theorem toList_inj {a b : ByteArray} (h : a.toList = b.toList) : a = b := by
  rw [Lib.toList_data, Lib.toList_data] at h
  obtain ⟨⟨a⟩⟩ := a
  obtain ⟨⟨b⟩⟩ := b
  rw [show a = b from h]

theorem ty_ext {s t : Ty} (h1 : s.1 = t.1) (h2 : s.2 = t.2) : s = t := Prod.ext h1 h2

def sameB (ts us : List Ty) : Bool := decide (ts = us)

theorem sameB_get {ts us : List Ty} (hl : ts.length = us.length) (h : ∀ i : Nat, i < ts.length → ts[i]? = us[i]?) : sameB ts us = true := by
  unfold sameB
  rw [decide_eq_true_eq]
  refine List.ext_getElem? fun i => ?_
  by_cases hi : i < ts.length
  · exact h i hi
  · rw [List.getElem?_eq_none (by omega), List.getElem?_eq_none (by omega)]
theorem sameB_ne {ts us : List Ty} {k : Nat} (h : ¬ ts[k]? = us[k]?) : sameB ts us = false := by
  unfold sameB
  rw [decide_eq_false_iff_not]
  intro e
  exact h (by rw [e])
theorem sameB_len {ts us : List Ty} (h : ¬ ts.length = us.length) : sameB ts us = false := by
  unfold sameB
  rw [decide_eq_false_iff_not]
  intro e
  exact h (by rw [e])

end Go.Proofs.YtibciicpgjgjbaaDoor
