/- Texts that the proof is made of, joined. No condition. -/
import Derived.Test.YtlmpnmnfloeoiaaGreatC102
import Derived.Test.YtlmpnmnfloeoiaaGreatC100
import Derived.Test.YtlmpnmnfloeoiaaGreatC10H
set_option linter.unusedVariables false
set_option linter.unusedSimpArgs false
set_option maxRecDepth 100000
set_option maxHeartbeats 16000000
namespace Go.Proofs.YtlmpnmnfloeoiaaGreat.A
open Go.RowKit Go.Proofs.YtlmpnmnfloeoiaaGreat.D Go.Proofs.YtlmpnmnfloeoiaaGreat.O
theorem boxN {w : World} {b : Nat} {vs : List Value} {T : TypeId} (h : w.heap[b]? = some (.cells vs.toArray T (0, 0))) : b < w.heap.size ∧ CellsAt w b 0 vs ∧ ∀ j, w.frozen? ⟨b, j, none⟩ = false := by
  refine ⟨(Array.getElem?_eq_some_iff.1 h).1, fun j u hu => ?_, fun j => ?_⟩
  · rw [Nat.zero_add]
    simp [World.cell?, h, hu]
  · simp [World.frozen?, h]
theorem set6 {w : World} {X : Nat} {T : TypeId} {a0 a1 a2 a3 a4 a5 v0 v1 v2 v3 v4 v5 : Value} (h : w.heap[X]? = some (.cells #[a0, a1, a2, a3, a4, a5] T (0, 0))) :
    ((((((w.setCell ⟨X, 0, none⟩ v0).setCell ⟨X, 1, none⟩ v1).setCell ⟨X, 2, none⟩ v2).setCell ⟨X, 3, none⟩ v3).setCell ⟨X, 4, none⟩ v4).setCell ⟨X, 5, none⟩ v5).heap[X]? = some (.cells #[v0, v1, v2, v3, v4, v5] T (0, 0)) ∧ Kpt [X] w ((((((w.setCell ⟨X, 0, none⟩ v0).setCell ⟨X, 1, none⟩ v1).setCell ⟨X, 2, none⟩ v2).setCell ⟨X, 3, none⟩ v3).setCell ⟨X, 4, none⟩ v4).setCell ⟨X, 5, none⟩ v5) := by
  have h0 : (w.setCell ⟨X, 0, none⟩ v0).heap[X]? = some (.cells #[v0, a1, a2, a3, a4, a5] T (0, 0)) := by rw [heap_setCell_same _ X 0 _ _ _ h]; rfl
  have k0 : Kpt [X] w (w.setCell ⟨X, 0, none⟩ v0) := Kpt.set _ _ _ _ _ (by simp)
  have h1 : ((w.setCell ⟨X, 0, none⟩ v0).setCell ⟨X, 1, none⟩ v1).heap[X]? = some (.cells #[v0, v1, a2, a3, a4, a5] T (0, 0)) := by rw [heap_setCell_same _ X 1 _ _ _ h0]; rfl
  have k1 : Kpt [X] (w.setCell ⟨X, 0, none⟩ v0) ((w.setCell ⟨X, 0, none⟩ v0).setCell ⟨X, 1, none⟩ v1) := Kpt.set _ _ _ _ _ (by simp)
  have h2 : (((w.setCell ⟨X, 0, none⟩ v0).setCell ⟨X, 1, none⟩ v1).setCell ⟨X, 2, none⟩ v2).heap[X]? = some (.cells #[v0, v1, v2, a3, a4, a5] T (0, 0)) := by rw [heap_setCell_same _ X 2 _ _ _ h1]; rfl
  have k2 : Kpt [X] ((w.setCell ⟨X, 0, none⟩ v0).setCell ⟨X, 1, none⟩ v1) (((w.setCell ⟨X, 0, none⟩ v0).setCell ⟨X, 1, none⟩ v1).setCell ⟨X, 2, none⟩ v2) := Kpt.set _ _ _ _ _ (by simp)
  have h3 : ((((w.setCell ⟨X, 0, none⟩ v0).setCell ⟨X, 1, none⟩ v1).setCell ⟨X, 2, none⟩ v2).setCell ⟨X, 3, none⟩ v3).heap[X]? = some (.cells #[v0, v1, v2, v3, a4, a5] T (0, 0)) := by rw [heap_setCell_same _ X 3 _ _ _ h2]; rfl
  have k3 : Kpt [X] (((w.setCell ⟨X, 0, none⟩ v0).setCell ⟨X, 1, none⟩ v1).setCell ⟨X, 2, none⟩ v2) ((((w.setCell ⟨X, 0, none⟩ v0).setCell ⟨X, 1, none⟩ v1).setCell ⟨X, 2, none⟩ v2).setCell ⟨X, 3, none⟩ v3) := Kpt.set _ _ _ _ _ (by simp)
  have h4 : (((((w.setCell ⟨X, 0, none⟩ v0).setCell ⟨X, 1, none⟩ v1).setCell ⟨X, 2, none⟩ v2).setCell ⟨X, 3, none⟩ v3).setCell ⟨X, 4, none⟩ v4).heap[X]? = some (.cells #[v0, v1, v2, v3, v4, a5] T (0, 0)) := by rw [heap_setCell_same _ X 4 _ _ _ h3]; rfl
  have k4 : Kpt [X] ((((w.setCell ⟨X, 0, none⟩ v0).setCell ⟨X, 1, none⟩ v1).setCell ⟨X, 2, none⟩ v2).setCell ⟨X, 3, none⟩ v3) (((((w.setCell ⟨X, 0, none⟩ v0).setCell ⟨X, 1, none⟩ v1).setCell ⟨X, 2, none⟩ v2).setCell ⟨X, 3, none⟩ v3).setCell ⟨X, 4, none⟩ v4) := Kpt.set _ _ _ _ _ (by simp)
  have h5 : ((((((w.setCell ⟨X, 0, none⟩ v0).setCell ⟨X, 1, none⟩ v1).setCell ⟨X, 2, none⟩ v2).setCell ⟨X, 3, none⟩ v3).setCell ⟨X, 4, none⟩ v4).setCell ⟨X, 5, none⟩ v5).heap[X]? = some (.cells #[v0, v1, v2, v3, v4, v5] T (0, 0)) := by rw [heap_setCell_same _ X 5 _ _ _ h4]; rfl
  have k5 : Kpt [X] (((((w.setCell ⟨X, 0, none⟩ v0).setCell ⟨X, 1, none⟩ v1).setCell ⟨X, 2, none⟩ v2).setCell ⟨X, 3, none⟩ v3).setCell ⟨X, 4, none⟩ v4) ((((((w.setCell ⟨X, 0, none⟩ v0).setCell ⟨X, 1, none⟩ v1).setCell ⟨X, 2, none⟩ v2).setCell ⟨X, 3, none⟩ v3).setCell ⟨X, 4, none⟩ v4).setCell ⟨X, 5, none⟩ v5) := Kpt.set _ _ _ _ _ (by simp)
  exact ⟨h5, (Kpt.trans (Kpt.trans (Kpt.trans (Kpt.trans (Kpt.trans k0 k1 (fun _ h => .inl h)) k2 (fun _ h => .inl h)) k3 (fun _ h => .inl h)) k4 (fun _ h => .inl h)) k5 (fun _ h => .inl h))⟩
theorem set9 {w : World} {X : Nat} {T : TypeId} {a0 a1 a2 a3 a4 a5 a6 a7 a8 v0 v1 v2 v3 v4 v5 v6 v7 v8 : Value} (h : w.heap[X]? = some (.cells #[a0, a1, a2, a3, a4, a5, a6, a7, a8] T (0, 0))) :
    (((((((((w.setCell ⟨X, 0, none⟩ v0).setCell ⟨X, 1, none⟩ v1).setCell ⟨X, 2, none⟩ v2).setCell ⟨X, 3, none⟩ v3).setCell ⟨X, 4, none⟩ v4).setCell ⟨X, 5, none⟩ v5).setCell ⟨X, 6, none⟩ v6).setCell ⟨X, 7, none⟩ v7).setCell ⟨X, 8, none⟩ v8).heap[X]? = some (.cells #[v0, v1, v2, v3, v4, v5, v6, v7, v8] T (0, 0)) ∧ Kpt [X] w (((((((((w.setCell ⟨X, 0, none⟩ v0).setCell ⟨X, 1, none⟩ v1).setCell ⟨X, 2, none⟩ v2).setCell ⟨X, 3, none⟩ v3).setCell ⟨X, 4, none⟩ v4).setCell ⟨X, 5, none⟩ v5).setCell ⟨X, 6, none⟩ v6).setCell ⟨X, 7, none⟩ v7).setCell ⟨X, 8, none⟩ v8) := by
  have h0 : (w.setCell ⟨X, 0, none⟩ v0).heap[X]? = some (.cells #[v0, a1, a2, a3, a4, a5, a6, a7, a8] T (0, 0)) := by rw [heap_setCell_same _ X 0 _ _ _ h]; rfl
  have k0 : Kpt [X] w (w.setCell ⟨X, 0, none⟩ v0) := Kpt.set _ _ _ _ _ (by simp)
  have h1 : ((w.setCell ⟨X, 0, none⟩ v0).setCell ⟨X, 1, none⟩ v1).heap[X]? = some (.cells #[v0, v1, a2, a3, a4, a5, a6, a7, a8] T (0, 0)) := by rw [heap_setCell_same _ X 1 _ _ _ h0]; rfl
  have k1 : Kpt [X] (w.setCell ⟨X, 0, none⟩ v0) ((w.setCell ⟨X, 0, none⟩ v0).setCell ⟨X, 1, none⟩ v1) := Kpt.set _ _ _ _ _ (by simp)
  have h2 : (((w.setCell ⟨X, 0, none⟩ v0).setCell ⟨X, 1, none⟩ v1).setCell ⟨X, 2, none⟩ v2).heap[X]? = some (.cells #[v0, v1, v2, a3, a4, a5, a6, a7, a8] T (0, 0)) := by rw [heap_setCell_same _ X 2 _ _ _ h1]; rfl
  have k2 : Kpt [X] ((w.setCell ⟨X, 0, none⟩ v0).setCell ⟨X, 1, none⟩ v1) (((w.setCell ⟨X, 0, none⟩ v0).setCell ⟨X, 1, none⟩ v1).setCell ⟨X, 2, none⟩ v2) := Kpt.set _ _ _ _ _ (by simp)
  have h3 : ((((w.setCell ⟨X, 0, none⟩ v0).setCell ⟨X, 1, none⟩ v1).setCell ⟨X, 2, none⟩ v2).setCell ⟨X, 3, none⟩ v3).heap[X]? = some (.cells #[v0, v1, v2, v3, a4, a5, a6, a7, a8] T (0, 0)) := by rw [heap_setCell_same _ X 3 _ _ _ h2]; rfl
  have k3 : Kpt [X] (((w.setCell ⟨X, 0, none⟩ v0).setCell ⟨X, 1, none⟩ v1).setCell ⟨X, 2, none⟩ v2) ((((w.setCell ⟨X, 0, none⟩ v0).setCell ⟨X, 1, none⟩ v1).setCell ⟨X, 2, none⟩ v2).setCell ⟨X, 3, none⟩ v3) := Kpt.set _ _ _ _ _ (by simp)
  have h4 : (((((w.setCell ⟨X, 0, none⟩ v0).setCell ⟨X, 1, none⟩ v1).setCell ⟨X, 2, none⟩ v2).setCell ⟨X, 3, none⟩ v3).setCell ⟨X, 4, none⟩ v4).heap[X]? = some (.cells #[v0, v1, v2, v3, v4, a5, a6, a7, a8] T (0, 0)) := by rw [heap_setCell_same _ X 4 _ _ _ h3]; rfl
  have k4 : Kpt [X] ((((w.setCell ⟨X, 0, none⟩ v0).setCell ⟨X, 1, none⟩ v1).setCell ⟨X, 2, none⟩ v2).setCell ⟨X, 3, none⟩ v3) (((((w.setCell ⟨X, 0, none⟩ v0).setCell ⟨X, 1, none⟩ v1).setCell ⟨X, 2, none⟩ v2).setCell ⟨X, 3, none⟩ v3).setCell ⟨X, 4, none⟩ v4) := Kpt.set _ _ _ _ _ (by simp)
  have h5 : ((((((w.setCell ⟨X, 0, none⟩ v0).setCell ⟨X, 1, none⟩ v1).setCell ⟨X, 2, none⟩ v2).setCell ⟨X, 3, none⟩ v3).setCell ⟨X, 4, none⟩ v4).setCell ⟨X, 5, none⟩ v5).heap[X]? = some (.cells #[v0, v1, v2, v3, v4, v5, a6, a7, a8] T (0, 0)) := by rw [heap_setCell_same _ X 5 _ _ _ h4]; rfl
  have k5 : Kpt [X] (((((w.setCell ⟨X, 0, none⟩ v0).setCell ⟨X, 1, none⟩ v1).setCell ⟨X, 2, none⟩ v2).setCell ⟨X, 3, none⟩ v3).setCell ⟨X, 4, none⟩ v4) ((((((w.setCell ⟨X, 0, none⟩ v0).setCell ⟨X, 1, none⟩ v1).setCell ⟨X, 2, none⟩ v2).setCell ⟨X, 3, none⟩ v3).setCell ⟨X, 4, none⟩ v4).setCell ⟨X, 5, none⟩ v5) := Kpt.set _ _ _ _ _ (by simp)
  have h6 : (((((((w.setCell ⟨X, 0, none⟩ v0).setCell ⟨X, 1, none⟩ v1).setCell ⟨X, 2, none⟩ v2).setCell ⟨X, 3, none⟩ v3).setCell ⟨X, 4, none⟩ v4).setCell ⟨X, 5, none⟩ v5).setCell ⟨X, 6, none⟩ v6).heap[X]? = some (.cells #[v0, v1, v2, v3, v4, v5, v6, a7, a8] T (0, 0)) := by rw [heap_setCell_same _ X 6 _ _ _ h5]; rfl
  have k6 : Kpt [X] ((((((w.setCell ⟨X, 0, none⟩ v0).setCell ⟨X, 1, none⟩ v1).setCell ⟨X, 2, none⟩ v2).setCell ⟨X, 3, none⟩ v3).setCell ⟨X, 4, none⟩ v4).setCell ⟨X, 5, none⟩ v5) (((((((w.setCell ⟨X, 0, none⟩ v0).setCell ⟨X, 1, none⟩ v1).setCell ⟨X, 2, none⟩ v2).setCell ⟨X, 3, none⟩ v3).setCell ⟨X, 4, none⟩ v4).setCell ⟨X, 5, none⟩ v5).setCell ⟨X, 6, none⟩ v6) := Kpt.set _ _ _ _ _ (by simp)
  have h7 : ((((((((w.setCell ⟨X, 0, none⟩ v0).setCell ⟨X, 1, none⟩ v1).setCell ⟨X, 2, none⟩ v2).setCell ⟨X, 3, none⟩ v3).setCell ⟨X, 4, none⟩ v4).setCell ⟨X, 5, none⟩ v5).setCell ⟨X, 6, none⟩ v6).setCell ⟨X, 7, none⟩ v7).heap[X]? = some (.cells #[v0, v1, v2, v3, v4, v5, v6, v7, a8] T (0, 0)) := by rw [heap_setCell_same _ X 7 _ _ _ h6]; rfl
  have k7 : Kpt [X] (((((((w.setCell ⟨X, 0, none⟩ v0).setCell ⟨X, 1, none⟩ v1).setCell ⟨X, 2, none⟩ v2).setCell ⟨X, 3, none⟩ v3).setCell ⟨X, 4, none⟩ v4).setCell ⟨X, 5, none⟩ v5).setCell ⟨X, 6, none⟩ v6) ((((((((w.setCell ⟨X, 0, none⟩ v0).setCell ⟨X, 1, none⟩ v1).setCell ⟨X, 2, none⟩ v2).setCell ⟨X, 3, none⟩ v3).setCell ⟨X, 4, none⟩ v4).setCell ⟨X, 5, none⟩ v5).setCell ⟨X, 6, none⟩ v6).setCell ⟨X, 7, none⟩ v7) := Kpt.set _ _ _ _ _ (by simp)
  have h8 : (((((((((w.setCell ⟨X, 0, none⟩ v0).setCell ⟨X, 1, none⟩ v1).setCell ⟨X, 2, none⟩ v2).setCell ⟨X, 3, none⟩ v3).setCell ⟨X, 4, none⟩ v4).setCell ⟨X, 5, none⟩ v5).setCell ⟨X, 6, none⟩ v6).setCell ⟨X, 7, none⟩ v7).setCell ⟨X, 8, none⟩ v8).heap[X]? = some (.cells #[v0, v1, v2, v3, v4, v5, v6, v7, v8] T (0, 0)) := by rw [heap_setCell_same _ X 8 _ _ _ h7]; rfl
  have k8 : Kpt [X] ((((((((w.setCell ⟨X, 0, none⟩ v0).setCell ⟨X, 1, none⟩ v1).setCell ⟨X, 2, none⟩ v2).setCell ⟨X, 3, none⟩ v3).setCell ⟨X, 4, none⟩ v4).setCell ⟨X, 5, none⟩ v5).setCell ⟨X, 6, none⟩ v6).setCell ⟨X, 7, none⟩ v7) (((((((((w.setCell ⟨X, 0, none⟩ v0).setCell ⟨X, 1, none⟩ v1).setCell ⟨X, 2, none⟩ v2).setCell ⟨X, 3, none⟩ v3).setCell ⟨X, 4, none⟩ v4).setCell ⟨X, 5, none⟩ v5).setCell ⟨X, 6, none⟩ v6).setCell ⟨X, 7, none⟩ v7).setCell ⟨X, 8, none⟩ v8) := Kpt.set _ _ _ _ _ (by simp)
  exact ⟨h8, (Kpt.trans (Kpt.trans (Kpt.trans (Kpt.trans (Kpt.trans (Kpt.trans (Kpt.trans (Kpt.trans k0 k1 (fun _ h => .inl h)) k2 (fun _ h => .inl h)) k3 (fun _ h => .inl h)) k4 (fun _ h => .inl h)) k5 (fun _ h => .inl h)) k6 (fun _ h => .inl h)) k7 (fun _ h => .inl h)) k8 (fun _ h => .inl h))⟩
theorem OwnX.slice {α : Type} {sz : Nat} {T : TypeId} {P : Pv α} {w : World} {B : Nat} {v : Value} {xs : List α} (h : OwnX sz T P w B v xs) : ∃ p n c, v = .slice p n c := by
  obtain ⟨cs, h1, _⟩ := h
  rcases h1.2 with ⟨rfl, hn⟩ | ⟨g, cap, cur, rfl, hb, hg, hle, _⟩
  · exact ⟨_, _, _, rfl⟩
  · exact ⟨_, _, _, rfl⟩
end Go.Proofs.YtlmpnmnfloeoiaaGreat.A
namespace Go.Proofs.YtlmpnmnfloeoiaaGreat.R
open Go.RowKit Go.Proofs.YtlmpnmnfloeoiaaGreat.D Go.Proofs.YtlmpnmnfloeoiaaGreat.O Go.Proofs.YtlmpnmnfloeoiaaGreat.A
def TrW (w : World) (ok : Nat → Prop) (tb mb : Nat) (vs : Value) (K : List Cls) : Prop :=
  ok tb ∧ ok mb ∧ w.heap[tb]? = some (.cells #[vs, .map (some mb)] 67 (0, 0)) ∧ RdX 6 cP ok w vs K ∧ Mp w mb K.length (K.map (·.name)) ∧ SzT (K.map skOf)
theorem TrW.below {w w' : World} {ok : Nat → Prop} {tb mb : Nat} {vs : Value} {K : List Cls} (h : TrW w ok tb mb vs K) (hb : Below w.heap.size w w') : TrW w' ok tb mb vs K := by
  obtain ⟨h1, h2, h3, h4, h5, h6⟩ := h
  exact ⟨h1, h2, (hb.block _ (Array.getElem?_eq_some_iff.1 h3).1).trans h3, h4.step cP.grow (fun _ h _ => h) (.of_below hb) hb.size, h5.kpt (.of_below hb : Kpt [] w w') (by simp), h6⟩
theorem TrW.old {w w' : World} {ok : Nat → Prop} {tb mb : Nat} {vs : Value} {K : List Cls} (h : TrW w ok tb mb vs K) (hb : Below w.heap.size w w') : TrW w' (fun b => ok b ∧ b < w.heap.size) tb mb vs K := by
  obtain ⟨h1, h2, h3, h4, h5, h6⟩ := h
  obtain ⟨es, cl, hm⟩ := h5.map
  exact ⟨⟨h1, (Array.getElem?_eq_some_iff.1 h3).1⟩, ⟨h2, (Array.getElem?_eq_some_iff.1 hm).1⟩, (hb.block _ (Array.getElem?_eq_some_iff.1 h3).1).trans h3, h4.step cP.grow (fun _ h hl => ⟨h, hl⟩) (.of_below hb) hb.size, h5.kpt (.of_below hb : Kpt [] w w') (by simp), h6⟩
theorem TrW.cells {w : World} {ok : Nat → Prop} {tb mb : Nat} {vs : Value} {K : List Cls} (h : TrW w ok tb mb vs K) : tb < w.heap.size ∧ w.cell? ⟨tb, 0, none⟩ = some vs ∧ w.cell? ⟨tb, 1, none⟩ = some (.map (some mb)) ∧ w.frozen? ⟨tb, 0, none⟩ = false := by
  have h3 := h.2.2.1
  refine ⟨(Array.getElem?_eq_some_iff.1 h3).1, ?_, ?_, ?_⟩ <;> simp [World.cell?, World.frozen?, h3]
theorem TrW.few {w : World} {ok : Nat → Prop} {tb mb : Nat} {vs : Value} {K : List Cls} (h : TrW w ok tb mb vs K) : K.length ≤ 1000 := by
  have := h.2.2.2.2.2.1
  rwa [List.length_map] at this
def FAns (ok : Nat → Prop) (K : List Cls) (n : ByteArray) (w : World) (e : Ending) (w' : World) : Prop :=
  ∃ pi ni ci pf nf cf pm nm cm, e = .returned (.tuple #[.agg #[.string ((findC K n).getD noC).name, .string ((findC K n).getD noC).super, .slice pi ni ci, .int .i64 ((findC K n).getD noC).kind, .slice pf nf cf, .slice pm nm cm], .bool (findC K n).isSome]) ∧
    RdX 1 (sP strC) ok w (.slice pi ni ci) ((findC K n).getD noC).ifaces ∧ RdX 4 (sP fldC) ok w (.slice pf nf cf) ((findC K n).getD noC).fields ∧ RdX 9 mP ok w (.slice pm nm cm) ((findC K n).getD noC).methods ∧ Below w.heap.size w w'
set_option maxHeartbeats 4000000 in
set_option maxRecDepth 100000 in
theorem find_t (ok : Nat → Prop) (tb mb : Nat) (vs : Value) (K : List Cls) (n : ByteArray) (w : World) (h : TrW w ok tb mb vs K) (hn : n.size ≤ maxLen) :
    Calls Tryz.prog 46 #[.pointer (some ⟨tb, 0, none⟩), .string n] w (FAns ok K n w) := by
  have HT := Lib.hid h
  clear h
  obtain ⟨w0, hw0⟩ : ∃ x, x = w.alloc (.cells #[.string ⟨#[]⟩, .string ⟨#[]⟩, .slice none 0 0, .int .i64 0, .slice none 0 0, .slice none 0 0] 27) := ⟨_, rfl⟩
  have HB0 : Hid (Below w.heap.size w w0) := Lib.hid (by rw [hw0]; exact below_alR _ _)
  have hs0 : w0.heap.size = w.heap.size + 1 := by rw [hw0]; simp
  have HX0 : Hid (w0.heap[w.heap.size]? = some (.cells #[.string ⟨#[]⟩, .string ⟨#[]⟩, .slice none 0 0, .int .i64 0, .slice none 0 0, .slice none 0 0] 27 (0, 0))) := Lib.hid (by rw [hw0]; exact heap_alloc_new _ _)
  cases hbl : bltS n with
  | some s =>
    have HBL := Lib.hid hbl
    have HF := Lib.hid (find_blt (K := K) hbl)
    clear hbl
    go_enter Tryz.func46, Tryz.ntmps46
    go_wp2_with fail
    rw [← hw0]
    clear hw0
    refine (blt_yes n s w0 HBL.out).mono ?_
    rintro e w1 ⟨rfl, hb1⟩
    have hX1 := (hb1.block _ (by omega)).trans HX0.out
    have hs1 := hb1.size
    have HB1 := Lib.hid (HB0.out.trans (hb1.mono (by omega)))
    clear hb1 HX0
    obtain ⟨xl, xc, xf⟩ := boxN hX1
    have x0 := xc 0 _ rfl
    have z0 := xf 0
    have x1 := xc 1 _ rfl
    have z1 := xf 1
    have x2 := xc 2 _ rfl
    have z2 := xf 2
    have x3 := xc 3 _ rfl
    have z3 := xf 3
    have x4 := xc 4 _ rfl
    have z4 := xf 4
    have x5 := xc 5 _ rfl
    have z5 := xf 5
    simp only [Nat.zero_add] at x0 x1 x2 x3 x4 x5
    clear xc xf
    go_wp2_with fail
    have hk := (set6 (v0 := .string n) (v1 := .string s) (v2 := .slice none 0 0) (v3 := .int .i64 1) (v4 := .slice none 0 0) (v5 := .slice none 0 0) hX1).2
    refine bodyPost_ret (v := .tuple #[.agg #[.string n, .string s, .slice none 0 0, .int .i64 1, .slice none 0 0, .slice none 0 0], .bool true]) (by simp [*, results, Tryz.results46, go_sem]) rfl ?_
    unfold FAns
    rw [HF.out]
    exact ⟨_, _, _, _, _, _, _, _, _, rfl, RdX.nil _ _ _ _, RdX.nil _ _ _ _, RdX.nil _ _ _ _, (HB1.out.trans (hk.below (fun x hx => by simp at hx; omega) (by omega))).alloc (by simp; omega) _⟩
  | none =>
    obtain ⟨okb, hok⟩ : ∃ x, decide (n ∈ K.map (·.name)) = x := ⟨_, rfl⟩
    obtain ⟨ps, hps⟩ : ∃ x, (if n ∈ K.map (·.name) then pos (K.map (·.name)) n else 0) = x := ⟨_, rfl⟩
    have HBL := Lib.hid hbl
    clear hbl
    go_enter Tryz.func46, Tryz.ntmps46
    go_wp2_with fail
    rw [← hw0]
    clear hw0
    refine (blt_no n w0 HBL.out).mono ?_
    rintro e w1 ⟨rfl, hb1⟩
    have hX1 := (hb1.block _ (by omega)).trans HX0.out
    have hs1 := hb1.size
    have hb01 := HB0.out.trans (hb1.mono (by omega))
    have HB1 := Lib.hid hb01
    have HT1 := Lib.hid (HT.out.below hb01)
    clear hb1 hb01 HX0
    obtain ⟨xl, xc, xf⟩ := boxN hX1
    have x0 := xc 0 _ rfl
    have z0 := xf 0
    have x1 := xc 1 _ rfl
    have z1 := xf 1
    have x2 := xc 2 _ rfl
    have z2 := xf 2
    have x3 := xc 3 _ rfl
    have z3 := xf 3
    have x4 := xc 4 _ rfl
    have z4 := xf 4
    have x5 := xc 5 _ rfl
    have z5 := xf 5
    simp only [Nat.zero_add] at x0 x1 x2 x3 x4 x5
    clear xc xf
    obtain ⟨tl, t0, t1, tz⟩ := HT1.out.cells
    have tne : tb ≠ w1.heap.size := by omega
    have hm2 := (HT1.out.2.2.2.2.1).kpt (Kpt.alloc [] w1 (.cells #[.string ⟨#[]⟩, .string ⟨#[]⟩, .slice none 0 0, .int .i64 0, .slice none 0 0, .slice none 0 0] 27)) (by simp)
    by_cases hin : n ∈ K.map (·.name)
    · obtain rfl : true = okb := by rw [← hok, decide_eq_true hin]
      have hps1 := hps
      rw [if_pos hin] at hps1
      obtain ⟨c, hc, hf⟩ := find_in HBL.out hin
      have HF := Lib.hid hf
      rw [hps1] at hc
      clear hps1
      have hpl : ps < K.length := (List.getElem?_eq_some_iff.1 hc).1
      have hfew := HT1.out.few
      have hne : K ≠ [] := by rintro rfl; simp at hpl
      obtain ⟨pv, capv, hv, hcap⟩ := HT.out.2.2.2.1.len
      subst hv
      obtain ⟨b, off, rfl, -, -, hBb, hbl, hcells⟩ := HT.out.2.2.2.1.place hne
      obtain ⟨l, ⟨vi, vf, vm, rfl, k1, k2, k3⟩, hcell⟩ := hcells _ _ hc
      obtain ⟨pi, ci, rfl, -⟩ := k1.len
      obtain ⟨pf, cf, rfl, -⟩ := k2.len
      obtain ⟨pm, cm, rfl, -⟩ := k3.len
      have hcell1 := hcell.below HB1.out hbl
      obtain ⟨y0, y1, y2, y3, y4, y5⟩ := hcell1.six
      replace hbl : b < w1.heap.size := by omega
      have bne : b ≠ w1.heap.size := by omega
      have i0 : (0 : Int) ≤ (ps : Int) := by omega
      have i1 : (ps : Int) < (K.length : Int) := by omega
      have HK1 := Lib.hid k1
      have HK2 := Lib.hid k2
      have HK3 := Lib.hid k3
      clear hcells hcell hcell1 hc hf k1 k2 k3 hcap hne hBb hfew hpl
      go_wp2_with (at_lookup; refine wp_look rfl _ _ rfl mb K.length (K.map (·.name)) rfl hm2 n hn rfl true hok ps hps ?_)
      have hk := (set6 (v0 := .string c.name) (v1 := .string c.super) (v2 := .slice pi c.ifaces.length ci) (v3 := .int .i64 c.kind) (v4 := .slice pf c.fields.length cf) (v5 := .slice pm c.methods.length cm) hX1).2
      refine bodyPost_ret (v := .tuple #[.agg #[.string c.name, .string c.super, .slice pi c.ifaces.length ci, .int .i64 c.kind, .slice pf c.fields.length cf, .slice pm c.methods.length cm], .bool true]) (by simp [*, results, Tryz.results46, go_sem]) rfl ?_
      unfold FAns
      rw [HF.out]
      exact ⟨_, _, _, _, _, _, _, _, _, rfl, HK1.out, HK2.out, HK3.out, (HB1.out.trans (hk.below (fun x hx => by simp at hx; omega) (by omega))).alloc (by simp; omega) _⟩
    · obtain rfl : false = okb := by rw [← hok, decide_eq_false hin]
      have HF := Lib.hid (find_out HBL.out hin)
      go_wp2_with (at_lookup; refine wp_look rfl _ _ rfl mb K.length (K.map (·.name)) rfl hm2 n hn rfl false hok ps hps ?_)
      have hk := (set6 (v0 := .string ⟨#[]⟩) (v1 := .string ⟨#[]⟩) (v2 := .slice none 0 0) (v3 := .int .i64 0) (v4 := .slice none 0 0) (v5 := .slice none 0 0) hX1).2
      refine bodyPost_ret (v := .tuple #[.agg #[.string ⟨#[]⟩, .string ⟨#[]⟩, .slice none 0 0, .int .i64 0, .slice none 0 0, .slice none 0 0], .bool false]) (by simp [*, results, Tryz.results46, go_sem]) rfl ?_
      unfold FAns
      rw [HF.out]
      exact ⟨_, _, _, _, _, _, _, _, _, rfl, RdX.nil _ _ _ _, RdX.nil _ _ _ _, RdX.nil _ _ _ _, (HB1.out.trans (hk.below (fun x hx => by simp at hx; omega) (by omega))).alloc (by simp; omega) _⟩
theorem known_t (ok : Nat → Prop) (tb mb : Nat) (vs : Value) (K : List Cls) (n : ByteArray) (w : World) (h : TrW w ok tb mb vs K) (hn : n.size ≤ maxLen) :
    Calls Tryz.prog 19 #[.pointer (some ⟨tb, 0, none⟩), .string n] w fun e w' => e = .returned (.bool (knownT (K.map skOf) n)) ∧ Below w.heap.size w w' := by
  go_enter Tryz.func19, Tryz.ntmps19
  go_wp2_with fail
  refine (find_t ok tb mb vs K n w h hn).mono ?_
  rintro e w1 ⟨pi, ni, ci, pf, nf, cf, pm, nm, cm, rfl, k1, k2, k3, hb⟩
  have HB := Lib.hid hb
  have HK := Lib.hid k1
  clear hb k1 k2 k3 h
  go_wp2_with fail
  go_ret
  exact ⟨by rw [known_sk]; rfl, HB.out.alloc HB.out.size _⟩
theorem super_t (ok : Nat → Prop) (tb mb : Nat) (vs : Value) (K : List Cls) (n : ByteArray) (w : World) (h : TrW w ok tb mb vs K) (hn : n.size ≤ maxLen) :
    Calls Tryz.prog 95 #[.pointer (some ⟨tb, 0, none⟩), .string n] w fun e w' => e = .returned (.string (superT (K.map skOf) n)) ∧ Below w.heap.size w w' := by
  go_enter Tryz.func95, Tryz.ntmps95
  go_wp2_with fail
  refine (find_t ok tb mb vs K n w h hn).mono ?_
  rintro e w1 ⟨pi, ni, ci, pf, nf, cf, pm, nm, cm, rfl, k1, k2, k3, hb⟩
  have HB := Lib.hid hb
  have HK := Lib.hid k1
  clear hb k1 k2 k3 h
  go_wp2_with fail
  go_ret
  exact ⟨by rw [super_sk]; rfl, HB.out.alloc HB.out.size _⟩
theorem own_t (ok : Nat → Prop) (tb mb : Nat) (vs : Value) (K : List Cls) (n : ByteArray) (w : World) (h : TrW w ok tb mb vs K) (hn : n.size ≤ maxLen) :
    Calls Tryz.prog 66 #[.pointer (some ⟨tb, 0, none⟩), .string n] w fun e w' => ∃ p c, e = .returned (.slice p (ifsT (K.map skOf) n).length c) ∧ RdX 1 (sP strC) ok w (.slice p (ifsT (K.map skOf) n).length c) (ifsT (K.map skOf) n) ∧ Below w.heap.size w w' := by
  go_enter Tryz.func66, Tryz.ntmps66
  go_wp2_with fail
  refine (find_t ok tb mb vs K n w h hn).mono ?_
  rintro e w1 ⟨pi, ni, ci, pf, nf, cf, pm, nm, cm, rfl, k1, k2, k3, hb⟩
  have HB := Lib.hid hb
  have HK := Lib.hid k1
  clear hb k1 k2 k3 h
  go_wp2_with fail
  go_ret
  rw [ifs_sk]
  obtain ⟨p, c, e, -⟩ := HK.out.len
  simp only [Value.slice.injEq] at e
  obtain ⟨rfl, rfl, rfl⟩ := e
  exact ⟨_, _, rfl, HK.out, HB.out.alloc HB.out.size _⟩
theorem builtin_t (n : ByteArray) (w : World) : Calls Tryz.prog 16 #[.string n] w fun e w' => e = .returned (.bool (bltS n).isSome) ∧ Below w.heap.size w w' := by
  cases hb : bltS n with
  | some s =>
    go_enter Tryz.func16, Tryz.ntmps16
    go_wp2_with fail
    refine (blt_yes n s w hb).mono ?_
    rintro e w1 ⟨rfl, hb⟩
    have HB := Lib.hid hb
    clear hb
    go_wp2_with fail
    go_ret
    exact ⟨rfl, HB.out.alloc HB.out.size _⟩
  | none =>
    go_enter Tryz.func16, Tryz.ntmps16
    go_wp2_with fail
    refine (blt_no n w hb).mono ?_
    rintro e w1 ⟨rfl, hb⟩
    have HB := Lib.hid hb
    clear hb
    go_wp2_with fail
    go_ret
    exact ⟨rfl, HB.out.alloc HB.out.size _⟩
end Go.Proofs.YtlmpnmnfloeoiaaGreat.R
namespace Go.Proofs.YtlmpnmnfloeoiaaGreat.S
open Go.RowKit Go.Maps
abbrev StS (w : World) (B sb mb : Nat) (L : List ByteArray) : Prop := St 166 9 qS okS w B sb mb L
set_option maxHeartbeats 400000 in
set_option maxRecDepth 100000 in
theorem has_S (B sb mb : Nat) (L : List ByteArray) (x : ByteArray) (w : World) (h : StS w B sb mb L) (hx : okS x) :
    Calls Tryz.prog 96 #[.pointer (some ⟨sb, 0, none⟩), .string x] w fun e w' => e = .returned (.bool (hasB L x)) ∧ Below w.heap.size w w' := by
  obtain ⟨c0, c1, f1⟩ := h.cells
  obtain ⟨hlt, _, _⟩ := h.lt
  have hm := h.2.2.2
  obtain ⟨r, hr⟩ : ∃ r, hasB L x = r := ⟨_, rfl⟩
  go_enter Tryz.func96, Tryz.ntmps96
  go_wp2_with first | (go_at_call 107; refine (odd_S _ _).mono ?_; rintro e w' ⟨rfl, rfl⟩) | (at_lookup; refine wp_lookQ elS Tryz.underlying59 (zero0 _) rfl _ _ rfl mb L rfl hm x hx rfl r hr ?_)
  go_ret
  exact ⟨by rw [hr]; rfl, (Below.refl _ w).alloc (Nat.le_refl _) _⟩
set_option maxHeartbeats 400000 in
set_option maxRecDepth 100000 in
theorem add_S (B sb mb : Nat) (L : List ByteArray) (x : ByteArray) (w : World) (h : StS w B sb mb L) (hx : okS x) (hl : L.length ≤ 100000) :
    Calls Tryz.prog 94 #[.pointer (some ⟨sb, 0, none⟩), .string x] w fun e w' => e = .returned (.bool (!hasB L x)) ∧ StS w' B sb mb (addS L x) ∧ Kpt [mb] w w' := by
  by_cases hin : x ∈ L
  · have hr := hasB_in hin
    go_enter Tryz.func94, Tryz.ntmps94
    go_wp2_with fail
    refine (has_S B sb mb L x w h hx).mono ?_
    rintro e w1 ⟨rfl, hb⟩
    rw [hr]
    go_wp2
    go_ret
    exact ⟨by rw [hr]; rfl, by rw [addS_in hin]; exact h.bel hb, .of_below hb⟩
  · have hr := hasB_out hin
    go_enter Tryz.func94, Tryz.ntmps94
    go_wp2_with fail
    refine (has_S B sb mb L x w h hx).mono ?_
    rintro e w1 ⟨rfl, hb⟩
    rw [hr]
    have h1 : StS w1 B sb mb L := h.bel hb
    have HB := Lib.hid hb
    clear hb
    obtain ⟨c0, c1, f1⟩ := h1.cells
    obtain ⟨hlt, _, hne⟩ := h1.lt
    have hm := h1.2.2.2
    go_wp2_with first | (go_at_call 107; refine (odd_S _ _).mono ?_; rintro e w' ⟨rfl, rfl⟩) | (at_mapUpdate; refine wp_storeQ elS Tryz.underlying59 rfl _ _ _ rfl mb L rfl hm x hx rfl rfl hin (by omega) ?_)
    intro w2 hm2 hg
    have HM := Lib.hid hm2
    have HG := Lib.hid hg
    clear hm2 hg
    go_wp2
    go_ret
    have k2 : Kpt [mb] w1 w2 := .of_grown HG.out (fun g e => by cases e; exact .inl (by simp))
    exact ⟨by rw [hr]; rfl, by rw [addS_out hin]; exact ⟨h1.1, h1.2.1, k2.block h1.2.2.1 (by simpa using hne), HM.out⟩, Kpt.trans (.of_below HB.out) k2 (fun y hy => .inl hy)⟩
set_option maxHeartbeats 1000000 in
set_option maxRecDepth 100000 in
theorem new_S (v : Value) (xs : List ByteArray) (ok : Nat → Prop) (w : World) (hr : RdC cS ok w v xs) (hx : ∀ x ∈ xs, okS x) (hl : xs.length ≤ 100000) :
    Calls Tryz.prog 93 #[v] w fun e w' => ∃ sb mb, e = .returned (.pointer (some ⟨sb, 0, none⟩)) ∧ StS w' w.heap.size sb mb (onceL xs) ∧ Below w.heap.size w w' := by
  obtain ⟨p, cap, rfl, h1, h2⟩ := hr.form
  have hmm := run_mapHint _ _ _ Tryz.underlying59 xs.length
  unfold maxLen at h2
  go_enter Tryz.func93, Tryz.ntmps93
  go_wp2
  have hal := heap_alloc_new (w.alloc (.map #[] 0)) (.cells #[.map (some w.heap.size), .slice none 0 0] 166)
  rw [World.size_alloc] at hal
  have H0 : StS ((w.alloc (.map #[] 0)).alloc (.cells #[.map (some w.heap.size), .slice none 0 0] 166)) w.heap.size (w.heap.size + 1) w.heap.size [] := ⟨by omega, by omega, hal, (Mq.made w).kpt (Kpt.alloc [] _ _) (by simp)⟩
  obtain ⟨w0, hw0⟩ : ∃ x, x = (w.alloc (.map #[] 0)).alloc (.cells #[.map (some w.heap.size), .slice none 0 0] 166) := ⟨_, rfl⟩
  rw [← hw0] at H0 ⊢
  have HB : Hid (Below w.heap.size w w0) := Lib.hid (by rw [hw0]; exact ((Below.refl _ w).alloc (Nat.le_refl _) _).alloc (by simp) _)
  have HR := Lib.hid hr
  have H1 := Lib.hid H0
  clear H0 hw0 hal hmm hr
  go_loopw [13] (fun v wr => ∃ i : Nat, v = .int .i64 (i : Int) ∧ i ≤ xs.length ∧ Hid (StS wr w.heap.size (w.heap.size + 1) w.heap.size (onceL (xs.take i))) ∧ Hid (Below w.heap.size w wr)) (fun v _ => xs.length - (intOf v).toNat)
  case atStart => exact ⟨0, rfl, by omega, H1, HB⟩
  case round =>
    clear H1 HB
    obtain ⟨i, rfl, hi, H1, HB⟩ := hrel
    by_cases hlt : i < xs.length
    · have hlt' : (i : Int) < (xs.length : Int) := by omega
      have hne : xs ≠ [] := by rintro rfl; simp at hlt
      obtain ⟨b, off, rfl, hb, hbl, hc⟩ := HR.out.at hne
      have ci : wr.cell? ⟨b, off + i, none⟩ = some (.string xs[i]) := (HB.out.cell hbl).trans (hc i _ (List.getElem?_eq_getElem hlt))
      have hox := hx _ (List.getElem_mem hlt)
      have HT := Lib.hid (once_take hlt)
      obtain ⟨x, hxx⟩ : ∃ x, xs[i] = x := ⟨_, rfl⟩
      rw [hxx] at ci hox HT
      clear hc hxx
      go_wp2_with fail
      refine (add_S _ _ _ _ x wr H1.out hox (by have := onceL_len (xs.take i); rw [List.length_take] at this; omega)).mono ?_
      rintro e w2 ⟨rfl, hs2, hk2⟩
      have HS := Lib.hid hs2
      have HK := Lib.hid hk2
      clear hs2 hk2 H1 ci
      go_wp2_with fail
      go_roundw
      case rel => exact ⟨i + 1, by go_num, by omega, by rw [HT.out]; exact HS, Lib.hid (HB.out.trans (HK.out.below (fun y hy => by rw [List.mem_singleton.1 hy]; exact Nat.le_refl _) HB.out.size))⟩
      case measure => simp [intOf]; omega
    · obtain rfl : i = xs.length := by omega
      rw [List.take_length] at H1
      clear hlt hi
      go_wp2
      go_ret
      exact ⟨_, _, rfl, H1.out, HB.out⟩
end Go.Proofs.YtlmpnmnfloeoiaaGreat.S
namespace Go.Proofs.YtlmpnmnfloeoiaaGreat.R
open Go.RowKit Go.Proofs.YtlmpnmnfloeoiaaGreat.D Go.Proofs.YtlmpnmnfloeoiaaGreat.O Go.Proofs.YtlmpnmnfloeoiaaGreat.A
def ChI (B sb mb : Nat) (v : Value) (L l : List ByteArray) (w0 w : World) : Prop :=
  Below B w0 w ∧ B ≤ w.heap.size ∧ S.StS w B sb mb L ∧ S.OwnC S.cS 9 w B v l ∧ v.ownBlock ≠ some sb ∧ v.ownBlock ≠ some mb
theorem ChI.bel {B sb mb : Nat} {v : Value} {L l : List ByteArray} {w0 w w' : World} (h : ChI B sb mb v L l w0 w) (hb : Below w.heap.size w w') : ChI B sb mb v L l w0 w' := by
  obtain ⟨h1, h2, h3, h4, h5, h6⟩ := h
  exact ⟨h1.trans (hb.mono h2), Nat.le_trans h2 hb.size, h3.bel hb, h4.kpt (S.Kpt.of_below (S := []) hb) (by simp), h5, h6⟩
theorem ChI.add {B sb mb : Nat} {v : Value} {L L' l : List ByteArray} {w0 w w' : World} (h : ChI B sb mb v L l w0 w) (hs : S.StS w' B sb mb L') (hk : S.Kpt [mb] w w') : ChI B sb mb v L' l w0 w' := by
  obtain ⟨h1, h2, h3, h4, h5, h6⟩ := h
  exact ⟨h1.trans (hk.below (fun x hx => by rw [List.mem_singleton.1 hx]; exact h3.2.1) h2), Nat.le_trans h2 hk.size, hs, h4.kpt hk (fun g e => by rw [e] at h6; simpa using h6), h5, h6⟩
theorem ChI.app {B sb mb : Nat} {v v' : Value} {L l l' : List ByteArray} {w0 w w' : World} (h : ChI B sb mb v L l w0 w) (ho : S.OwnC S.cS 9 w' B v' l') (hg : w.grownBy w' v.ownBlock) (hl : v'.ownBlock = v.ownBlock ∨ v'.ownBlock = some w.heap.size) : ChI B sb mb v' L l' w0 w' := by
  obtain ⟨h1, h2, h3, h4, h5, h6⟩ := h
  have k : S.Kpt v.ownBlock.toList w w' := .of_grown hg (fun g e => .inl (by rw [e]; simp))
  obtain ⟨l1, l2, _⟩ := h3.lt
  refine ⟨h1.trans (k.below (fun x hx => ?_) h2), Nat.le_trans h2 k.size, h3.kpt k (by simpa using h5) (by simpa using h6), ho, ?_, ?_⟩
  · have : v.ownBlock = some x := by simpa using hx
    exact (h4.lt x this).1
  · rcases hl with e | e
    · rw [e]; exact h5
    · rw [e]; simp only [ne_eq, Option.some.injEq]; omega
  · rcases hl with e | e
    · rw [e]; exact h6
    · rw [e]; simp only [ne_eq, Option.some.injEq]; omega
set_option maxHeartbeats 4000000 in
set_option maxRecDepth 100000 in
theorem chain_t (ok : Nat → Prop) (tb mt : Nat) (vs : Value) (K : List Cls) (n : ByteArray) (w : World) (h : TrW w ok tb mt vs K) (hn : n.size ≤ maxLen) :
    Calls Tryz.prog 63 #[.pointer (some ⟨tb, 0, none⟩), .string n] w fun e w' => ∃ p c, e = .returned (.tuple #[.slice p (chainT (K.map skOf) n).1.length c, .bool (chainT (K.map skOf) n).2]) ∧ S.OwnC S.cS 9 w' w.heap.size (.slice p (chainT (K.map skOf) n).1.length c) (chainT (K.map skOf) n).1 ∧ Below w.heap.size w w' := by
  obtain ⟨R, hR⟩ : ∃ x, chainT (K.map skOf) n = x := ⟨_, rfl⟩
  obtain ⟨T, hT⟩ : ∃ x, K.map skOf = x := ⟨_, rfl⟩
  have HT := Lib.hid h
  have HS : Hid (SzT T) := Lib.hid (by rw [← hT]; exact h.2.2.2.2.2)
  have HR : Hid (chainF T (T.length + 8) [] n = R) := Lib.hid (by rw [← hT]; exact hR)
  have HTT := Lib.hid hT
  have hTl := HS.out.1
  rw [hR]
  clear h hR hT
  go_enter Tryz.func63, Tryz.ntmps63
  go_wp2_with fail
  refine (S.new_S (.slice none 0 0) [] (fun _ => True) w (S.RdC.nil _ _) (fun x hx => by cases hx) (by simp)).mono ?_
  rintro e w1 ⟨sb, mb, rfl, hs, hb⟩
  have H1 : Hid (ChI w.heap.size sb mb (.slice none 0 0) [] [] w w1) := Lib.hid ⟨hb, hb.size, hs, S.OwnC.nil _ _, by simp [Value.ownBlock], by simp [Value.ownBlock]⟩
  clear hs hb
  go_wp2_with fail
  go_loopg [1, 6] (T.length + 8) (fun g x v wr => ∃ (m : ByteArray) (l : List ByteArray), x = .string m ∧ m.size ≤ maxLen ∧ l.length + g = T.length + 8 ∧ Hid (Kn T l) ∧ Hid (chainF T g l m = R) ∧ Hid (ChI w.heap.size sb mb v l l w wr))
  case atStart => exact ⟨n, [], rfl, hn, by simp, Lib.hid (Kn.nil T), HR, H1⟩
  case round =>
    clear H1 HR hn
    obtain ⟨m, l, rfl, hm, hlg, HKn, HF, HI⟩ := hrel
    obtain ⟨pv, kv, hv, -⟩ := HI.out.2.2.2.1.rd.form
    have HV := Lib.hid hv
    clear hv
    cases hk : knownT T m with
    | false =>
      have HE : Hid (R = (l, S.hasB l m)) := Lib.hid (by rw [← HF.out]; exact chain_stop (.inl hk))
      go_wp2_with fail
      refine (known_t ok tb mt vs K m wr (HT.out.below HI.out.1) hm).mono ?_
      rintro e w2 ⟨rfl, hb2⟩
      rw [HTT.out, hk]
      have HI2 := Lib.hid (HI.out.bel hb2)
      clear hb2 HI hk
      go_wp2_with fail
      refine (S.has_S w.heap.size sb mb l m w2 HI2.out.2.2.1 hm).mono ?_
      rintro e w3 ⟨rfl, hb3⟩
      have HI3 := Lib.hid (HI2.out.bel hb3)
      clear hb3 HI2
      go_wp2_with fail
      go_ret2
      obtain rfl := HV.out
      rw [HE.out]
      exact ⟨_, _, rfl, HI3.out.2.2.2.1, HI3.out.1⟩
    | true =>
      cases hn : S.hasB l m with
      | true =>
        have HE : Hid (R = (l, true)) := Lib.hid (by rw [← HF.out, ← hn]; exact chain_stop (.inr hn))
        have hlen := HKn.out.len
        go_wp2_with fail
        refine (known_t ok tb mt vs K m wr (HT.out.below HI.out.1) hm).mono ?_
        rintro e w2 ⟨rfl, hb2⟩
        rw [HTT.out, hk]
        have HI2 := Lib.hid (HI.out.bel hb2)
        clear hb2 HI hk
        go_wp2_with fail
        refine (S.add_S w.heap.size sb mb l m w2 HI2.out.2.2.1 hm (by omega)).mono ?_
        rintro e w3 ⟨rfl, hs3, hk3⟩
        rw [hn]
        have HI3 := Lib.hid (HI2.out.add hs3 hk3)
        rw [S.addS_in (S.hasB_iff.1 hn)] at HI3
        clear hs3 hk3 HI2
        go_wp2_with fail
        refine (S.has_S w.heap.size sb mb l m w3 HI3.out.2.2.1 hm).mono ?_
        rintro e w4 ⟨rfl, hb4⟩
        have HI4 := Lib.hid (HI3.out.bel hb4)
        clear hb4 HI3
        go_wp2_with fail
        go_ret2
        obtain rfl := HV.out
        rw [HE.out]
        exact ⟨_, _, rfl, HI4.out.2.2.2.1, HI4.out.1⟩
      | false =>
        have hml : m ∉ l := fun hh => by rw [S.hasB_in hh] at hn; cases hn
        have hkn := HKn.out.snoc hk hml
        have hlen := hkn.len
        rw [List.length_append] at hlen
        simp only [List.length_cons, List.length_nil, Nat.zero_add] at hlen
        obtain ⟨g', rfl⟩ : ∃ g', gk = g' + 1 := ⟨gk - 1, by omega⟩
        have HF2 : Hid (chainF T g' (l ++ [m]) (superT T m) = R) := Lib.hid (by rw [← HF.out]; exact (chain_next hk hn).symm)
        have HKn2 := Lib.hid hkn
        have hms := HS.out.super m
        clear hkn HF HKn
        go_wp2_with fail
        refine (known_t ok tb mt vs K m wr (HT.out.below HI.out.1) hm).mono ?_
        rintro e w2 ⟨rfl, hb2⟩
        rw [HTT.out, hk]
        have HI2 := Lib.hid (HI.out.bel hb2)
        clear hb2 HI hk
        go_wp2_with fail
        refine (S.add_S w.heap.size sb mb l m w2 HI2.out.2.2.1 hm (by omega)).mono ?_
        rintro e w3 ⟨rfl, hs3, hk3⟩
        rw [hn]
        have HI3 := HI2.out.add hs3 hk3
        rw [S.addS_out hml] at HI3
        have HI4 := Lib.hid (HI3.bel (below_alR w3 (.cells #[.string m] 9)))
        have hb4 := HI4.out.2.1
        have HX := Lib.hid (S.rd_one (c := S.cS) (x := m) (heap_alloc_new w3 (.cells #[.string m] 9)) rfl)
        have HO := Lib.hid HI4.out.2.2.2.1
        clear hs3 hk3 HI2 HI3 hn hml
        dsimp only [S.cS] at *
        go_wp2_with (at_builtin; refine S.wp_appC S.infS (fun _ => rfl) rfl _ _ rfl w.heap.size _ l rfl HO.out (fun _ => True) _ [m] rfl HX.out (by simp; omega) hb4 ?_)
        intro v6 w6 ho6 hg6 hl6
        have HI6 := Lib.hid (HI4.out.app ho6 hg6 (by simpa using hl6))
        clear ho6 hg6 hl6 HI4 HX HO hb4
        go_wp2_with fail
        refine (super_t ok tb mt vs K m w6 (HT.out.below HI6.out.1) hm).mono ?_
        rintro e w7 ⟨rfl, hb7⟩
        rw [HTT.out]
        have HI7 := Lib.hid (HI6.out.bel hb7)
        clear hb7 HI6
        go_wp2_with fail
        go_roundg g'
        case measure => omega
        case rel => exact ⟨superT T m, l ++ [m], rfl, hms, by simp; omega, HKn2, HF2, HI7⟩
end Go.Proofs.YtlmpnmnfloeoiaaGreat.R
namespace Go.Proofs.YtlmpnmnfloeoiaaGreat.R
open Go.RowKit Go.Proofs.YtlmpnmnfloeoiaaGreat.D Go.Proofs.YtlmpnmnfloeoiaaGreat.O Go.Proofs.YtlmpnmnfloeoiaaGreat.A
theorem rdX_at {ok : Nat → Prop} {w : World} {p : Option Addr} {n c : Nat} {ys : List ByteArray} (h : RdX 1 (sP strC) ok w (.slice p n c) ys) {i : Nat} {y : ByteArray} (hi : ys[i]? = some y) :
    ∃ b off, p = some ⟨b, off, none⟩ ∧ n = ys.length ∧ n ≤ c ∧ ok b ∧ b < w.heap.size ∧ w.cell? ⟨b, off + i, none⟩ = some (.string y) := by
  obtain ⟨b, off, rfl, rfl, h1, h2, h3, h4⟩ := h.place (fun e => by rw [e] at hi; simp at hi)
  obtain ⟨l, e, hc⟩ := h4 i y hi
  have e : l = strC y := e
  subst e
  have := hc 0 _ rfl
  rw [Nat.mul_one, Nat.add_zero] at this
  exact ⟨b, off, rfl, rfl, h1, h2, h3, this⟩
theorem back_next {ys : List ByteArray} {k : Nat} {y : ByteArray} (h : ys[k]? = some y) (xs : List ByteArray) : xs ++ (ys.drop k).reverse = (xs ++ (ys.drop (k + 1)).reverse) ++ [y] := by
  obtain ⟨hk, rfl⟩ := List.getElem?_eq_some_iff.1 h
  rw [List.drop_eq_getElem_cons hk, List.reverse_cons, List.append_assoc]
def Next (w w' : World) (v v' : Value) : Prop := S.Kpt v.ownBlock.toList w w' ∧ ∀ g, v'.ownBlock = some g → v.ownBlock = some g ∨ w.heap.size ≤ g
theorem Next.app {w wr w' : World} {v0 v v' : Value} (h : Next w wr v0 v) (o : Obj) (hg : (wr.alloc o).grownBy w' v.ownBlock) (hl : v'.ownBlock = v.ownBlock ∨ v'.ownBlock = some (wr.heap.size + 1)) : Next w w' v0 v' := by
  have k : S.Kpt v.ownBlock.toList wr w' := (S.Kpt.alloc _ wr o).trans (.of_grown (S := v.ownBlock.toList) hg (fun g e => .inl (by rw [e]; simp))) (fun x hx => .inl hx)
  refine ⟨h.1.trans k (fun x hx => ?_), fun g e => ?_⟩
  · rcases h.2 x (by simpa using hx) with e | e
    · exact .inl (by simpa using e)
    · exact .inr e
  · rcases hl with e' | e'
    · rw [e'] at e; exact h.2 g e
    · rw [e'] at e
      cases e
      exact .inr (by have := h.1.size; omega)
set_option maxHeartbeats 4000000 in
set_option maxRecDepth 100000 in
theorem behind_t (B : Nat) (v : Value) (xs ys : List ByteArray) (p : Option Addr) (c : Nat) (ok : Nat → Prop) (w : World) (hown : S.OwnC S.cS 9 w B v xs) (hr : RdX 1 (sP strC) ok w (.slice p ys.length c) ys) (hok : ∀ b, ok b → v.ownBlock ≠ some b) (hB : B ≤ w.heap.size) (hl : xs.length + ys.length ≤ 900000) :
    Calls Tryz.prog 98 #[v, .slice p ys.length c] w fun e w' => ∃ v', e = .returned v' ∧ S.OwnC S.cS 9 w' B v' (xs ++ ys.reverse) ∧ Next w w' v v' := by
  obtain ⟨va, vn, vk, hv⟩ := hown.slice
  have HO := Lib.hid hown
  have HR := Lib.hid hr
  have hcap : ys.length ≤ c := by obtain ⟨_, _, e, h, _⟩ := hr; simp only [Value.slice.injEq] at e; rw [e.2.2]; exact h
  clear hown hr
  subst hv
  go_enter Tryz.func98, Tryz.ntmps98
  go_wp2_with fail
  go_loopg [0, 5] ys.length (fun g v x wr => x = .int .i64 ((g : Int) - 1) ∧ g ≤ ys.length ∧ Hid (S.OwnC S.cS 9 wr B v (xs ++ (ys.drop g).reverse)) ∧ Hid (Next w wr (.slice va vn vk) v))
  case atStart => exact ⟨rfl, Nat.le_refl _, by rw [List.drop_length, List.reverse_nil, List.append_nil]; exact HO, Lib.hid ⟨S.Kpt.refl _ _, fun g h => .inl h⟩⟩
  case round =>
    clear HO
    obtain ⟨rfl, hg, HO, HN⟩ := hrel
    cases gk with
    | zero =>
      go_wp2_with fail
      go_ret
      rw [List.drop_zero] at HO
      exact ⟨_, rfl, HO.out, HN.out⟩
    | succ g =>
      rw [show ((g + 1 : Nat) : Int) - 1 = (g : Int) by omega]
      obtain ⟨y, hy⟩ : ∃ y, ys[g]? = some y := ⟨_, List.getElem?_eq_getElem (by omega)⟩
      obtain ⟨b, off, rfl, -, -, hb, hbl, hc⟩ := rdX_at HR.out hy
      have hne : b ∉ (Value.slice va vn vk).ownBlock.toList := by have := hok b hb; simpa using this
      have hc2 : wr.cell? ⟨b, off + g, none⟩ = some (.string y) := by rw [World.cell?_of_block (w := w) (a := ⟨b, off + g, none⟩) (HN.out.1.2 b hbl hne)]; exact hc
      have hbl2 : b < wr.heap.size := Nat.lt_of_lt_of_le hbl HN.out.1.size
      have HY := Lib.hid hy
      have HNE := Lib.hid hne
      have hBr : B ≤ wr.heap.size := Nat.le_trans hB HN.out.1.size
      have g0 : (0 : Int) ≤ (g : Int) := by omega
      have g1 : (g : Int) < (ys.length : Int) := by omega
      clear hy hne hc
      obtain ⟨ua, un, uk, hu⟩ := HO.out.slice
      have HU := Lib.hid hu
      clear hu
      have HX := Lib.hid (S.rd_one (c := S.cS) (x := y) (heap_alloc_new wr (.cells #[.string y] 9)) rfl)
      have HOa := Lib.hid (HO.out.alloc (.cells #[.string y] 9))
      have hlen : (xs ++ (ys.drop (g + 1)).reverse).length + 1 ≤ 1000000 := by simp; omega
      go_wp2_with (at_builtin; refine S.wp_appC S.infS (fun _ => rfl) rfl _ _ rfl B _ _ rfl HOa.out (fun _ => True) _ [y] rfl HX.out hlen (by simp; omega) ?_)
      intro v6 w6 ho6 hg6 hl6
      have HO6 : Hid (S.OwnC S.cS 9 w6 B v6 (xs ++ (ys.drop g).reverse)) := Lib.hid (by rw [back_next HY.out, List.append_assoc]; exact ho6)
      have HN6 := Lib.hid (HN.out.app _ hg6 hl6)
      clear ho6 hg6 hl6 HO HX HOa HN hc2 hlen HU
      go_wp2_with fail
      go_roundg g
      case measure => omega
      case rel => exact ⟨by go_num, by omega, HO6, HN6⟩
def ClI (B sb mb : Nat) (v v7 : Value) (L l lf : List ByteArray) (w0 w : World) : Prop :=
  ChI B sb mb v L l w0 w ∧ S.OwnC S.cS 9 w B v7 lf.reverse ∧ v7.ownBlock ≠ some sb ∧ v7.ownBlock ≠ some mb ∧ ∀ g, v.ownBlock = some g → v7.ownBlock ≠ some g
theorem ClI.bel {B sb mb : Nat} {v v7 : Value} {L l lf : List ByteArray} {w0 w w' : World} (h : ClI B sb mb v v7 L l lf w0 w) (hb : Below w.heap.size w w') : ClI B sb mb v v7 L l lf w0 w' := by
  obtain ⟨h1, h2, h3, h4, h5⟩ := h
  exact ⟨h1.bel hb, h2.kpt (S.Kpt.of_below (S := []) hb) (by simp), h3, h4, h5⟩
theorem ClI.add {B sb mb : Nat} {v v7 : Value} {L L' l lf : List ByteArray} {w0 w w' : World} (h : ClI B sb mb v v7 L l lf w0 w) (hs : S.StS w' B sb mb L') (hk : S.Kpt [mb] w w') : ClI B sb mb v v7 L' l lf w0 w' := by
  obtain ⟨h1, h2, h3, h4, h5⟩ := h
  exact ⟨h1.add hs hk, h2.kpt hk (fun g e => by rw [e] at h4; simpa using h4), h3, h4, h5⟩
theorem ClI.app {B sb mb : Nat} {v v' v7 : Value} {L l l' lf : List ByteArray} {w0 w w' : World} (h : ClI B sb mb v v7 L l lf w0 w) (ho : S.OwnC S.cS 9 w' B v' l') (hg : w.grownBy w' v.ownBlock) (hl : v'.ownBlock = v.ownBlock ∨ v'.ownBlock = some w.heap.size) : ClI B sb mb v' v7 L l' lf w0 w' := by
  obtain ⟨h1, h2, h3, h4, h5⟩ := h
  have k : S.Kpt v.ownBlock.toList w w' := .of_grown hg (fun g e => .inl (by rw [e]; simp))
  refine ⟨h1.app ho hg hl, h2.kpt k (fun g e hx => h5 g (by simpa using hx) e), h3, h4, fun g e e7 => ?_⟩
  rcases hl with e' | e'
  · rw [e'] at e; exact h5 g e e7
  · rw [e'] at e
    cases e
    exact Nat.lt_irrefl _ (h2.lt _ e7).2
theorem ClI.left {B sb mb : Nat} {v v7 v7' : Value} {L l lf lf' : List ByteArray} {w0 w w' : World} (h : ClI B sb mb v v7 L l lf w0 w) (ho : S.OwnC S.cS 9 w' B v7' lf'.reverse) (hn : Next w w' v7 v7') : ClI B sb mb v v7' L l lf' w0 w' := by
  obtain ⟨⟨a1, a2, a3, a4, a5, a6⟩, h2, h3, h4, h5⟩ := h
  obtain ⟨k, hn⟩ := hn
  obtain ⟨l1, l2, _⟩ := a3.lt
  have out : ∀ {x : Nat}, x < w.heap.size → v7.ownBlock ≠ some x → v7'.ownBlock ≠ some x := fun {x} hx hne e => by
    rcases hn x e with e' | e'
    · exact hne e'
    · omega
  refine ⟨⟨a1.trans (k.below (fun x hx => ?_) a2), Nat.le_trans a2 k.size, a3.kpt k (by simpa using h3) (by simpa using h4), a4.kpt k (fun g e hx => h5 g e (by simpa using hx)), a5, a6⟩, ho, out l1 h3, out l2 h4, fun g e => out (a4.lt g e).2 (h5 g e)⟩
  have : v7.ownBlock = some x := by simpa using hx
  exact (h2.lt x this).1
theorem ClI.pop {B sb mb g N cap : Nat} {v : Value} {L l lf : List ByteArray} {n : ByteArray} {w0 w : World} (h : ClI B sb mb v (.slice (some ⟨g, 0, none⟩) (N + 1) cap) L l (n :: lf) w0 w) (hN : N = lf.length) : ClI B sb mb v (.slice (some ⟨g, 0, none⟩) N cap) L l lf w0 w := by
  obtain ⟨h1, h2, h3, h4, h5⟩ := h
  refine ⟨h1, ?_, h3, h4, h5⟩
  have := h2.front (k := N) (by simp; omega) (by simp)
  rwa [List.reverse_cons, List.take_left' (by simp; omega)] at this
theorem ClI.form {B sb mb : Nat} {v v7 : Value} {L l lf : List ByteArray} {n : ByteArray} {w0 w : World} (h : ClI B sb mb v v7 L l (n :: lf) w0 w) : ∃ g N cap, v7 = .slice (some ⟨g, 0, none⟩) (N + 1) cap ∧ N = lf.length ∧ N + 1 ≤ cap ∧ g < w.heap.size ∧ w.cell? ⟨g, N, none⟩ = some (.string n) := by
  rcases h.2.1.cells with ⟨_, e⟩ | ⟨g, cap, cur, e, _, hg, _, hc, _, hcc, _⟩
  · simp at e
  · have hl : (n :: lf).reverse.length = lf.length + 1 := by simp
    rw [hl] at e hc
    refine ⟨g, lf.length, cap, e, rfl, hc, hg, ?_⟩
    have := hcc lf.length n (by simp)
    exact this
theorem ClI.none {B sb mb : Nat} {v v7 : Value} {L l : List ByteArray} {w0 w : World} (h : ClI B sb mb v v7 L l [] w0 w) : ∃ p cap, v7 = .slice p 0 cap := by
  obtain ⟨p, cap, e, _⟩ := h.2.1.rd.form
  exact ⟨p, cap, e⟩
set_option maxHeartbeats 4000000 in
set_option maxRecDepth 100000 in
theorem closed_t (ok : Nat → Prop) (tb mt : Nat) (vs : Value) (K : List Cls) (w : World) (h : TrW w ok tb mt vs K) (ys : List ByteArray) (p : Option Addr) (c : Nat) (ok2 : Nat → Prop) (hr : RdX 1 (sP strC) ok2 w (.slice p ys.length c) ys) (hl : ys.length ≤ 200000) (hs : ∀ x ∈ ys, x.size ≤ maxLen) :
    Calls Tryz.prog 65 #[.pointer (some ⟨tb, 0, none⟩), .slice p ys.length c] w fun e w' => ∃ p' c', e = .returned (.slice p' (closedT (K.map skOf) ys).length c') ∧ S.OwnC S.cS 9 w' w.heap.size (.slice p' (closedT (K.map skOf) ys).length c') (closedT (K.map skOf) ys) ∧ Below w.heap.size w w' := by
  obtain ⟨R, hR⟩ : ∃ x, closedT (K.map skOf) ys = x := ⟨_, rfl⟩
  obtain ⟨T, hT⟩ : ∃ x, K.map skOf = x := ⟨_, rfl⟩
  have HT := Lib.hid h
  have HS : Hid (SzT T) := Lib.hid (by rw [← hT]; exact h.2.2.2.2.2)
  have HF : Hid (closedF T (ys.length + costT [] T) [] ys = R) := Lib.hid (by rw [← hT]; exact hR)
  have HTT := Lib.hid hT
  have HSY := Lib.hid hs
  have HRY := Lib.hid hr
  have hTl := HS.out.1
  have hcost := HS.out.cost
  rw [hR]
  clear h hR hT hs hr
  go_enter Tryz.func65, Tryz.ntmps65
  go_wp2_with fail
  refine (S.new_S (.slice none 0 0) [] (fun _ => True) w (S.RdC.nil _ _) (fun x hx => by cases hx) (by simp)).mono ?_
  rintro e w1 ⟨sb, mb, rfl, hs, hb⟩
  have H1 : Hid (ChI w.heap.size sb mb (.slice none 0 0) [] [] w w1) := Lib.hid ⟨hb, hb.size, hs, S.OwnC.nil _ _, by simp [Value.ownBlock], by simp [Value.ownBlock]⟩
  clear hs hb
  go_wp2_with fail
  refine (behind_t w.heap.size (.slice none 0 0) [] ys p c ok2 w1 (S.OwnC.nil _ _) (HRY.out.any (sP.grow _) H1.out.1) (by simp [Value.ownBlock]) H1.out.2.1 (by simp; omega)).mono ?_
  rintro e w2 ⟨v7, rfl, ho, hn⟩
  have H2 : Hid (ClI w.heap.size sb mb (.slice none 0 0) v7 [] [] ys w w2) := Lib.hid (ClI.left (v7 := .slice none 0 0) (lf := []) ⟨H1.out, S.OwnC.nil _ _, by simp [Value.ownBlock], by simp [Value.ownBlock], by simp [Value.ownBlock]⟩ (by simpa using ho) hn)
  clear ho hn H1 HRY
  go_wp2_with fail
  obtain ⟨f0, hf0⟩ : ∃ x, x = ys.length + costT [] T := ⟨_, rfl⟩
  rw [← hf0] at HF
  have hf1 : f0 ≤ 300000 := by omega
  go_loopg [5, 7] f0 (fun g v x wr => ∃ (out lf : List ByteArray), g ≤ f0 ∧ Hid (lf.length + costT out T ≤ g) ∧ Hid (Kn T out) ∧ Hid (∀ y ∈ lf, y.size ≤ maxLen) ∧ Hid (closedF T g out lf = R) ∧ Hid (ClI w.heap.size sb mb v x out out lf w wr))
  case atStart => exact ⟨[], ys, Nat.le_refl _, Lib.hid (by omega), Lib.hid (Kn.nil T), HSY, HF, H2⟩
  case round =>
    clear H2 HF HSY hf0 hcost hl
    obtain ⟨out, lf, hg, HG, HKn, HSL, HF, HI⟩ := hrel
    cases lf with
    | nil =>
      obtain ⟨q, cap, hx⟩ := HI.out.none
      subst hx
      have HE : Hid (R = out) := Lib.hid (by rw [← HF.out]; exact closed_nil)
      obtain ⟨pv, kv, hv, -⟩ := HI.out.1.2.2.2.1.rd.form
      have HV := Lib.hid hv
      clear hv
      go_wp2_with fail
      go_ret
      obtain rfl := HV.out
      rw [HE.out]
      exact ⟨_, _, rfl, HI.out.1.2.2.2.1, HI.out.1.1⟩
    | cons n lf =>
      obtain ⟨gg, N, cap, hx, hN, hNc, hgl, hcell⟩ := HI.out.form
      subst hx
      have hG := HG.out
      rw [List.length_cons] at hG
      obtain ⟨g', rfl⟩ : ∃ g', gk = g' + 1 := ⟨gk - 1, by omega⟩
      have hNb : N ≤ 300000 := by omega
      have hnm : n.size ≤ maxLen := HSL.out n (by simp)
      have HSL2 : Hid (∀ y ∈ lf, y.size ≤ maxLen) := Lib.hid (fun y hy => HSL.out y (List.mem_cons_of_mem _ hy))
      have HIp := Lib.hid (HI.out.pop hN)
      have HNN := Lib.hid hN
      have n0 : (0 : Int) ≤ (N : Int) := by omega
      have n1 : (0 : Int) < (N : Int) + 1 := by omega
      clear HI hN HG HSL
      have HGG := Lib.hid hG
      clear hG
      cases hk : knownT T n with
      | false =>
        have HF2 : Hid (closedF T g' out lf = R) := Lib.hid (by rw [← HF.out]; exact (closed_skip (.inl hk)).symm)
        clear HF
        go_wp2_with fail
        refine (known_t ok tb mt vs K n wr (HT.out.below HIp.out.1.1) hnm).mono ?_
        rintro e w3 ⟨rfl, hb3⟩
        rw [HTT.out, hk]
        have HI3 := Lib.hid (HIp.out.bel hb3)
        clear hb3 HIp hk
        go_wp2_with fail
        go_roundg g'
        case measure => omega
        case rel => exact ⟨out, lf, by omega, Lib.hid (by have := HGG.out; omega), HKn, HSL2, HF2, HI3⟩
      | true =>
        have hlen := HKn.out.len
        cases hm : S.hasB out n with
        | true =>
          have HF2 : Hid (closedF T g' out lf = R) := Lib.hid (by rw [← HF.out]; exact (closed_skip (.inr hm)).symm)
          clear HF
          go_wp2_with fail
          refine (known_t ok tb mt vs K n wr (HT.out.below HIp.out.1.1) hnm).mono ?_
          rintro e w3 ⟨rfl, hb3⟩
          rw [HTT.out, hk]
          have HI3 := Lib.hid (HIp.out.bel hb3)
          clear hb3 HIp hk
          go_wp2_with fail
          refine (S.add_S w.heap.size sb mb out n w3 HI3.out.1.2.2.1 hnm (by omega)).mono ?_
          rintro e w4 ⟨rfl, hs4, hk4⟩
          rw [hm]
          have HI4 := Lib.hid (HI3.out.add hs4 hk4)
          rw [S.addS_in (S.hasB_iff.1 hm)] at HI4
          clear hs4 hk4 HI3 hm
          go_wp2_with fail
          go_roundg g'
          case measure => omega
          case rel => exact ⟨out, lf, by omega, Lib.hid (by have := HGG.out; omega), HKn, HSL2, HF2, HI4⟩
        | false =>
          have HF2 : Hid (closedF T g' (out ++ [n]) (ifsT T n ++ lf) = R) := Lib.hid (by rw [← HF.out]; exact (closed_next hk hm).symm)
          have hmo : n ∉ out := fun hh => by rw [S.hasB_in hh] at hm; cases hm
          have HC := Lib.hid (cost_ifs (T := T) hm)
          have HKn2 := Lib.hid (HKn.out.snoc hk hmo)
          have HSL3 : Hid (∀ y ∈ ifsT T n ++ lf, y.size ≤ maxLen) := Lib.hid (fun y hy => by
            rcases List.mem_append.1 hy with hy | hy
            · exact (HS.out.ifs n).2 y hy
            · exact HSL2.out y hy)
          have hif := (HS.out.ifs n).1
          clear HF HKn HSL2
          go_wp2_with fail
          refine (known_t ok tb mt vs K n wr (HT.out.below HIp.out.1.1) hnm).mono ?_
          rintro e w3 ⟨rfl, hb3⟩
          rw [HTT.out, hk]
          have HI3 := Lib.hid (HIp.out.bel hb3)
          clear hb3 HIp hk
          go_wp2_with fail
          refine (S.add_S w.heap.size sb mb out n w3 HI3.out.1.2.2.1 hnm (by omega)).mono ?_
          rintro e w4 ⟨rfl, hs4, hk4⟩
          rw [hm]
          have HI4 := HI3.out.add hs4 hk4
          rw [S.addS_out hmo] at HI4
          have HI5 := Lib.hid (HI4.bel (below_alR w4 (.cells #[.string n] 9)))
          have hb5 := HI5.out.1.2.1
          have HX := Lib.hid (S.rd_one (c := S.cS) (x := n) (heap_alloc_new w4 (.cells #[.string n] 9)) rfl)
          have HO := Lib.hid HI5.out.1.2.2.2.1
          clear hs4 hk4 HI3 HI4 hm hmo
          obtain ⟨va, vn, vk, hv⟩ := HO.out.slice
          have HV := Lib.hid hv
          clear hv
          dsimp only [S.cS] at *
          go_wp2_with (at_builtin; refine S.wp_appC S.infS (fun _ => rfl) rfl _ _ rfl w.heap.size _ out rfl HO.out (fun _ => True) _ [n] rfl HX.out (by simp; omega) hb5 ?_)
          intro v6 w6 ho6 hg6 hl6
          have HI6 := Lib.hid (HI5.out.app ho6 hg6 (by simpa using hl6))
          clear ho6 hg6 hl6 HI5 HX HO hb5 HV
          go_wp2_with fail
          refine (own_t (fun b => ok b ∧ b < w.heap.size) tb mt vs K n w6 (HT.out.old HI6.out.1.1) hnm).mono ?_
          rw [HTT.out]
          rintro e w7 ⟨q, c7, rfl, hr7, hb7⟩
          have HI7 := Lib.hid (HI6.out.bel hb7)
          have HR7 := Lib.hid (hr7.any (sP.grow _) hb7)
          clear hr7 hb7 HI6
          go_wp2_with fail
          refine (behind_t w.heap.size _ lf.reverse (ifsT T n) q c7 _ w7 HI7.out.2.1 HR7.out (fun b hb e => by have := (HI7.out.2.1.lt b e).1; have := hb.2; omega) HI7.out.1.2.1 (by have := HNN.out; simp; omega)).mono ?_
          rintro e w8 ⟨v8, rfl, ho8, hn8⟩
          have HI8 : Hid (ClI w.heap.size sb mb v6 v8 (out ++ [n]) (out ++ [n]) (ifsT T n ++ lf) w w8) := Lib.hid (HI7.out.left (by rw [List.reverse_append]; exact ho8) hn8)
          clear ho8 hn8 HI7 HR7
          go_wp2_with fail
          go_roundg g'
          case measure => omega
          case rel => exact ⟨out ++ [n], ifsT T n ++ lf, by omega, Lib.hid (by have := HGG.out; have := HC.out; rw [List.length_append]; omega), HKn2, HSL3, HF2, HI8⟩
end Go.Proofs.YtlmpnmnfloeoiaaGreat.R
