/- Texts that the proof is made of, joined. No condition. -/
import Derived.Test.YtpkjlgdbaajpoaaGreatC121
import Derived.Deep.DeepCutAuto
import Derived.Deep.CutBlock
import Derived.WalkKit
import Derived.WalkSpells
import Derived.WalkLawsBesides
import Derived.Lib.Hide
import Derived.Below
import Derived.OwnWalk
import Derived.Maps.OwnSet
import Derived.Maps.RangeWalk
import Derived.Maps.AppendAt
import Derived.Laws.AppendOwnNone
import Derived.Laws.MakeOwn
import Derived.Deep.QuietTactic
import Derived.BigRegion
import Derived.BigQuiet
import Derived.StringKeys
import Derived.Test.YtpkjlgdbaajpoaaGreatC12H
set_option linter.unusedVariables false
set_option linter.unusedSimpArgs false
set_option maxRecDepth 100000
set_option maxHeartbeats 16000000
namespace Go.Proofs.YtpkjlgdbaajpoaaGreat.A
open Go.RowKit Go.Proofs.YtpkjlgdbaajpoaaGreat.D Go.Proofs.YtpkjlgdbaajpoaaGreat.O
theorem boxN {w : World} {b : Nat} {vs : List Value} {T : TypeId} (h : w.heap[b]? = some (.cells vs.toArray T (0,0))) : b < w.heap.size /\ CellsAt w b 0 vs /\ ∀ j,w.frozen? ⟨b,j,none⟩ = false := by
 refine ⟨(Array.getElem?_eq_some_iff.1 h).1,fun j u hu => ?_,fun j => ?_⟩
 ·rw [Nat.zero_add]
  simp [World.cell?,h,hu]
 ·simp [World.frozen?,h]
theorem set6 {w : World} {X : Nat} {T : TypeId} {a0 a1 a2 a3 a4 a5 v0 v1 v2 v3 v4 v5 : Value} (h : w.heap[X]? = some (.cells #[a0,a1,a2,a3,a4,a5] T (0,0))) :
  ((((((w.setCell ⟨X,0,none⟩ v0).setCell ⟨X,1,none⟩ v1).setCell ⟨X,2,none⟩ v2).setCell ⟨X,3,none⟩ v3).setCell ⟨X,4,none⟩ v4).setCell ⟨X,5,none⟩ v5).heap[X]? = some (.cells #[v0,v1,v2,v3,v4,v5] T (0,0)) /\ Kpt [X] w ((((((w.setCell ⟨X,0,none⟩ v0).setCell ⟨X,1,none⟩ v1).setCell ⟨X,2,none⟩ v2).setCell ⟨X,3,none⟩ v3).setCell ⟨X,4,none⟩ v4).setCell ⟨X,5,none⟩ v5) := by
 have h0 : (w.setCell ⟨X,0,none⟩ v0).heap[X]? = some (.cells #[v0,a1,a2,a3,a4,a5] T (0,0)) := by rw [heap_setCell_same _ X 0 _ _ _ h]; rfl
 have k0 : Kpt [X] w (w.setCell ⟨X,0,none⟩ v0) := Kpt.set _ _ _ _ _ (by simp)
 have h1 : ((w.setCell ⟨X,0,none⟩ v0).setCell ⟨X,1,none⟩ v1).heap[X]? = some (.cells #[v0,v1,a2,a3,a4,a5] T (0,0)) := by rw [heap_setCell_same _ X 1 _ _ _ h0]; rfl
 have k1 : Kpt [X] (w.setCell ⟨X,0,none⟩ v0) ((w.setCell ⟨X,0,none⟩ v0).setCell ⟨X,1,none⟩ v1) := Kpt.set _ _ _ _ _ (by simp)
 have h2 : (((w.setCell ⟨X,0,none⟩ v0).setCell ⟨X,1,none⟩ v1).setCell ⟨X,2,none⟩ v2).heap[X]? = some (.cells #[v0,v1,v2,a3,a4,a5] T (0,0)) := by rw [heap_setCell_same _ X 2 _ _ _ h1]; rfl
 have k2 : Kpt [X] ((w.setCell ⟨X,0,none⟩ v0).setCell ⟨X,1,none⟩ v1) (((w.setCell ⟨X,0,none⟩ v0).setCell ⟨X,1,none⟩ v1).setCell ⟨X,2,none⟩ v2) := Kpt.set _ _ _ _ _ (by simp)
 have h3 : ((((w.setCell ⟨X,0,none⟩ v0).setCell ⟨X,1,none⟩ v1).setCell ⟨X,2,none⟩ v2).setCell ⟨X,3,none⟩ v3).heap[X]? = some (.cells #[v0,v1,v2,v3,a4,a5] T (0,0)) := by rw [heap_setCell_same _ X 3 _ _ _ h2]; rfl
 have k3 : Kpt [X] (((w.setCell ⟨X,0,none⟩ v0).setCell ⟨X,1,none⟩ v1).setCell ⟨X,2,none⟩ v2) ((((w.setCell ⟨X,0,none⟩ v0).setCell ⟨X,1,none⟩ v1).setCell ⟨X,2,none⟩ v2).setCell ⟨X,3,none⟩ v3) := Kpt.set _ _ _ _ _ (by simp)
 have h4 : (((((w.setCell ⟨X,0,none⟩ v0).setCell ⟨X,1,none⟩ v1).setCell ⟨X,2,none⟩ v2).setCell ⟨X,3,none⟩ v3).setCell ⟨X,4,none⟩ v4).heap[X]? = some (.cells #[v0,v1,v2,v3,v4,a5] T (0,0)) := by rw [heap_setCell_same _ X 4 _ _ _ h3]; rfl
 have k4 : Kpt [X] ((((w.setCell ⟨X,0,none⟩ v0).setCell ⟨X,1,none⟩ v1).setCell ⟨X,2,none⟩ v2).setCell ⟨X,3,none⟩ v3) (((((w.setCell ⟨X,0,none⟩ v0).setCell ⟨X,1,none⟩ v1).setCell ⟨X,2,none⟩ v2).setCell ⟨X,3,none⟩ v3).setCell ⟨X,4,none⟩ v4) := Kpt.set _ _ _ _ _ (by simp)
 have h5 : ((((((w.setCell ⟨X,0,none⟩ v0).setCell ⟨X,1,none⟩ v1).setCell ⟨X,2,none⟩ v2).setCell ⟨X,3,none⟩ v3).setCell ⟨X,4,none⟩ v4).setCell ⟨X,5,none⟩ v5).heap[X]? = some (.cells #[v0,v1,v2,v3,v4,v5] T (0,0)) := by rw [heap_setCell_same _ X 5 _ _ _ h4]; rfl
 have k5 : Kpt [X] (((((w.setCell ⟨X,0,none⟩ v0).setCell ⟨X,1,none⟩ v1).setCell ⟨X,2,none⟩ v2).setCell ⟨X,3,none⟩ v3).setCell ⟨X,4,none⟩ v4) ((((((w.setCell ⟨X,0,none⟩ v0).setCell ⟨X,1,none⟩ v1).setCell ⟨X,2,none⟩ v2).setCell ⟨X,3,none⟩ v3).setCell ⟨X,4,none⟩ v4).setCell ⟨X,5,none⟩ v5) := Kpt.set _ _ _ _ _ (by simp)
 exact ⟨h5,(Kpt.trans (Kpt.trans (Kpt.trans (Kpt.trans (Kpt.trans k0 k1 (fun _ h => .inl h)) k2 (fun _ h => .inl h)) k3 (fun _ h => .inl h)) k4 (fun _ h => .inl h)) k5 (fun _ h => .inl h))⟩
theorem set9 {w : World} {X : Nat} {T : TypeId} {a0 a1 a2 a3 a4 a5 a6 a7 a8 v0 v1 v2 v3 v4 v5 v6 v7 v8 : Value} (h : w.heap[X]? = some (.cells #[a0,a1,a2,a3,a4,a5,a6,a7,a8] T (0,0))) :
  (((((((((w.setCell ⟨X,0,none⟩ v0).setCell ⟨X,1,none⟩ v1).setCell ⟨X,2,none⟩ v2).setCell ⟨X,3,none⟩ v3).setCell ⟨X,4,none⟩ v4).setCell ⟨X,5,none⟩ v5).setCell ⟨X,6,none⟩ v6).setCell ⟨X,7,none⟩ v7).setCell ⟨X,8,none⟩ v8).heap[X]? = some (.cells #[v0,v1,v2,v3,v4,v5,v6,v7,v8] T (0,0)) /\ Kpt [X] w (((((((((w.setCell ⟨X,0,none⟩ v0).setCell ⟨X,1,none⟩ v1).setCell ⟨X,2,none⟩ v2).setCell ⟨X,3,none⟩ v3).setCell ⟨X,4,none⟩ v4).setCell ⟨X,5,none⟩ v5).setCell ⟨X,6,none⟩ v6).setCell ⟨X,7,none⟩ v7).setCell ⟨X,8,none⟩ v8) := by
 have h0 : (w.setCell ⟨X,0,none⟩ v0).heap[X]? = some (.cells #[v0,a1,a2,a3,a4,a5,a6,a7,a8] T (0,0)) := by rw [heap_setCell_same _ X 0 _ _ _ h]; rfl
 have k0 : Kpt [X] w (w.setCell ⟨X,0,none⟩ v0) := Kpt.set _ _ _ _ _ (by simp)
 have h1 : ((w.setCell ⟨X,0,none⟩ v0).setCell ⟨X,1,none⟩ v1).heap[X]? = some (.cells #[v0,v1,a2,a3,a4,a5,a6,a7,a8] T (0,0)) := by rw [heap_setCell_same _ X 1 _ _ _ h0]; rfl
 have k1 : Kpt [X] (w.setCell ⟨X,0,none⟩ v0) ((w.setCell ⟨X,0,none⟩ v0).setCell ⟨X,1,none⟩ v1) := Kpt.set _ _ _ _ _ (by simp)
 have h2 : (((w.setCell ⟨X,0,none⟩ v0).setCell ⟨X,1,none⟩ v1).setCell ⟨X,2,none⟩ v2).heap[X]? = some (.cells #[v0,v1,v2,a3,a4,a5,a6,a7,a8] T (0,0)) := by rw [heap_setCell_same _ X 2 _ _ _ h1]; rfl
 have k2 : Kpt [X] ((w.setCell ⟨X,0,none⟩ v0).setCell ⟨X,1,none⟩ v1) (((w.setCell ⟨X,0,none⟩ v0).setCell ⟨X,1,none⟩ v1).setCell ⟨X,2,none⟩ v2) := Kpt.set _ _ _ _ _ (by simp)
 have h3 : ((((w.setCell ⟨X,0,none⟩ v0).setCell ⟨X,1,none⟩ v1).setCell ⟨X,2,none⟩ v2).setCell ⟨X,3,none⟩ v3).heap[X]? = some (.cells #[v0,v1,v2,v3,a4,a5,a6,a7,a8] T (0,0)) := by rw [heap_setCell_same _ X 3 _ _ _ h2]; rfl
 have k3 : Kpt [X] (((w.setCell ⟨X,0,none⟩ v0).setCell ⟨X,1,none⟩ v1).setCell ⟨X,2,none⟩ v2) ((((w.setCell ⟨X,0,none⟩ v0).setCell ⟨X,1,none⟩ v1).setCell ⟨X,2,none⟩ v2).setCell ⟨X,3,none⟩ v3) := Kpt.set _ _ _ _ _ (by simp)
 have h4 : (((((w.setCell ⟨X,0,none⟩ v0).setCell ⟨X,1,none⟩ v1).setCell ⟨X,2,none⟩ v2).setCell ⟨X,3,none⟩ v3).setCell ⟨X,4,none⟩ v4).heap[X]? = some (.cells #[v0,v1,v2,v3,v4,a5,a6,a7,a8] T (0,0)) := by rw [heap_setCell_same _ X 4 _ _ _ h3]; rfl
 have k4 : Kpt [X] ((((w.setCell ⟨X,0,none⟩ v0).setCell ⟨X,1,none⟩ v1).setCell ⟨X,2,none⟩ v2).setCell ⟨X,3,none⟩ v3) (((((w.setCell ⟨X,0,none⟩ v0).setCell ⟨X,1,none⟩ v1).setCell ⟨X,2,none⟩ v2).setCell ⟨X,3,none⟩ v3).setCell ⟨X,4,none⟩ v4) := Kpt.set _ _ _ _ _ (by simp)
 have h5 : ((((((w.setCell ⟨X,0,none⟩ v0).setCell ⟨X,1,none⟩ v1).setCell ⟨X,2,none⟩ v2).setCell ⟨X,3,none⟩ v3).setCell ⟨X,4,none⟩ v4).setCell ⟨X,5,none⟩ v5).heap[X]? = some (.cells #[v0,v1,v2,v3,v4,v5,a6,a7,a8] T (0,0)) := by rw [heap_setCell_same _ X 5 _ _ _ h4]; rfl
 have k5 : Kpt [X] (((((w.setCell ⟨X,0,none⟩ v0).setCell ⟨X,1,none⟩ v1).setCell ⟨X,2,none⟩ v2).setCell ⟨X,3,none⟩ v3).setCell ⟨X,4,none⟩ v4) ((((((w.setCell ⟨X,0,none⟩ v0).setCell ⟨X,1,none⟩ v1).setCell ⟨X,2,none⟩ v2).setCell ⟨X,3,none⟩ v3).setCell ⟨X,4,none⟩ v4).setCell ⟨X,5,none⟩ v5) := Kpt.set _ _ _ _ _ (by simp)
 have h6 : (((((((w.setCell ⟨X,0,none⟩ v0).setCell ⟨X,1,none⟩ v1).setCell ⟨X,2,none⟩ v2).setCell ⟨X,3,none⟩ v3).setCell ⟨X,4,none⟩ v4).setCell ⟨X,5,none⟩ v5).setCell ⟨X,6,none⟩ v6).heap[X]? = some (.cells #[v0,v1,v2,v3,v4,v5,v6,a7,a8] T (0,0)) := by rw [heap_setCell_same _ X 6 _ _ _ h5]; rfl
 have k6 : Kpt [X] ((((((w.setCell ⟨X,0,none⟩ v0).setCell ⟨X,1,none⟩ v1).setCell ⟨X,2,none⟩ v2).setCell ⟨X,3,none⟩ v3).setCell ⟨X,4,none⟩ v4).setCell ⟨X,5,none⟩ v5) (((((((w.setCell ⟨X,0,none⟩ v0).setCell ⟨X,1,none⟩ v1).setCell ⟨X,2,none⟩ v2).setCell ⟨X,3,none⟩ v3).setCell ⟨X,4,none⟩ v4).setCell ⟨X,5,none⟩ v5).setCell ⟨X,6,none⟩ v6) := Kpt.set _ _ _ _ _ (by simp)
 have h7 : ((((((((w.setCell ⟨X,0,none⟩ v0).setCell ⟨X,1,none⟩ v1).setCell ⟨X,2,none⟩ v2).setCell ⟨X,3,none⟩ v3).setCell ⟨X,4,none⟩ v4).setCell ⟨X,5,none⟩ v5).setCell ⟨X,6,none⟩ v6).setCell ⟨X,7,none⟩ v7).heap[X]? = some (.cells #[v0,v1,v2,v3,v4,v5,v6,v7,a8] T (0,0)) := by rw [heap_setCell_same _ X 7 _ _ _ h6]; rfl
 have k7 : Kpt [X] (((((((w.setCell ⟨X,0,none⟩ v0).setCell ⟨X,1,none⟩ v1).setCell ⟨X,2,none⟩ v2).setCell ⟨X,3,none⟩ v3).setCell ⟨X,4,none⟩ v4).setCell ⟨X,5,none⟩ v5).setCell ⟨X,6,none⟩ v6) ((((((((w.setCell ⟨X,0,none⟩ v0).setCell ⟨X,1,none⟩ v1).setCell ⟨X,2,none⟩ v2).setCell ⟨X,3,none⟩ v3).setCell ⟨X,4,none⟩ v4).setCell ⟨X,5,none⟩ v5).setCell ⟨X,6,none⟩ v6).setCell ⟨X,7,none⟩ v7) := Kpt.set _ _ _ _ _ (by simp)
 have h8 : (((((((((w.setCell ⟨X,0,none⟩ v0).setCell ⟨X,1,none⟩ v1).setCell ⟨X,2,none⟩ v2).setCell ⟨X,3,none⟩ v3).setCell ⟨X,4,none⟩ v4).setCell ⟨X,5,none⟩ v5).setCell ⟨X,6,none⟩ v6).setCell ⟨X,7,none⟩ v7).setCell ⟨X,8,none⟩ v8).heap[X]? = some (.cells #[v0,v1,v2,v3,v4,v5,v6,v7,v8] T (0,0)) := by rw [heap_setCell_same _ X 8 _ _ _ h7]; rfl
 have k8 : Kpt [X] ((((((((w.setCell ⟨X,0,none⟩ v0).setCell ⟨X,1,none⟩ v1).setCell ⟨X,2,none⟩ v2).setCell ⟨X,3,none⟩ v3).setCell ⟨X,4,none⟩ v4).setCell ⟨X,5,none⟩ v5).setCell ⟨X,6,none⟩ v6).setCell ⟨X,7,none⟩ v7) (((((((((w.setCell ⟨X,0,none⟩ v0).setCell ⟨X,1,none⟩ v1).setCell ⟨X,2,none⟩ v2).setCell ⟨X,3,none⟩ v3).setCell ⟨X,4,none⟩ v4).setCell ⟨X,5,none⟩ v5).setCell ⟨X,6,none⟩ v6).setCell ⟨X,7,none⟩ v7).setCell ⟨X,8,none⟩ v8) := Kpt.set _ _ _ _ _ (by simp)
 exact ⟨h8,(Kpt.trans (Kpt.trans (Kpt.trans (Kpt.trans (Kpt.trans (Kpt.trans (Kpt.trans (Kpt.trans k0 k1 (fun _ h => .inl h)) k2 (fun _ h => .inl h)) k3 (fun _ h => .inl h)) k4 (fun _ h => .inl h)) k5 (fun _ h => .inl h)) k6 (fun _ h => .inl h)) k7 (fun _ h => .inl h)) k8 (fun _ h => .inl h))⟩
theorem OwnX.slice {α : Type} {sz : Nat} {T : TypeId} {P : Pv α} {w : World} {B : Nat} {v : Value} {xs : List α} (h : OwnX sz T P w B v xs) : ∃ p n c,v = .slice p n c := by
 obtain ⟨cs,h1,_⟩ := h
 rcases h1.2 with ⟨rfl,hn⟩ | ⟨g,cap,cur,rfl,hb,hg,hle,_⟩
 ·exact ⟨_,_,_,rfl⟩
 ·exact ⟨_,_,_,rfl⟩
end Go.Proofs.YtpkjlgdbaajpoaaGreat.A
namespace Go.Proofs.YtpkjlgdbaajpoaaGreat.R
open Go.RowKit Go.Proofs.YtpkjlgdbaajpoaaGreat.D Go.Proofs.YtpkjlgdbaajpoaaGreat.O Go.Proofs.YtpkjlgdbaajpoaaGreat.A
def TrW (w : World) (ok : Nat -> Prop) (tb mb : Nat) (vs : Value) (K : List Cls) : Prop :=
 ok tb /\ ok mb /\ w.heap[tb]? = some (.cells #[vs,.map (some mb)] 84 (0,0)) /\ RdX 6 cP ok w vs K /\ Mp w mb K.length (K.map (·.name)) /\ SzT (K.map skOf)
theorem TrW.below {w w' : World} {ok : Nat -> Prop} {tb mb : Nat} {vs : Value} {K : List Cls} (h : TrW w ok tb mb vs K) (hb : Below w.heap.size w w') : TrW w' ok tb mb vs K := by
 obtain ⟨h1,h2,h3,h4,h5,h6⟩ := h
 exact ⟨h1,h2,(hb.block _ (Array.getElem?_eq_some_iff.1 h3).1).trans h3,h4.step cP.grow (fun _ h _ => h) (.of_below hb) hb.size,h5.kpt (.of_below hb : Kpt [] w w') (by simp),h6⟩
theorem TrW.old {w w' : World} {ok : Nat -> Prop} {tb mb : Nat} {vs : Value} {K : List Cls} (h : TrW w ok tb mb vs K) (hb : Below w.heap.size w w') : TrW w' (fun b => ok b /\ b < w.heap.size) tb mb vs K := by
 obtain ⟨h1,h2,h3,h4,h5,h6⟩ := h
 obtain ⟨es,cl,hm⟩ := h5.map
 exact ⟨⟨h1,(Array.getElem?_eq_some_iff.1 h3).1⟩,⟨h2,(Array.getElem?_eq_some_iff.1 hm).1⟩,(hb.block _ (Array.getElem?_eq_some_iff.1 h3).1).trans h3,h4.step cP.grow (fun _ h hl => ⟨h,hl⟩) (.of_below hb) hb.size,h5.kpt (.of_below hb : Kpt [] w w') (by simp),h6⟩
theorem TrW.cells {w : World} {ok : Nat -> Prop} {tb mb : Nat} {vs : Value} {K : List Cls} (h : TrW w ok tb mb vs K) : tb < w.heap.size /\ w.cell? ⟨tb,0,none⟩ = some vs /\ w.cell? ⟨tb,1,none⟩ = some (.map (some mb)) /\ w.frozen? ⟨tb,0,none⟩ = false := by
 have h3 := h.2.2.1
 refine ⟨(Array.getElem?_eq_some_iff.1 h3).1,?_,?_,?_⟩ <;> simp [World.cell?,World.frozen?,h3]
theorem TrW.few {w : World} {ok : Nat -> Prop} {tb mb : Nat} {vs : Value} {K : List Cls} (h : TrW w ok tb mb vs K) : K.length <= 1000 := by
 have := h.2.2.2.2.2.1
 rwa [List.length_map] at this
def FAns (ok : Nat -> Prop) (K : List Cls) (n : ByteArray) (w : World) (e : Ending) (w' : World) : Prop :=
 ∃ pi ni ci pf nf cf pm nm cm,e = .returned (.tuple #[.agg #[.string ((findC K n).getD noC).name,.string ((findC K n).getD noC).super,.slice pi ni ci,.int .i64 ((findC K n).getD noC).kind,.slice pf nf cf,.slice pm nm cm],.bool (findC K n).isSome]) /\
  RdX 1 (sP strC) ok w (.slice pi ni ci) ((findC K n).getD noC).ifaces /\ RdX 4 (sP fldC) ok w (.slice pf nf cf) ((findC K n).getD noC).fields /\ RdX 9 mP ok w (.slice pm nm cm) ((findC K n).getD noC).methods /\ Below w.heap.size w w'
theorem find_t (ok : Nat -> Prop) (tb mb : Nat) (vs : Value) (K : List Cls) (n : ByteArray) (w : World) (h : TrW w ok tb mb vs K) (hn : n.size <= maxLen) :
  Calls Tryz.prog 59 #[.pointer (some ⟨tb,0,none⟩),.string n] w (FAns ok K n w) := by
 have HT := hid h
 clear h
 obtain ⟨w0,hw0⟩ : ∃ x,x = w.alloc (.cells #[.string ⟨#[]⟩,.string ⟨#[]⟩,.slice none 0 0,.int .i64 0,.slice none 0 0,.slice none 0 0] 74) := ⟨_,rfl⟩
 have HB0 : Hid (Below w.heap.size w w0) := hid (by rw [hw0]; exact below_alR _ _)
 have hs0 : w0.heap.size = w.heap.size + 1 := by rw [hw0]; simp
 have HX0 : Hid (w0.heap[w.heap.size]? = some (.cells #[.string ⟨#[]⟩,.string ⟨#[]⟩,.slice none 0 0,.int .i64 0,.slice none 0 0,.slice none 0 0] 74 (0,0))) := hid (by rw [hw0]; exact heap_alloc_new _ _)
 cases hbl : bltS n with
 | some s =>
  have HBL := hid hbl
  have HF := hid (find_blt (K := K) hbl)
  clear hbl
  go_enter Tryz.func59,Tryz.ntmps59
  go_wp2_with fail
  rw [<- hw0]
  clear hw0
  refine (blt_yes n s w0 HBL.out).mono ?_
  rintro e w1 ⟨rfl,hb1⟩
  have hX1 := (hb1.block _ (by omega)).trans HX0.out
  have hs1 := hb1.size
  have HB1 := hid (HB0.out.trans (hb1.mono (by omega)))
  clear hb1 HX0
  obtain ⟨xl,xc,xf⟩ := boxN hX1
  have x0 := xc 0 _ rfl
  have z0 := xf 0
  have x1 := xc 1 _ rfl
  have z1 := xf 1
  have x2 := xc 2 _ rfl
  have z2 := xf 2
  have x3 := xc 3 _ rfl
  have z3 := xf 3
  have x4 := xc 4 _ rfl
  have z4 := xf 4
  have x5 := xc 5 _ rfl
  have z5 := xf 5
  simp only [Nat.zero_add] at x0 x1 x2 x3 x4 x5
  clear xc xf
  go_wp2_with fail
  have hk := (set6 (v0 := .string n) (v1 := .string s) (v2 := .slice none 0 0) (v3 := .int .i64 1) (v4 := .slice none 0 0) (v5 := .slice none 0 0) hX1).2
  refine bodyPost_ret (v := .tuple #[.agg #[.string n,.string s,.slice none 0 0,.int .i64 1,.slice none 0 0,.slice none 0 0],.bool true]) (by simp [*,results,Tryz.results59,go_sem]) rfl ?_
  unfold FAns
  rw [HF.out]
  exact ⟨_,_,_,_,_,_,_,_,_,rfl,RdX.nil _ _ _ _,RdX.nil _ _ _ _,RdX.nil _ _ _ _,(HB1.out.trans (hk.below (fun x hx => by simp at hx; omega) (by omega))).alloc (by simp; omega) _⟩
 | none =>
  obtain ⟨okb,hok⟩ : ∃ x,decide (n ∈ K.map (·.name)) = x := ⟨_,rfl⟩
  obtain ⟨ps,hps⟩ : ∃ x,(if n ∈ K.map (·.name) then pos (K.map (·.name)) n else 0) = x := ⟨_,rfl⟩
  have HBL := hid hbl
  clear hbl
  go_enter Tryz.func59,Tryz.ntmps59
  go_wp2_with fail
  rw [<- hw0]
  clear hw0
  refine (blt_no n w0 HBL.out).mono ?_
  rintro e w1 ⟨rfl,hb1⟩
  have hX1 := (hb1.block _ (by omega)).trans HX0.out
  have hs1 := hb1.size
  have hb01 := HB0.out.trans (hb1.mono (by omega))
  have HB1 := hid hb01
  have HT1 := hid (HT.out.below hb01)
  clear hb1 hb01 HX0
  obtain ⟨xl,xc,xf⟩ := boxN hX1
  have x0 := xc 0 _ rfl
  have z0 := xf 0
  have x1 := xc 1 _ rfl
  have z1 := xf 1
  have x2 := xc 2 _ rfl
  have z2 := xf 2
  have x3 := xc 3 _ rfl
  have z3 := xf 3
  have x4 := xc 4 _ rfl
  have z4 := xf 4
  have x5 := xc 5 _ rfl
  have z5 := xf 5
  simp only [Nat.zero_add] at x0 x1 x2 x3 x4 x5
  clear xc xf
  obtain ⟨tl,t0,t1,tz⟩ := HT1.out.cells
  have tne : tb ≠ w1.heap.size := by omega
  have hm2 := (HT1.out.2.2.2.2.1).kpt (Kpt.alloc [] w1 (.cells #[.string ⟨#[]⟩,.string ⟨#[]⟩,.slice none 0 0,.int .i64 0,.slice none 0 0,.slice none 0 0] 74)) (by simp)
  by_cases hin : n ∈ K.map (·.name)
  ·obtain rfl : true = okb := by rw [<- hok,decide_eq_true hin]
   have hps1 := hps
   rw [if_pos hin] at hps1
   obtain ⟨c,hc,hf⟩ := find_in HBL.out hin
   have HF := hid hf
   rw [hps1] at hc
   clear hps1
   have hpl : ps < K.length := (List.getElem?_eq_some_iff.1 hc).1
   have hfew := HT1.out.few
   have hne : K ≠ [] := by rintro rfl; simp at hpl
   obtain ⟨pv,capv,hv,hcap⟩ := HT.out.2.2.2.1.len
   subst hv
   obtain ⟨b,off,rfl,-,-,hBb,hbl,hcells⟩ := HT.out.2.2.2.1.place hne
   obtain ⟨l,⟨vi,vf,vm,rfl,k1,k2,k3⟩,hcell⟩ := hcells _ _ hc
   obtain ⟨pi,ci,rfl,-⟩ := k1.len
   obtain ⟨pf,cf,rfl,-⟩ := k2.len
   obtain ⟨pm,cm,rfl,-⟩ := k3.len
   have hcell1 := hcell.below HB1.out hbl
   obtain ⟨y0,y1,y2,y3,y4,y5⟩ := hcell1.six
   replace hbl : b < w1.heap.size := by omega
   have bne : b ≠ w1.heap.size := by omega
   have i0 : (0 : Int) <= (ps : Int) := by omega
   have i1 : (ps : Int) < (K.length : Int) := by omega
   have HK1 := hid k1
   have HK2 := hid k2
   have HK3 := hid k3
   clear hcells hcell hcell1 hc hf k1 k2 k3 hcap hne hBb hfew hpl
   go_wp2_with (at_lookup; refine wp_look rfl _ _ rfl mb K.length (K.map (·.name)) rfl hm2 n hn rfl true hok ps hps ?_)
   have hk := (set6 (v0 := .string c.name) (v1 := .string c.super) (v2 := .slice pi c.ifaces.length ci) (v3 := .int .i64 c.kind) (v4 := .slice pf c.fields.length cf) (v5 := .slice pm c.methods.length cm) hX1).2
   refine bodyPost_ret (v := .tuple #[.agg #[.string c.name,.string c.super,.slice pi c.ifaces.length ci,.int .i64 c.kind,.slice pf c.fields.length cf,.slice pm c.methods.length cm],.bool true]) (by simp [*,results,Tryz.results59,go_sem]) rfl ?_
   unfold FAns
   rw [HF.out]
   exact ⟨_,_,_,_,_,_,_,_,_,rfl,HK1.out,HK2.out,HK3.out,(HB1.out.trans (hk.below (fun x hx => by simp at hx; omega) (by omega))).alloc (by simp; omega) _⟩
  ·obtain rfl : false = okb := by rw [<- hok,decide_eq_false hin]
   have HF := hid (find_out HBL.out hin)
   go_wp2_with (at_lookup; refine wp_look rfl _ _ rfl mb K.length (K.map (·.name)) rfl hm2 n hn rfl false hok ps hps ?_)
   have hk := (set6 (v0 := .string ⟨#[]⟩) (v1 := .string ⟨#[]⟩) (v2 := .slice none 0 0) (v3 := .int .i64 0) (v4 := .slice none 0 0) (v5 := .slice none 0 0) hX1).2
   refine bodyPost_ret (v := .tuple #[.agg #[.string ⟨#[]⟩,.string ⟨#[]⟩,.slice none 0 0,.int .i64 0,.slice none 0 0,.slice none 0 0],.bool false]) (by simp [*,results,Tryz.results59,go_sem]) rfl ?_
   unfold FAns
   rw [HF.out]
   exact ⟨_,_,_,_,_,_,_,_,_,rfl,RdX.nil _ _ _ _,RdX.nil _ _ _ _,RdX.nil _ _ _ _,(HB1.out.trans (hk.below (fun x hx => by simp at hx; omega) (by omega))).alloc (by simp; omega) _⟩
theorem known_t (ok : Nat -> Prop) (tb mb : Nat) (vs : Value) (K : List Cls) (n : ByteArray) (w : World) (h : TrW w ok tb mb vs K) (hn : n.size <= maxLen) :
  Calls Tryz.prog 33 #[.pointer (some ⟨tb,0,none⟩),.string n] w fun e w' => e = .returned (.bool (knownT (K.map skOf) n)) /\ Below w.heap.size w w' := by
 go_enter Tryz.func33,Tryz.ntmps33
 go_wp2_with fail
 refine (find_t ok tb mb vs K n w h hn).mono ?_
 rintro e w1 ⟨pi,ni,ci,pf,nf,cf,pm,nm,cm,rfl,k1,k2,k3,hb⟩
 have HB := hid hb
 have HK := hid k1
 clear hb k1 k2 k3 h
 go_wp2_with fail
 go_ret
 exact ⟨by rw [known_sk]; rfl,HB.out.alloc HB.out.size _⟩
theorem super_t (ok : Nat -> Prop) (tb mb : Nat) (vs : Value) (K : List Cls) (n : ByteArray) (w : World) (h : TrW w ok tb mb vs K) (hn : n.size <= maxLen) :
  Calls Tryz.prog 138 #[.pointer (some ⟨tb,0,none⟩),.string n] w fun e w' => e = .returned (.string (superT (K.map skOf) n)) /\ Below w.heap.size w w' := by
 go_enter Tryz.func138,Tryz.ntmps138
 go_wp2_with fail
 refine (find_t ok tb mb vs K n w h hn).mono ?_
 rintro e w1 ⟨pi,ni,ci,pf,nf,cf,pm,nm,cm,rfl,k1,k2,k3,hb⟩
 have HB := hid hb
 have HK := hid k1
 clear hb k1 k2 k3 h
 go_wp2_with fail
 go_ret
 exact ⟨by rw [super_sk]; rfl,HB.out.alloc HB.out.size _⟩
theorem own_t (ok : Nat -> Prop) (tb mb : Nat) (vs : Value) (K : List Cls) (n : ByteArray) (w : World) (h : TrW w ok tb mb vs K) (hn : n.size <= maxLen) :
  Calls Tryz.prog 144 #[.pointer (some ⟨tb,0,none⟩),.string n] w fun e w' => ∃ p c,e = .returned (.slice p (ifsT (K.map skOf) n).length c) /\ RdX 1 (sP strC) ok w (.slice p (ifsT (K.map skOf) n).length c) (ifsT (K.map skOf) n) /\ Below w.heap.size w w' := by
 go_enter Tryz.func144,Tryz.ntmps144
 go_wp2_with fail
 refine (find_t ok tb mb vs K n w h hn).mono ?_
 rintro e w1 ⟨pi,ni,ci,pf,nf,cf,pm,nm,cm,rfl,k1,k2,k3,hb⟩
 have HB := hid hb
 have HK := hid k1
 clear hb k1 k2 k3 h
 go_wp2_with fail
 go_ret
 rw [ifs_sk]
 obtain ⟨p,c,e,-⟩ := HK.out.len
 simp only [Value.slice.injEq] at e
 obtain ⟨rfl,rfl,rfl⟩ := e
 exact ⟨_,_,rfl,HK.out,HB.out.alloc HB.out.size _⟩
theorem isif_t (ok : Nat -> Prop) (tb mb : Nat) (vs : Value) (K : List Cls) (n : ByteArray) (w : World) (h : TrW w ok tb mb vs K) (hn : n.size <= maxLen) :
  Calls Tryz.prog 106 #[.pointer (some ⟨tb,0,none⟩),.string n] w fun e w' => e = .returned (.bool (decide (kindT (K.map skOf) n = 4))) /\ Below w.heap.size w w' := by
 go_enter Tryz.func106,Tryz.ntmps106
 go_wp2_with fail
 refine (find_t ok tb mb vs K n w h hn).mono ?_
 rintro e w1 ⟨pi,ni,ci,pf,nf,cf,pm,nm,cm,rfl,k1,k2,k3,hb⟩
 have HB := hid hb
 have HK := hid k1
 clear hb k1 k2 k3 h
 go_wp2_with fail
 go_ret
 exact ⟨by rw [kind_sk]; first | rfl | simp,HB.out.alloc HB.out.size _⟩
end Go.Proofs.YtpkjlgdbaajpoaaGreat.R
namespace Go.Proofs.YtpkjlgdbaajpoaaGreat.R
open Go.RowKit Go.Proofs.YtpkjlgdbaajpoaaGreat.D Go.Proofs.YtpkjlgdbaajpoaaGreat.O Go.Proofs.YtpkjlgdbaajpoaaGreat.A
theorem cell_at {b i : Nat} {w : World} {cs : Array Value} {T : TypeId} {v : Value} (h : w.heap[b]? = some (.cells cs T (0,0))) (hv : cs[i]? = some v) : w.cell? ⟨b,i,none⟩ = some v := by
 simp only [World.cell?,h]
 exact hv
theorem jal2 (w : World) (X : Obj) (cs : Array Value) (T : TypeId) : ((w.alloc X).alloc (.cells cs T)).heap[w.heap.size + 1]? = some (.cells cs T (0,0)) := by
 have h := heap_alloc_new (w.alloc X) (.cells cs T)
 rwa [World.size_alloc] at h
theorem jbl2 (w : World) (X Y : Obj) : Below w.heap.size w ((w.alloc X).alloc Y) := (below_alR w X).trans ((below_alR _ Y).mono (by simp))
theorem set2_bl {w : World} {B g o o2 : Nat} {u v : Value} (hg : B <= g) (hB : B <= w.heap.size) : Below B w ((w.setCell ⟨g,o,none⟩ u).setCell ⟨g,o2,none⟩ v) :=
 ((Kpt.set [g] w g o u (by simp)).below (fun x hx => by simp at hx; omega) hB).trans ((Kpt.set [g] _ g o2 v (by simp)).below (fun x hx => by simp at hx; omega) (by simpa using hB))
theorem nm12_at (n : Nat) : (#[.string ⟨#[65]⟩,.string ⟨#[66]⟩,.string ⟨#[66,97,115,101]⟩,.string ⟨#[73]⟩,.string ⟨#[74]⟩,.string ⟨#[77,105,100]⟩,.string ⟨#[67]⟩,.string ⟨#[68]⟩,.string ⟨#[69,114,114]⟩,.string ⟨#[79,98,106,101,99,116]⟩,.string ⟨#[70,97,117,108,116]⟩,.string ⟨#[78,111,98,111,100,121]⟩] : Array Value)[n % 12]? = some (.string (nmJ.getD (n % 12) es)) := by
 have h : n % 12 < 12 := Nat.mod_lt _ (by decide)
 have key : ∀ i : Fin 12,(#[.string ⟨#[65]⟩,.string ⟨#[66]⟩,.string ⟨#[66,97,115,101]⟩,.string ⟨#[73]⟩,.string ⟨#[74]⟩,.string ⟨#[77,105,100]⟩,.string ⟨#[67]⟩,.string ⟨#[68]⟩,.string ⟨#[69,114,114]⟩,.string ⟨#[79,98,106,101,99,116]⟩,.string ⟨#[70,97,117,108,116]⟩,.string ⟨#[78,111,98,111,100,121]⟩] : Array Value)[i.val]? = some (.string (nmJ.getD i.val es)) := by intro i; match i with | ⟨0,_⟩ | ⟨1,_⟩ | ⟨2,_⟩ | ⟨3,_⟩ | ⟨4,_⟩ | ⟨5,_⟩ | ⟨6,_⟩ | ⟨7,_⟩ | ⟨8,_⟩ | ⟨9,_⟩ | ⟨10,_⟩ | ⟨11,_⟩ => rfl
 exact key ⟨_,h⟩
end Go.Proofs.YtpkjlgdbaajpoaaGreat.R
namespace Go.Proofs.YtpkjlgdbaajpoaaGreat.S
open Go.RowKit Go.Maps
theorem add_add (x : Addr) (i : Nat) (h : x.spot = none) : x.add i = ⟨x.block,x.off + i,none⟩ := by
 obtain ⟨b,o,s⟩ := x
 simp only at h
 subst h
 unfold Addr.add
 split <;> simp_all
theorem grown_set (w : World) (rb j : Nat) (u : Value) : w.grownBy (w.setCell ⟨rb,j,none⟩ u) (some rb) :=
 ⟨rfl,rfl,rfl,by simp,fun k _ hk => heap_setCell_other w ⟨rb,j,none⟩ k u (fun e => hk (by simp [e]))⟩
theorem grown_drewN (w : World) (n : Nat) (r : Option Nat) : w.grownBy (w.drewN n) r := ⟨rfl,rfl,rfl,Nat.le_refl _,fun _ _ _ => rfl⟩
theorem below_drewN (B : Nat) (w : World) (n : Nat) : Below B w (w.drewN n) := ⟨rfl,rfl,rfl,Nat.le_refl _,fun _ _ => rfl⟩
def Kpt (S : List Nat) (w w' : World) : Prop := Below 0 w w' /\ ∀ g,g < w.heap.size -> g ∉ S -> w'.heap[g]? = w.heap[g]?
theorem Kpt.size {S : List Nat} {w w' : World} (h : Kpt S w w') : w.heap.size <= w'.heap.size := h.1.size
theorem Kpt.refl (S : List Nat) (w : World) : Kpt S w w := ⟨Below.refl _ _,fun _ _ _ => rfl⟩
theorem Kpt.trans {S S' : List Nat} {a b c : World} (h : Kpt S a b) (k : Kpt S' b c) (hs : ∀ x ∈ S',x ∈ S ∨ a.heap.size <= x) : Kpt S a c :=
 ⟨h.1.trans k.1,fun g hg hn => (k.2 g (Nat.lt_of_lt_of_le hg h.size) (fun hx => by
  rcases hs g hx with h1 | h1
  ·exact hn h1
  ·omega)).trans (h.2 g hg hn)⟩
theorem Kpt.mono {S S' : List Nat} {a b : World} (h : Kpt S a b) (hs : ∀ x ∈ S,x < a.heap.size -> x ∈ S') : Kpt S' a b :=
 ⟨h.1,fun g hg hn => h.2 g hg (fun hx => hn (hs g hx hg))⟩
theorem Kpt.of_below {S : List Nat} {w w' : World} (h : Below w.heap.size w w') : Kpt S w w' := ⟨h.mono (Nat.zero_le _),fun g hg _ => h.block g hg⟩
theorem Kpt.of_grown {S : List Nat} {w w' : World} {r : Option Nat} (h : w.grownBy w' r) (hr : ∀ g,r = some g -> g ∈ S ∨ w.heap.size <= g) : Kpt S w w' :=
 ⟨⟨h.os,h.tape,h.output,h.size,fun k hk => absurd hk (Nat.not_lt_zero k)⟩,fun g hg hn => h.block g hg (fun e => by
  rcases hr g e.symm with h1 | h1
  ·exact hn h1
  ·omega)⟩
theorem Kpt.alloc (S : List Nat) (w : World) (o : Obj) : Kpt S w (w.alloc o) := .of_grown (World.grownBy_alloc w o none) (fun g h => by cases h)
theorem Kpt.drew {S : List Nat} {a w : World} (h : Kpt S a w) : Kpt S a w.drew := ⟨h.1.drew,h.2⟩
theorem Kpt.set (S : List Nat) (w : World) (b j : Nat) (u : Value) (h : b ∈ S) : Kpt S w (w.setCell ⟨b,j,none⟩ u) := .of_grown (grown_set w b j u) (fun g e => by cases e; exact .inl h)
theorem Kpt.below {S : List Nat} {w w' : World} {B : Nat} (h : Kpt S w w') (hS : ∀ x ∈ S,B <= x) (hB : B <= w.heap.size) : Below B w w' :=
 ⟨h.1.os,h.1.tape,h.1.output,h.1.size,fun k hk => h.2 k (Nat.lt_of_lt_of_le hk hB) (fun hx => by have := hS k hx; omega)⟩
theorem Kpt.block {S : List Nat} {w w' : World} (h : Kpt S w w') {b : Nat} {o : Obj} (hb : w.heap[b]? = some o) (hn : b ∉ S) : w'.heap[b]? = some o := (h.2 b (Array.getElem?_eq_some_iff.1 hb).1 hn).trans hb
theorem row_kpt {w w' : World} {B n sz : Nat} {e : TypeId} {v : Value} {xs : List Value} {S : List Nat} (h : w.ownsRow B e sz v n xs) (hk : Kpt S w w') (hS : ∀ g,v.ownBlock = some g -> g ∉ S) : w'.ownsRow B e sz v n xs := by
 refine ⟨h.1,?_⟩
 rcases h.2 with hn | ⟨g,cap,cur,rfl,hb,hgg,rest⟩
 ·exact .inl hn
 ·refine .inr ⟨g,cap,cur,rfl,hb,?_,rest⟩
  rw [hk.2 g (Array.getElem?_eq_some_iff.1 hgg).1 (hS g rfl)]
  exact hgg
section
variable {α : Type} {c : α -> Value}
def RdC (c : α -> Value) (ok : Nat -> Prop) (w : World) (v : Value) (xs : List α) : Prop :=
 ∃ (p : Option Addr) (cap : Nat),v = .slice p xs.length cap /\ xs.length <= cap /\ (p = none -> cap = 0) /\ cap <= maxLen /\
  (xs = [] ∨ ∃ b off,p = some ⟨b,off,none⟩ /\ ok b /\ b < w.heap.size /\ ∀ i x,xs[i]? = some x -> w.cell? ⟨b,off + i,none⟩ = some (c x))
theorem RdC.form {ok : Nat -> Prop} {w : World} {v : Value} {xs : List α} (h : RdC c ok w v xs) : ∃ p cap,v = .slice p xs.length cap /\ xs.length <= cap /\ cap <= maxLen := by
 obtain ⟨p,cap,h,h1,_,h2,_⟩ := h
 exact ⟨p,cap,h,h1,h2⟩
theorem RdC.at {ok : Nat -> Prop} {w : World} {p : Option Addr} {n cap : Nat} {xs : List α} (h : RdC c ok w (.slice p n cap) xs) (hn : xs ≠ []) :
  ∃ b off,p = some ⟨b,off,none⟩ /\ ok b /\ b < w.heap.size /\ ∀ i x,xs[i]? = some x -> w.cell? ⟨b,off + i,none⟩ = some (c x) := by
 obtain ⟨p',cap',e,_,_,_,h3⟩ := h
 simp only [Value.slice.injEq] at e
 obtain ⟨rfl,rfl,rfl⟩ := e
 rcases h3 with h3 | h3
 ·exact absurd h3 hn
 ·exact h3
theorem RdC.nil (ok : Nat -> Prop) (w : World) : RdC c ok w (.slice none 0 0) ([] : List α) := ⟨none,0,rfl,by simp,fun _ => rfl,by unfold maxLen; omega,.inl rfl⟩
def OwnC (c : α -> Value) (T : TypeId) (w : World) (B : Nat) (v : Value) (xs : List α) : Prop := w.ownsRow B T 1 v xs.length (xs.map c)
variable {T : TypeId}
theorem OwnC.nil (w : World) (B : Nat) : OwnC c T w B (.slice none 0 0) ([] : List α) := World.ownsRow_nil _ _ _ _
theorem OwnC.alloc {w : World} {B : Nat} {v : Value} {xs : List α} (h : OwnC c T w B v xs) (o : Obj) : OwnC c T (w.alloc o) B v xs := World.ownsRow.alloc h o
theorem OwnC.lt {w : World} {B : Nat} {v : Value} {xs : List α} (h : OwnC c T w B v xs) : ∀ k,v.ownBlock = some k -> B <= k /\ k < w.heap.size := World.ownsRow.lt h
theorem OwnC.kpt {w w' : World} {B : Nat} {v : Value} {xs : List α} {S : List Nat} (h : OwnC c T w B v xs) (hk : Kpt S w w') (hS : ∀ g,v.ownBlock = some g -> g ∉ S) : OwnC c T w' B v xs := row_kpt h hk hS
theorem OwnC.mono {w : World} {B B' : Nat} {v : Value} {xs : List α} (h : OwnC c T w B v xs) (hB : B' <= B) : OwnC c T w B' v xs := by
 refine ⟨h.1,?_⟩
 rcases h.2 with h' | ⟨g,cap,cur,e,hb,r⟩
 ·exact .inl h'
 ·exact .inr ⟨g,cap,cur,e,Nat.le_trans hB hb,r⟩
theorem OwnC.cells {w : World} {B : Nat} {v : Value} {xs : List α} (h : OwnC c T w B v xs) : (v = .slice none 0 0 /\ xs = []) ∨ ∃ g cap cur,v = .slice (some ⟨g,0,none⟩) xs.length cap /\ B <= g /\ g < w.heap.size /\ w.heap[g]? = some (.cells cur T (0,0)) /\ xs.length <= cap /\ cap <= maxLen /\
  (∀ i x,xs[i]? = some x -> w.cell? ⟨g,i,none⟩ = some (c x)) /\ (∀ i,w.frozen? ⟨g,i,none⟩ = false) /\ (∀ i,i < cap -> ∃ u,w.cell? ⟨g,i,none⟩ = some u) := by
 have hh := h
 rcases h.2 with ⟨rfl,hn⟩ | ⟨g,cap,cur,rfl,hb,hg,h1,h2,h3,h4⟩
 ·exact .inl ⟨rfl,List.eq_nil_of_length_eq_zero hn⟩
 ·refine .inr ⟨g,cap,cur,rfl,hb,(Array.getElem?_eq_some_iff.1 hg).1,hg,h1,h2,fun i x hx => ?_,fun i => by simp [World.frozen?,hg],fun i hi => ⟨cur[i]'(by omega),?_⟩⟩
  ·have := World.ownsRow.cells hh (g := g) rfl i (c x) (by simp [hx])
   rw [add_add _ i rfl,Nat.zero_add] at this
   exact this
  ·simp only [World.cell?,hg]
   exact Array.getElem?_eq_getElem (by omega)
theorem OwnC.rd {w : World} {B : Nat} {v : Value} {xs : List α} (h : OwnC c T w B v xs) : RdC c (fun b => B <= b) w v xs := by
 rcases h.cells with ⟨rfl,rfl⟩ | ⟨g,cap,cur,rfl,hb,hlt,_,h1,h2,h3,_⟩
 ·exact RdC.nil _ _
 ·exact ⟨_,cap,rfl,h1,(fun e => by cases e),h2,.inr ⟨g,0,rfl,hb,hlt,fun i x hx => by rw [Nat.zero_add]; exact h3 i x hx⟩⟩
theorem OwnC.slice {w : World} {B : Nat} {v : Value} {xs : List α} (h : OwnC c T w B v xs) : ∃ a n k,v = .slice a n k := by
 rcases h.cells with ⟨rfl,_⟩ | ⟨g,cap,cur,rfl,_⟩
 ·exact ⟨_,_,_,rfl⟩
 ·exact ⟨_,_,_,rfl⟩
theorem OwnC.set {w : World} {B g n cap : Nat} {xs : List α} (h : OwnC c T w B (.slice (some ⟨g,0,none⟩) n cap) xs) (i : Nat) (y : α) : OwnC c T (w.setCell ⟨g,i,none⟩ (c y)) B (.slice (some ⟨g,0,none⟩) n cap) (xs.set i y) := by
 have hn : n = xs.length := by
  rcases h.cells with ⟨e,_⟩ | ⟨g',cap',cur,e,_⟩
  ·cases e
  ·simp only [Value.slice.injEq] at e; exact e.2.1
 subst hn
 have := (World.ownsRow.stored h i (c y)).1
 unfold OwnC
 rw [List.length_set,List.map_set]
 exact this
theorem OwnC.front {w : World} {B n cap : Nat} {p : Option Addr} {xs : List α} (h : OwnC c T w B (.slice p n cap) xs) {k : Nat} (hk : k <= xs.length) (hp : xs ≠ []) : OwnC c T w B (.slice p k cap) (xs.take k) := by
 have hl : (xs.take k).length = k := by simp; omega
 rcases h.2 with ⟨e,hn⟩ | ⟨g,cap',cur,e,hb,hg,h1,h2,h3,h4⟩
 ·exact absurd (List.eq_nil_of_length_eq_zero hn) hp
 ·simp only [Value.slice.injEq] at e
  obtain ⟨rfl,rfl,rfl⟩ := e
  unfold OwnC
  rw [hl]
  refine ⟨by simp; omega,.inr ⟨g,cap,cur,rfl,hb,hg,by omega,h2,h3,?_⟩⟩
  rw [List.map_take,<- h4,List.take_take]
  congr 1
  omega
def Inf1 (T TS : TypeId) (bytes : Nat) (z : Value) : Prop := (Tryz.prog.info? T).map (fun i => (i.zero,i.size,i.bytes)) = some (some z,1,bytes) /\ Tryz.prog.underlying TS = some (.slice T) /\ z.cells.size = 1 /\ bytes <= 1000
theorem wp_appC {TS : TypeId} {bytes : Nat} {z : Value} (hI : Inf1 T TS bytes z) (h1 : ∀ x,(c x).oneCell' = true) {w : World} {ops : Array Oper} {rest : List Oper} {o : Oper} {a : Act} {Q : Exit -> Act -> World -> Prop} (hgd : o.guard = none) (s x : Operand)
  (ho : o.op = .call { callee := .builtin .append,args := #[s,x],argTypes := #[TS,TS] })
  (B : Nat) (v : Value) (xs : List α) (hs : a.eval s = v) (hown : OwnC c T w B v xs) (ok : Nat -> Prop) (v2 : Value) (ys : List α) (hx : a.eval x = v2) (hy : RdC c ok w v2 ys)
  (hb : xs.length + ys.length <= 1000000) (hbase : B <= w.heap.size)
  (h : ∀ v' w',OwnC c T w' B v' (xs ++ ys) -> w.grownBy w' v.ownBlock -> (v'.ownBlock = v.ownBlock ∨ v'.ownBlock = some w.heap.size) -> wpList Tryz.prog ops Q rest (a.put o.dst v') w') :
  wpList Tryz.prog ops Q (o :: rest) a w := by
 obtain ⟨hi1,hu,hz,hbb⟩ := hI
 obtain ⟨i0,hi,hz0,hz1,hz2⟩ := info_parts hi1
 have h1' : ∀ zs : List α,∀ u ∈ zs.map c,u.oneCell' = true := fun zs u hu => by
  obtain ⟨y,_,rfl⟩ := List.mem_map.1 hu
  exact h1 y
 obtain ⟨p,cap,e2,hle,hnone,_,hcs⟩ := hy
 subst e2
 cases p with
 | none =>
  have hc0 := hnone rfl
  have hl0 : ys.length = 0 := by omega
  have hm : ys = [] := List.eq_nil_of_length_eq_zero hl0
  subst hm
  subst hc0
  refine wpList_append_own_none hgd s x TS ho B T i0 1 hu hi v xs.length (xs.map c) hs hown hx ?_
  exact h v w (by rw [List.append_nil]; exact hown) ⟨rfl,rfl,rfl,Nat.le_refl _,fun _ _ _ => rfl⟩ (.inl rfl)
 | some ad =>
  refine wpList_append_own_at w hgd s x TS ho B T i0 z 1 bytes hu hi hz0 hz1 hz2 hz (by decide) v xs.length (xs.map c) hs hown ad ys.length cap (ys.map c) hx (by simp) ?_ (h1' ys) (by unfold maxLen; omega) ?_ hbase ?_
  ·intro j u hj
   rw [List.getElem?_map,Option.map_eq_some_iff] at hj
   obtain ⟨y,hy1,rfl⟩ := hj
   rcases hcs with rfl | ⟨b,off,e,_,_,hc⟩
   ·simp at hy1
   ·cases e
    rw [add_add _ j rfl]
    exact hc j y hy1
  ·have := Nat.mul_le_mul hb hbb
   omega
  ·intro v' w' g1 g2 _ g4
   refine h v' w' ?_ g2 g4
   unfold OwnC
   rw [List.length_append,List.map_append]
   exact g1
theorem rd_one {w : World} {b : Nat} {u : Value} {x : α} {fr : Nat × Nat} (h : w.heap[b]? = some (.cells #[u] T fr)) (hu : u = c x) : RdC c (fun _ => True) w (.slice (some ⟨b,0,none⟩) 1 1) [x] := by
 subst hu
 refine ⟨_,1,rfl,Nat.le_refl _,(fun e => by cases e),by unfold maxLen; omega,.inr ⟨b,0,rfl,trivial,(Array.getElem?_eq_some_iff.1 h).1,fun i y hy => ?_⟩⟩
 cases i with
 | zero =>
  simp only [List.getElem?_cons_zero,Option.some.injEq] at hy
  subst hy
  simp [World.cell?,h]
 | succ i => simp at hy
end
theorem run_mapHint (t k e : TypeId) (ht : Tryz.prog.underlying t = some (.map k e)) (n : Int) (w : World) : (Instr.makeMap t (some (.int .i64 n))).run Tryz.prog w = .ok (.map (some w.heap.size)) (w.alloc (.map #[] 0)) := by
 simp [Instr.makeMap,run_underlying ht,asInt,asIntOf,newObj,Sem.run,Result.andThen]
structure El {α : Type} (tk : TypeId) (c : α -> Value) (q : α -> Lit) (ok : α -> Prop) : Prop where
 law : Keyed Tryz.prog tk
 key : ∀ {x},ok x -> keyOf Tryz.prog tk (c x) = some (q x)
 inv : ∀ {v kl},keyOf Tryz.prog tk v = some kl -> ∃ x,v = c x /\ kl = q x /\ ok x
 inj : ∀ {x y},q x = q y -> x = y
 isKey : ∀ x,WideAt.IsKeyLit (q x)
 one : ∀ x,(c x).oneCell' = true
section
variable {α : Type} [DecidableEq α] {tk tm : TypeId} {c : α -> Value} {q : α -> Lit} {ok : α -> Prop}
def SetD (q : α -> Lit) (ok : α -> Prop) (D : DataW Unit) (L : List α) : Prop := (∀ x,Maps.has D (q x) = decide (x ∈ L)) /\ Maps.size D = L.length /\ L.Nodup /\ ∀ x ∈ L,ok x
theorem SetD.put (E : El tk c q ok) {D : DataW Unit} {L : List α} (h : SetD q ok D L) (hD : Tidy D) {x : α} (hx : x ∉ L) (hk : ok x) (d : DataW Unit) : SetD q ok (D.put (q x) d) (L ++ [x]) := by
 obtain ⟨h1,h2,h3,h4⟩ := h
 refine ⟨fun y => ?_,?_,?_,?_⟩
 ·by_cases e : y = x
  ·subst e
   rw [has_put_same hD.isMap (E.isKey y)]
   simp
  ·rw [has_put_other (fun h => e (E.inj h)),h1]
   simp [e]
 ·rw [size_put hD,h1,h2]
  simp [hx]
 ·rw [List.nodup_append]
  exact ⟨h3,by simp,fun y hy z hz e => hx (by rw [List.mem_singleton.1 hz] at e; rw [<- e]; exact hy)⟩
 ·intro y hy
  rcases List.mem_append.1 hy with hy | hy
  ·exact h4 y hy
  ·rw [List.mem_singleton.1 hy]; exact hk
def Mq (tk : TypeId) (q : α -> Lit) (ok : α -> Prop) (w : World) (b : Nat) (L : List α) : Prop := ∃ D : DataW Unit,w.ownsMap Tryz.prog tk unitElem b L.length D /\ SetD q ok D L
theorem Mq.made (w : World) : Mq tk q ok (w.alloc (.map #[] 0)) w.heap.size ([] : List α) := ⟨_,World.ownsMap_made _ _ _ _,fun _ => rfl,rfl,List.nodup_nil,fun x hx => by cases hx⟩
theorem Mq.map {w : World} {b : Nat} {L : List α} (h : Mq tk q ok w b L) : ∃ es k,w.heap[b]? = some (.map es k) := by
 obtain ⟨D,⟨es,k,hb,_⟩,_⟩ := h
 exact ⟨es,k,hb⟩
theorem Mq.kpt {w w' : World} {b : Nat} {L : List α} {S : List Nat} (h : Mq tk q ok w b L) (hk : Kpt S w w') (hS : b ∉ S) : Mq tk q ok w' b L := by
 obtain ⟨D,⟨es,k,hb,hr⟩,h2⟩ := h
 exact ⟨D,⟨es,k,hk.block hb hS,hr⟩,h2⟩
theorem wp_lookQ (E : El tk c q ok) {te : TypeId} (ht : Tryz.prog.underlying tm = some (.map tk te)) {w : World} (hz : (zeroValue te).run Tryz.prog w = .ok (.agg #[]) w) {ops : Array Oper} {rest : List Oper} {o : Oper} {a : Act} {Q : Exit -> Act -> World -> Prop} (hg : o.guard = none) (m x : Operand) (hop : o.op = Op.lookup tm m x true)
  (b : Nat) (L : List α) (hm : a.eval m = .map (some b)) (h : Mq tk q ok w b L) (s : α) (hs : ok s) (hx : a.eval x = c s) (r : Bool) (hr : hasB L s = r)
  (hK : wpList Tryz.prog ops Q rest (a.put o.dst (.tuple #[.agg #[],.bool r])) w) :
  wpList Tryz.prog ops Q (o :: rest) a w := by
 obtain ⟨D,h1,h2,_⟩ := h
 refine wpList_lookup_own_unit w hg m x _ hop tk te E.law ht hz b _ D hm h1 _ (q s) hx (E.key hs) ?_
 rw [h2,show decide (s ∈ L) = r from hr]
 exact hK
theorem wp_storeQ (E : El tk c q ok) {te : TypeId} (ht : Tryz.prog.underlying tm = some (.map tk te)) {w : World} {ops : Array Oper} {rest : List Oper} {o : Oper} {a : Act} {Q : Exit -> Act -> World -> Prop} (hg : o.guard = none) (m x v : Operand) (hop : o.op = Op.mapUpdate tm m x v)
  (b : Nat) (L : List α) (hm : a.eval m = .map (some b)) (h : Mq tk q ok w b L) (s : α) (hs : ok s) (hx : a.eval x = c s) (hv : a.eval v = .agg #[]) (hn : s ∉ L) (hl : L.length <= 1000000)
  (hK : ∀ w',Mq tk q ok w' b (L ++ [s]) -> w.grownBy w' (some b) -> wpList Tryz.prog ops Q rest (a.put o.dst undef) w') :
  wpList Tryz.prog ops Q (o :: rest) a w := by
 obtain ⟨D,h1,h2⟩ := h
 refine wpList_mapUpdate_own w hg m x v _ hop tk te E.law ht unitElem b L.length D hm h1 (by unfold maxLen; omega) _ _ (q s) hx hv (E.key hs) (.agg []) [] unitElem_mk ?_
 intro w' hown hg
 refine hK w' ⟨D.put (q s) (.agg []),?_,h2.put E (h1.tidy E.law) hn hs _⟩ hg
 rw [List.length_append]
 exact hown
def Rg (tk : TypeId) (q : α -> Lit) (ok : α -> Prop) (w : World) (b r : Nat) (L R : List α) (n : Nat) : Prop := ∃ (D : DataW Unit) (left : Lit -> Bool),w.ranges Tryz.prog tk unitElem b r L.length D left n /\ SetD q ok D L /\
 R.Nodup /\ (∀ x ∈ R,x ∈ L) /\ (∀ x,left (q x) = decide (x ∈ L /\ x ∉ R)) /\ ∀ kl,left kl = true -> ∃ x,kl = q x
theorem Rg.lt {w : World} {b r n : Nat} {L R : List α} (h : Rg tk q ok w b r L R n) : r < w.heap.size := by
 obtain ⟨D,left,h1,_⟩ := h
 exact h1.lt
def St (tS tk : TypeId) (q : α -> Lit) (ok : α -> Prop) (w : World) (B sb mb : Nat) (L : List α) : Prop :=
 B <= sb /\ B <= mb /\ w.heap[sb]? = some (.cells #[.map (some mb),.slice none 0 0] tS (0,0)) /\ Mq tk q ok w mb L
variable {tS : TypeId}
theorem St.lt {w : World} {B sb mb : Nat} {L : List α} (h : St tS tk q ok w B sb mb L) : sb < w.heap.size /\ mb < w.heap.size /\ sb ≠ mb := by
 obtain ⟨_,_,h1,h2⟩ := h
 obtain ⟨es,k,h3⟩ := h2.map
 refine ⟨(Array.getElem?_eq_some_iff.1 h1).1,(Array.getElem?_eq_some_iff.1 h3).1,?_⟩
 rintro rfl
 rw [h1] at h3
 cases h3
theorem St.kpt {w w' : World} {B sb mb : Nat} {L : List α} {S : List Nat} (h : St tS tk q ok w B sb mb L) (hk : Kpt S w w') (h1 : sb ∉ S) (h2 : mb ∉ S) : St tS tk q ok w' B sb mb L :=
 ⟨h.1,h.2.1,hk.block h.2.2.1 h1,h.2.2.2.kpt hk h2⟩
theorem St.mono {w : World} {B B' sb mb : Nat} {L : List α} (h : St tS tk q ok w B sb mb L) (hB : B' <= B) : St tS tk q ok w B' sb mb L := ⟨Nat.le_trans hB h.1,Nat.le_trans hB h.2.1,h.2.2⟩
theorem St.cells {w : World} {B sb mb : Nat} {L : List α} (h : St tS tk q ok w B sb mb L) : w.cell? ⟨sb,0,none⟩ = some (.map (some mb)) /\ w.cell? ⟨sb,1,none⟩ = some (.slice none 0 0) /\ w.frozen? ⟨sb,1,none⟩ = false := by
 obtain ⟨_,_,h1,_⟩ := h
 refine ⟨?_,?_,?_⟩
 ·simp [World.cell?,h1]
 ·simp [World.cell?,h1]
 ·simp [World.frozen?,h1]
theorem St.bel {w w' : World} {B sb mb : Nat} {L : List α} (h : St tS tk q ok w B sb mb L) (hb : Below w.heap.size w w') : St tS tk q ok w' B sb mb L := h.kpt (.of_below (S := []) hb) (by simp) (by simp)
end
end Go.Proofs.YtpkjlgdbaajpoaaGreat.S
namespace Go.Proofs.YtpkjlgdbaajpoaaGreat.S
open Go.RowKit Go.Maps
abbrev cS (x : ByteArray) : Value := .string x
def qS (x : ByteArray) : Lit := .string x.data.toList
def okI (x : Int) : Prop := (Lit.int .i64 x).wf = true
def okS (x : ByteArray) : Prop := x.size <= maxLen
theorem keyOf_string_inv {P : Program} {k : TypeId} (hk : P.underlying k = some .string) {key : Value} {kl : Lit} (h : keyOf P k key = some kl) : ∃ x : ByteArray,key = .string x /\ kl = .string x.data.toList /\ x.size <= maxLen := by
 cases key <;> simp [keyOf,hk,mapKey] at h
 rename_i s
 exact ⟨s,rfl,h.2.symm,h.1⟩
theorem qS_inj {a b : ByteArray} (h : qS a = qS b) : a = b := by
 unfold qS at h
 simp only [Lit.string.injEq] at h
 obtain ⟨a⟩ := a
 obtain ⟨b⟩ := b
 simp only at h
 rw [Array.toList_inj.1 h]
theorem elS : El 9 cS qS okS where
 law := string_keyed Tryz.underlying9
 key h := WideMaps.keyOf_string_mk Tryz.underlying9 h
 inv h := by
  obtain ⟨x,h1,h2,h3⟩ := keyOf_string_inv Tryz.underlying9 h
  exact ⟨x,h1,h2,h3⟩
 inj h := qS_inj h
 isKey x := by unfold qS WideAt.IsKeyLit; trivial
 one _ := rfl
theorem txt_inj {a b : ByteArray} (h : a.toList = b.toList) : a = b := by
 rw [ByteArray.toList_eq,ByteArray.toList_eq] at h
 obtain ⟨⟨a⟩⟩ := a
 obtain ⟨⟨b⟩⟩ := b
 rw [show a = b from h]
theorem txt_ne {a b : ByteArray} (h : a ≠ b) : (a.toList == b.toList) = false := by rw [beq_eq_false_iff_ne]; exact fun e => h (txt_inj e)
theorem txt_eq {a b : ByteArray} (h : a = b) : (a.toList == b.toList) = true := by rw [h]; simp
theorem ret_bool {a b : Bool} (h : a = b) : Ending.returned (.bool a) = .returned (.bool b) := by rw [h]
theorem zero0 (w : World) : (zeroValue 171).run Tryz.prog w = .ok (.agg #[]) w := by kernel_rfl
theorem infS : Inf1 9 71 16 (.string ⟨#[]⟩) := ⟨by kernel_rfl,Tryz.underlying71,rfl,by decide⟩
theorem odd_S (x : ByteArray) (w : World) : Calls Tryz.prog 127 #[.string x] w fun e w' => e = .returned (.bool false) /\ w = w' := by
 go_enter Tryz.func127,Tryz.ntmps127
 go_wp2
 go_ret
 exact ⟨by simp,rfl⟩
end Go.Proofs.YtpkjlgdbaajpoaaGreat.S
namespace Go.Proofs.YtpkjlgdbaajpoaaGreat.S
open Go.RowKit Go.Maps
abbrev StS (w : World) (B sb mb : Nat) (L : List ByteArray) : Prop := St 168 9 qS okS w B sb mb L
theorem has_S (B sb mb : Nat) (L : List ByteArray) (x : ByteArray) (w : World) (h : StS w B sb mb L) (hx : okS x) :
  Calls Tryz.prog 109 #[.pointer (some ⟨sb,0,none⟩),.string x] w fun e w' => e = .returned (.bool (hasB L x)) /\ Below w.heap.size w w' := by
 obtain ⟨c0,c1,f1⟩ := h.cells
 obtain ⟨hlt,_,_⟩ := h.lt
 have hm := h.2.2.2
 obtain ⟨r,hr⟩ : ∃ r,hasB L x = r := ⟨_,rfl⟩
 go_enter Tryz.func109,Tryz.ntmps109
 go_wp2_with first | (go_at_call 127; refine (odd_S _ _).mono ?_; rintro e w' ⟨rfl,rfl⟩) | (at_lookup; refine wp_lookQ elS Tryz.underlying166 (zero0 _) rfl _ _ rfl mb L rfl hm x hx rfl r hr ?_)
 go_ret
 exact ⟨by rw [hr]; rfl,(Below.refl _ w).alloc (Nat.le_refl _) _⟩
theorem add_S (B sb mb : Nat) (L : List ByteArray) (x : ByteArray) (w : World) (h : StS w B sb mb L) (hx : okS x) (hl : L.length <= 100000) :
  Calls Tryz.prog 125 #[.pointer (some ⟨sb,0,none⟩),.string x] w fun e w' => e = .returned (.bool (!hasB L x)) /\ StS w' B sb mb (addS L x) /\ Kpt [mb] w w' := by
 by_cases hin : x ∈ L
 ·have hr := hasB_in hin
  go_enter Tryz.func125,Tryz.ntmps125
  go_wp2_with fail
  refine (has_S B sb mb L x w h hx).mono ?_
  rintro e w1 ⟨rfl,hb⟩
  rw [hr]
  go_wp2
  go_ret
  exact ⟨by rw [hr]; rfl,by rw [addS_in hin]; exact h.bel hb,.of_below hb⟩
 ·have hr := hasB_out hin
  go_enter Tryz.func125,Tryz.ntmps125
  go_wp2_with fail
  refine (has_S B sb mb L x w h hx).mono ?_
  rintro e w1 ⟨rfl,hb⟩
  rw [hr]
  have h1 : StS w1 B sb mb L := h.bel hb
  have HB := hid hb
  clear hb
  obtain ⟨c0,c1,f1⟩ := h1.cells
  obtain ⟨hlt,_,hne⟩ := h1.lt
  have hm := h1.2.2.2
  go_wp2_with first | (go_at_call 127; refine (odd_S _ _).mono ?_; rintro e w' ⟨rfl,rfl⟩) | (at_mapUpdate; refine wp_storeQ elS Tryz.underlying166 rfl _ _ _ rfl mb L rfl hm x hx rfl rfl hin (by omega) ?_)
  intro w2 hm2 hg
  have HM := hid hm2
  have HG := hid hg
  clear hm2 hg
  go_wp2
  go_ret
  have k2 : Kpt [mb] w1 w2 := .of_grown HG.out (fun g e => by cases e; exact .inl (by simp))
  exact ⟨by rw [hr]; rfl,by rw [addS_out hin]; exact ⟨h1.1,h1.2.1,k2.block h1.2.2.1 (by simpa using hne),HM.out⟩,Kpt.trans (.of_below HB.out) k2 (fun y hy => .inl hy)⟩
theorem new_S (v : Value) (xs : List ByteArray) (ok : Nat -> Prop) (w : World) (hr : RdC cS ok w v xs) (hx : ∀ x ∈ xs,okS x) (hl : xs.length <= 100000) :
  Calls Tryz.prog 107 #[v] w fun e w' => ∃ sb mb,e = .returned (.pointer (some ⟨sb,0,none⟩)) /\ StS w' w.heap.size sb mb (onceL xs) /\ Below w.heap.size w w' := by
 obtain ⟨p,cap,rfl,h1,h2⟩ := hr.form
 have hmm := run_mapHint _ _ _ Tryz.underlying166 xs.length
 unfold maxLen at h2
 go_enter Tryz.func107,Tryz.ntmps107
 go_wp2
 have hal := heap_alloc_new (w.alloc (.map #[] 0)) (.cells #[.map (some w.heap.size),.slice none 0 0] 168)
 rw [World.size_alloc] at hal
 have H0 : StS ((w.alloc (.map #[] 0)).alloc (.cells #[.map (some w.heap.size),.slice none 0 0] 168)) w.heap.size (w.heap.size + 1) w.heap.size [] := ⟨by omega,by omega,hal,(Mq.made w).kpt (Kpt.alloc [] _ _) (by simp)⟩
 obtain ⟨w0,hw0⟩ : ∃ x,x = (w.alloc (.map #[] 0)).alloc (.cells #[.map (some w.heap.size),.slice none 0 0] 168) := ⟨_,rfl⟩
 rw [<- hw0] at H0 ⊢
 have HB : Hid (Below w.heap.size w w0) := hid (by rw [hw0]; exact ((Below.refl _ w).alloc (Nat.le_refl _) _).alloc (by simp) _)
 have HR := hid hr
 have H1 := hid H0
 clear H0 hw0 hal hmm hr
 go_loopw [13] (fun v wr => ∃ i : Nat,v = .int .i64 (i : Int) /\ i <= xs.length /\ Hid (StS wr w.heap.size (w.heap.size + 1) w.heap.size (onceL (xs.take i))) /\ Hid (Below w.heap.size w wr)) (fun v _ => xs.length - (intOf v).toNat)
 case atStart => exact ⟨0,rfl,by omega,H1,HB⟩
 case round =>
  clear H1 HB
  obtain ⟨i,rfl,hi,H1,HB⟩ := hrel
  by_cases hlt : i < xs.length
  ·have hlt' : (i : Int) < (xs.length : Int) := by omega
   have hne : xs ≠ [] := by rintro rfl; simp at hlt
   obtain ⟨b,off,rfl,hb,hbl,hc⟩ := HR.out.at hne
   have ci : wr.cell? ⟨b,off + i,none⟩ = some (.string xs[i]) := (HB.out.cell hbl).trans (hc i _ (List.getElem?_eq_getElem hlt))
   have hox := hx _ (List.getElem_mem hlt)
   have HT := hid (once_take hlt)
   obtain ⟨x,hxx⟩ : ∃ x,xs[i] = x := ⟨_,rfl⟩
   rw [hxx] at ci hox HT
   clear hc hxx
   go_wp2_with fail
   refine (add_S _ _ _ _ x wr H1.out hox (by have := onceL_len (xs.take i); rw [List.length_take] at this; omega)).mono ?_
   rintro e w2 ⟨rfl,hs2,hk2⟩
   have HS := hid hs2
   have HK := hid hk2
   clear hs2 hk2 H1 ci
   go_wp2_with fail
   go_roundw
   case rel => exact ⟨i + 1,by go_num,by omega,by rw [HT.out]; exact HS,hid (HB.out.trans (HK.out.below (fun y hy => by rw [List.mem_singleton.1 hy]; exact Nat.le_refl _) HB.out.size))⟩
   case measure => simp [intOf]; omega
  ·obtain rfl : i = xs.length := by omega
   rw [List.take_length] at H1
   clear hlt hi
   go_wp2
   go_ret
   exact ⟨_,_,rfl,H1.out,HB.out⟩
end Go.Proofs.YtpkjlgdbaajpoaaGreat.S
namespace Go.Proofs.YtpkjlgdbaajpoaaGreat.R
open Go.RowKit Go.Proofs.YtpkjlgdbaajpoaaGreat.D Go.Proofs.YtpkjlgdbaajpoaaGreat.O Go.Proofs.YtpkjlgdbaajpoaaGreat.A
def ChI (B sb mb : Nat) (v : Value) (L l : List ByteArray) (w0 w : World) : Prop :=
 Below B w0 w /\ B <= w.heap.size /\ S.StS w B sb mb L /\ S.OwnC S.cS 9 w B v l /\ v.ownBlock ≠ some sb /\ v.ownBlock ≠ some mb
theorem ChI.bel {B sb mb : Nat} {v : Value} {L l : List ByteArray} {w0 w w' : World} (h : ChI B sb mb v L l w0 w) (hb : Below w.heap.size w w') : ChI B sb mb v L l w0 w' := by
 obtain ⟨h1,h2,h3,h4,h5,h6⟩ := h
 exact ⟨h1.trans (hb.mono h2),Nat.le_trans h2 hb.size,h3.bel hb,h4.kpt (S.Kpt.of_below (S := []) hb) (by simp),h5,h6⟩
theorem ChI.add {B sb mb : Nat} {v : Value} {L L' l : List ByteArray} {w0 w w' : World} (h : ChI B sb mb v L l w0 w) (hs : S.StS w' B sb mb L') (hk : S.Kpt [mb] w w') : ChI B sb mb v L' l w0 w' := by
 obtain ⟨h1,h2,h3,h4,h5,h6⟩ := h
 exact ⟨h1.trans (hk.below (fun x hx => by rw [List.mem_singleton.1 hx]; exact h3.2.1) h2),Nat.le_trans h2 hk.size,hs,h4.kpt hk (fun g e => by rw [e] at h6; simpa using h6),h5,h6⟩
theorem ChI.app {B sb mb : Nat} {v v' : Value} {L l l' : List ByteArray} {w0 w w' : World} (h : ChI B sb mb v L l w0 w) (ho : S.OwnC S.cS 9 w' B v' l') (hg : w.grownBy w' v.ownBlock) (hl : v'.ownBlock = v.ownBlock ∨ v'.ownBlock = some w.heap.size) : ChI B sb mb v' L l' w0 w' := by
 obtain ⟨h1,h2,h3,h4,h5,h6⟩ := h
 have k : S.Kpt v.ownBlock.toList w w' := .of_grown hg (fun g e => .inl (by rw [e]; simp))
 obtain ⟨l1,l2,_⟩ := h3.lt
 refine ⟨h1.trans (k.below (fun x hx => ?_) h2),Nat.le_trans h2 k.size,h3.kpt k (by simpa using h5) (by simpa using h6),ho,?_,?_⟩
 ·have : v.ownBlock = some x := by simpa using hx
  exact (h4.lt x this).1
 ·rcases hl with e | e
  ·rw [e]; exact h5
  ·rw [e]; simp only [ne_eq,Option.some.injEq]; omega
 ·rcases hl with e | e
  ·rw [e]; exact h6
  ·rw [e]; simp only [ne_eq,Option.some.injEq]; omega
theorem chain_t (ok : Nat -> Prop) (tb mt : Nat) (vs : Value) (K : List Cls) (n : ByteArray) (w : World) (h : TrW w ok tb mt vs K) (hn : n.size <= maxLen) :
  Calls Tryz.prog 126 #[.pointer (some ⟨tb,0,none⟩),.string n] w fun e w' => ∃ p c,e = .returned (.tuple #[.slice p (chainT (K.map skOf) n).1.length c,.bool (chainT (K.map skOf) n).2]) /\ S.OwnC S.cS 9 w' w.heap.size (.slice p (chainT (K.map skOf) n).1.length c) (chainT (K.map skOf) n).1 /\ Below w.heap.size w w' := by
 obtain ⟨R,hR⟩ : ∃ x,chainT (K.map skOf) n = x := ⟨_,rfl⟩
 obtain ⟨T,hT⟩ : ∃ x,K.map skOf = x := ⟨_,rfl⟩
 have HT := hid h
 have HS : Hid (SzT T) := hid (by rw [<- hT]; exact h.2.2.2.2.2)
 have HR : Hid (chainF T (T.length + 8) [] n = R) := hid (by rw [<- hT]; exact hR)
 have HTT := hid hT
 have hTl := HS.out.1
 rw [hR]
 clear h hR hT
 go_enter Tryz.func126,Tryz.ntmps126
 go_wp2_with fail
 refine (S.new_S (.slice none 0 0) [] (fun _ => True) w (S.RdC.nil _ _) (fun x hx => by cases hx) (by simp)).mono ?_
 rintro e w1 ⟨sb,mb,rfl,hs,hb⟩
 have H1 : Hid (ChI w.heap.size sb mb (.slice none 0 0) [] [] w w1) := hid ⟨hb,hb.size,hs,S.OwnC.nil _ _,by simp [Value.ownBlock],by simp [Value.ownBlock]⟩
 clear hs hb
 go_wp2_with fail
 go_loopg [1,6] (T.length + 8) (fun g x v wr => ∃ (m : ByteArray) (l : List ByteArray),x = .string m /\ m.size <= maxLen /\ l.length + g = T.length + 8 /\ Hid (Kn T l) /\ Hid (chainF T g l m = R) /\ Hid (ChI w.heap.size sb mb v l l w wr))
 case atStart => exact ⟨n,[],rfl,hn,by simp,hid (Kn.nil T),HR,H1⟩
 case round =>
  clear H1 HR hn
  obtain ⟨m,l,rfl,hm,hlg,HKn,HF,HI⟩ := hrel
  obtain ⟨pv,kv,hv,-⟩ := HI.out.2.2.2.1.rd.form
  have HV := hid hv
  clear hv
  cases hk : knownT T m with
  | false =>
   have HE : Hid (R = (l,S.hasB l m)) := hid (by rw [<- HF.out]; exact chain_stop (.inl hk))
   go_wp2_with fail
   refine (known_t ok tb mt vs K m wr (HT.out.below HI.out.1) hm).mono ?_
   rintro e w2 ⟨rfl,hb2⟩
   rw [HTT.out,hk]
   have HI2 := hid (HI.out.bel hb2)
   clear hb2 HI hk
   go_wp2_with fail
   refine (S.has_S w.heap.size sb mb l m w2 HI2.out.2.2.1 hm).mono ?_
   rintro e w3 ⟨rfl,hb3⟩
   have HI3 := hid (HI2.out.bel hb3)
   clear hb3 HI2
   go_wp2_with fail
   go_ret2
   obtain rfl := HV.out
   rw [HE.out]
   exact ⟨_,_,rfl,HI3.out.2.2.2.1,HI3.out.1⟩
  | true =>
   cases hn : S.hasB l m with
   | true =>
    have HE : Hid (R = (l,true)) := hid (by rw [<- HF.out,<- hn]; exact chain_stop (.inr hn))
    have hlen := HKn.out.len
    go_wp2_with fail
    refine (known_t ok tb mt vs K m wr (HT.out.below HI.out.1) hm).mono ?_
    rintro e w2 ⟨rfl,hb2⟩
    rw [HTT.out,hk]
    have HI2 := hid (HI.out.bel hb2)
    clear hb2 HI hk
    go_wp2_with fail
    refine (S.add_S w.heap.size sb mb l m w2 HI2.out.2.2.1 hm (by omega)).mono ?_
    rintro e w3 ⟨rfl,hs3,hk3⟩
    rw [hn]
    have HI3 := hid (HI2.out.add hs3 hk3)
    rw [S.addS_in (S.hasB_iff.1 hn)] at HI3
    clear hs3 hk3 HI2
    go_wp2_with fail
    refine (S.has_S w.heap.size sb mb l m w3 HI3.out.2.2.1 hm).mono ?_
    rintro e w4 ⟨rfl,hb4⟩
    have HI4 := hid (HI3.out.bel hb4)
    clear hb4 HI3
    go_wp2_with fail
    go_ret2
    obtain rfl := HV.out
    rw [HE.out]
    exact ⟨_,_,rfl,HI4.out.2.2.2.1,HI4.out.1⟩
   | false =>
    have hml : m ∉ l := fun hh => by rw [S.hasB_in hh] at hn; cases hn
    have hkn := HKn.out.snoc hk hml
    have hlen := hkn.len
    rw [List.length_append] at hlen
    simp only [List.length_cons,List.length_nil,Nat.zero_add] at hlen
    obtain ⟨g',rfl⟩ : ∃ g',gk = g' + 1 := ⟨gk - 1,by omega⟩
    have HF2 : Hid (chainF T g' (l ++ [m]) (superT T m) = R) := hid (by rw [<- HF.out]; exact (chain_next hk hn).symm)
    have HKn2 := hid hkn
    have hms := HS.out.super m
    clear hkn HF HKn
    go_wp2_with fail
    refine (known_t ok tb mt vs K m wr (HT.out.below HI.out.1) hm).mono ?_
    rintro e w2 ⟨rfl,hb2⟩
    rw [HTT.out,hk]
    have HI2 := hid (HI.out.bel hb2)
    clear hb2 HI hk
    go_wp2_with fail
    refine (S.add_S w.heap.size sb mb l m w2 HI2.out.2.2.1 hm (by omega)).mono ?_
    rintro e w3 ⟨rfl,hs3,hk3⟩
    rw [hn]
    have HI3 := HI2.out.add hs3 hk3
    rw [S.addS_out hml] at HI3
    have HI4 := hid (HI3.bel (below_alR w3 (.cells #[.string m] 9)))
    have hb4 := HI4.out.2.1
    have HX := hid (S.rd_one (c := S.cS) (x := m) (heap_alloc_new w3 (.cells #[.string m] 9)) rfl)
    have HO := hid HI4.out.2.2.2.1
    clear hs3 hk3 HI2 HI3 hn hml
    dsimp only [S.cS] at *
    go_wp2_with (at_builtin; refine S.wp_appC S.infS (fun _ => rfl) rfl _ _ rfl w.heap.size _ l rfl HO.out (fun _ => True) _ [m] rfl HX.out (by simp; omega) hb4 ?_)
    intro v6 w6 ho6 hg6 hl6
    have HI6 := hid (HI4.out.app ho6 hg6 (by simpa using hl6))
    clear ho6 hg6 hl6 HI4 HX HO hb4
    go_wp2_with fail
    refine (super_t ok tb mt vs K m w6 (HT.out.below HI6.out.1) hm).mono ?_
    rintro e w7 ⟨rfl,hb7⟩
    rw [HTT.out]
    have HI7 := hid (HI6.out.bel hb7)
    clear hb7 HI6
    go_wp2_with fail
    go_roundg g'
    case measure => omega
    case rel => exact ⟨superT T m,l ++ [m],rfl,hms,by simp; omega,HKn2,HF2,HI7⟩
end Go.Proofs.YtpkjlgdbaajpoaaGreat.R
