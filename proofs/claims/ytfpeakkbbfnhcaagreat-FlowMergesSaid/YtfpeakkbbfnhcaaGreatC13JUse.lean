/- Texts that the proof is made of, joined. No condition. -/
import Derived.Test.YtfpeakkbbfnhcaaGreatC13JLat
set_option linter.unusedVariables false
set_option linter.unusedSimpArgs false
set_option maxRecDepth 100000
set_option maxHeartbeats 16000000
namespace Go.Proofs.YtfpeakkbbfnhcaaGreat.R
open Go.RowKit Go.Proofs.YtfpeakkbbfnhcaaGreat.D Go.Proofs.YtfpeakkbbfnhcaaGreat.O Go.Proofs.YtfpeakkbbfnhcaaGreat.A
def TyB (W : World) (p : Nat × Ty) : Prop := W.heap[p.1]? = some (.cells #[.int .i64 p.2.1,.string p.2.2] 45 (0,0))
def StJ (w W : World) (ok : Nat -> Prop) (tb mt : Nat) (vs : Value) (K : List Cls) (L : List (Nat × Ty)) : Prop := TrW W ok tb mt vs K /\ (∀ p ∈ L,TyB W p) /\ Below w.heap.size w W
theorem StJ.below {w W W' : World} {ok : Nat -> Prop} {tb mt : Nat} {vs : Value} {K : List Cls} {L : List (Nat × Ty)} (h : StJ w W ok tb mt vs K L) (hb : Below W.heap.size W W') : StJ w W' ok tb mt vs K L :=
 ⟨h.1.below hb,fun p hp => (hb.block _ (Array.getElem?_eq_some_iff.1 (h.2.1 p hp)).1).trans (h.2.1 p hp),h.2.2.trans (hb.mono h.2.2.size)⟩
theorem StJ.cell {w W : World} {ok : Nat -> Prop} {tb mt : Nat} {vs : Value} {K : List Cls} {L : List (Nat × Ty)} (h : StJ w W ok tb mt vs K L) {g : Nat} {a : Ty} (hp : (g,a) ∈ L) : g < W.heap.size /\ W.cell? ⟨g,0,none⟩ = some (.int .i64 a.1) /\ W.cell? ⟨g,1,none⟩ = some (.string a.2) := by
 have hx : W.heap[g]? = _ := h.2.1 _ hp
 exact ⟨(Array.getElem?_eq_some_iff.1 hx).1,by simp [World.cell?,hx],by simp [World.cell?,hx]⟩
end Go.Proofs.YtfpeakkbbfnhcaaGreat.R
