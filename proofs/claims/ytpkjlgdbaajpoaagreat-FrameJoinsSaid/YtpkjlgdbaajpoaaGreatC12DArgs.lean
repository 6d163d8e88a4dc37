/- Texts that the proof is made of, joined. No condition. -/
import Derived.Test.YtpkjlgdbaajpoaaGreatC120
import Derived.OpenShut
import Derived.Below
set_option linter.unusedVariables false
set_option linter.unusedSimpArgs false
set_option maxRecDepth 100000
set_option maxHeartbeats 16000000
namespace Go.Proofs.YtpkjlgdbaajpoaaGreat.D
open Go.RowKit
def IsRow (k : IntKind) (w : World) (a : Option Addr) (len cap : Nat) (zs : List Int) : Prop :=
 (a = none /\ len = 0 /\ cap = 0 /\ zs = []) ∨
 ∃ x,a = some x /\ len <= cap /\ cap <= maxLen /\ zs.length = cap /\ (∀ i,i < zs.length -> w.cell? (x.add i) = some (.int k (zs.getD i 0))) /\ ∀ n ∈ zs,(Lit.int k n).wf = true
theorem add_add (x : Addr) (i : Nat) (h : x.spot = none) : x.add i = ⟨x.block,x.off + i,none⟩ := by
 obtain ⟨b,o,s⟩ := x
 simp only at h
 subst h
 unfold Addr.add
 split <;> simp_all
theorem spot_of_cell {w : World} {x : Addr} {v : Value} (h : w.cell? x = some v) : x.spot = none := by
 cases hs : x.spot with
 | none => rfl
 | some j =>
  unfold World.cell? at h
  rw [hs] at h
  split at h <;> simp at h
theorem wf_u8 {n : Int} (h : (Lit.int .u8 n).wf = true) : 0 <= n /\ n <= 255 := bounds_u8 h
def RdB (w : World) (v : Value) (zs : List Int) : Prop :=
 ∃ (p : Option Addr) (cap : Nat),v = .slice p zs.length cap /\ zs.length <= cap /\ (∀ a,p = some a -> zs ≠ [] -> a.spot = none) /\ (p = none -> zs = []) /\
  (∀ (i : Nat) x,zs[i]? = some x -> 0 <= x /\ x <= 255) /\
  ∀ a,p = some a -> ∀ (i : Nat) x,zs[i]? = some x -> w.cell? ⟨a.block,a.off + i,none⟩ = some (.int .u8 x)
theorem RdB.below {B : Nat} {w w' : World} {v : Value} {zs : List Int} (h : RdB w v zs) (hb : Below B w w') (hB : w.heap.size <= B) : RdB w' v zs := by
 obtain ⟨p,cap,rfl,h0,h1,h2,hr,h3⟩ := h
 refine ⟨p,cap,rfl,h0,h1,h2,hr,fun a ha i x hx => ?_⟩
 have c := h3 a ha i x hx
 have hlt := World.block_lt_of_cell? _ _ c
 simp only at hlt
 rw [hb.cell (p := ⟨a.block,a.off + i,none⟩) (by simp only; omega)]
 exact c
end Go.Proofs.YtpkjlgdbaajpoaaGreat.D
