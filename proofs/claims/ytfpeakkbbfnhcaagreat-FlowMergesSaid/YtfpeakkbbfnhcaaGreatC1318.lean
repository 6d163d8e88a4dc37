/- Texts that the proof is made of, joined. No condition. -/
import Derived.Test.YtfpeakkbbfnhcaaGreatC1317
import Derived.Deep.DeepCutAuto
import Derived.Deep.CutBlock
import Derived.Test.YtfpeakkbbfnhcaaGreatC132
import Derived.Test.YtfpeakkbbfnhcaaGreatC13H
set_option linter.unusedVariables false
set_option linter.unusedSimpArgs false
set_option maxRecDepth 100000
set_option maxHeartbeats 16000000
namespace Go.Proofs.YtfpeakkbbfnhcaaGreat.R
open Go.RowKit Go.Proofs.YtfpeakkbbfnhcaaGreat.D Go.Proofs.YtfpeakkbbfnhcaaGreat.O Go.Proofs.YtfpeakkbbfnhcaaGreat.A
theorem szB_szF {f : Fr} (h : szB f = true) : SzF f := by
 unfold szB at h
 simp only [Bool.and_eq_true,List.all_eq_true,decide_eq_true_eq] at h
 obtain ⟨h1,h2,h3,h4⟩ := h
 exact ⟨fun t ht => Nat.le_trans (h1 t ht) (by unfold maxLen; omega),fun t ht => Nat.le_trans (h2 t ht) (by unfold maxLen; omega),by omega,by omega⟩
def RdO (ok : Nat -> Prop) (w : World) (v : Value) (f : Fr) : Prop := ∃ (pl : Option Addr) (cl : Nat) (ps : Option Addr) (cs : Nat),v = .agg #[.bool f.1,.slice pl f.2.1.length cl,.slice ps f.2.2.length cs] /\ RdX 2 (sP tyC) ok w (.slice pl f.2.1.length cl) f.2.1 /\ RdX 2 (sP tyC) ok w (.slice ps f.2.2.length cs) f.2.2
theorem RdO.step {ok ok' : Nat -> Prop} {w w' : World} {v : Value} {f : Fr} (h : RdO ok w v f) (ho : ∀ b,ok b -> b < w.heap.size -> ok' b) (hk : Keeps ok w w') (hs : w.heap.size <= w'.heap.size) : RdO ok' w' v f := by
 obtain ⟨pl,cl,ps,cs,e,h1,h2⟩ := h
 exact ⟨pl,cl,ps,cs,e,h1.step (sP.grow _) ho hk hs,h2.step (sP.grow _) ho hk hs⟩
theorem RdO.rd {ok : Nat -> Prop} {w : World} {v : Value} {f : Fr} (h : RdO ok w v f) : RdF w v f := h.step (ok' := anyB) (fun _ _ _ => trivial) (fun _ _ _ => rfl) (Nat.le_refl _)
theorem RdG.ro {B : Nat} {w : World} {v : Value} {f : Fr} (h : RdG B w v f) : RdO (fun b => B <= b) w v f := h
def FrB (ok : Nat -> Prop) (w : World) (fb : Nat) (L : List Fr) : Prop := ∃ cur : Array Value,w.heap[fb]? = some (.cells cur 61 (0,0)) /\ cur.size = L.length * 3 /\ ∀ i f,L[i]? = some f -> ∃ (pl : Option Addr) (cl : Nat) (ps : Option Addr) (cs : Nat),cur[i * 3]? = some (.bool f.1) /\ cur[i * 3 + 1]? = some (.slice pl f.2.1.length cl) /\ cur[i * 3 + 2]? = some (.slice ps f.2.2.length cs) /\ RdX 2 (sP tyC) ok w (.slice pl f.2.1.length cl) f.2.1 /\ RdX 2 (sP tyC) ok w (.slice ps f.2.2.length cs) f.2.2
theorem FrB.at {ok : Nat -> Prop} {w : World} {fb : Nat} {L : List Fr} (h : FrB ok w fb L) {i : Nat} {f : Fr} (hi : L[i]? = some f) :
  ∃ (pl : Option Addr) (cl : Nat) (ps : Option Addr) (cs : Nat),fb < w.heap.size /\ w.cell? ⟨fb,i * 3,none⟩ = some (.bool f.1) /\ w.cell? ⟨fb,i * 3 + 1,none⟩ = some (.slice pl f.2.1.length cl) /\ w.cell? ⟨fb,i * 3 + 2,none⟩ = some (.slice ps f.2.2.length cs) /\ RdO ok w (.agg #[.bool f.1,.slice pl f.2.1.length cl,.slice ps f.2.2.length cs]) f := by
 obtain ⟨cur,h1,-,h3⟩ := h
 obtain ⟨pl,cl,ps,cs,c0,c1,c2,r1,r2⟩ := h3 i f hi
 exact ⟨pl,cl,ps,cs,(Array.getElem?_eq_some_iff.1 h1).1,by simp [World.cell?,h1,c0],by simp [World.cell?,h1,c1],by simp [World.cell?,h1,c2],pl,cl,ps,cs,rfl,r1,r2⟩
theorem FrB.frz {ok : Nat -> Prop} {w : World} {fb : Nat} {L : List Fr} (h : FrB ok w fb L) (k : Nat) : w.frozen? ⟨fb,k,none⟩ = false := by
 obtain ⟨cur,h1,-⟩ := h
 simp [World.frozen?,h1]
theorem FrB.lt {ok : Nat -> Prop} {w : World} {fb : Nat} {L : List Fr} (h : FrB ok w fb L) : fb < w.heap.size := by
 obtain ⟨cur,h1,-⟩ := h
 exact (Array.getElem?_eq_some_iff.1 h1).1
theorem FrB.step {ok ok' : Nat -> Prop} {w w' : World} {fb : Nat} {L : List Fr} (h : FrB ok w fb L) (ho : ∀ b,ok b -> b < w.heap.size -> ok' b) (hk : Keeps ok w w') (hs : w.heap.size <= w'.heap.size) (hf : w'.heap[fb]? = w.heap[fb]?) : FrB ok' w' fb L := by
 obtain ⟨cur,h1,h2,h3⟩ := h
 refine ⟨cur,hf.trans h1,h2,fun i f hi => ?_⟩
 obtain ⟨pl,cl,ps,cs,c0,c1,c2,r1,r2⟩ := h3 i f hi
 exact ⟨pl,cl,ps,cs,c0,c1,c2,r1.step (sP.grow _) ho hk hs,r2.step (sP.grow _) ho hk hs⟩
theorem FrB.put {ok : Nat -> Prop} {w : World} {fb : Nat} {L : List Fr} (h : FrB ok w fb L) (hok : ¬ ok fb) {i : Nat} (hi : i < L.length) {f : Fr} {pl ps : Option Addr} {cl cs : Nat} (h1 : RdX 2 (sP tyC) ok w (.slice pl f.2.1.length cl) f.2.1) (h2 : RdX 2 (sP tyC) ok w (.slice ps f.2.2.length cs) f.2.2) :
  FrB ok (((w.setCell ⟨fb,i * 3,none⟩ (.bool f.1)).setCell ⟨fb,i * 3 + 1,none⟩ (.slice pl f.2.1.length cl)).setCell ⟨fb,i * 3 + 2,none⟩ (.slice ps f.2.2.length cs)) fb (L.set i f) := by
 have hk : Kpt [fb] w (((w.setCell ⟨fb,i * 3,none⟩ (.bool f.1)).setCell ⟨fb,i * 3 + 1,none⟩ (.slice pl f.2.1.length cl)).setCell ⟨fb,i * 3 + 2,none⟩ (.slice ps f.2.2.length cs)) := set3_kpt _ _ _ _ _ _ _ _
 have kk : Keeps ok w (((w.setCell ⟨fb,i * 3,none⟩ (.bool f.1)).setCell ⟨fb,i * 3 + 1,none⟩ (.slice pl f.2.1.length cl)).setCell ⟨fb,i * 3 + 2,none⟩ (.slice ps f.2.2.length cs)) := fun b hb hl => hk.2 b hl (by simp; rintro rfl; exact hok hb)
 obtain ⟨cur,g1,g2,g3⟩ := h
 have e1 := heap_setCell_same w fb (i * 3) cur _ (.bool f.1) g1
 have e2 := heap_setCell_same _ fb (i * 3 + 1) _ _ (.slice pl f.2.1.length cl) e1
 have e3 := heap_setCell_same _ fb (i * 3 + 2) _ _ (.slice ps f.2.2.length cs) e2
 refine ⟨_,e3,by simp [g2],fun j x hx => ?_⟩
 rw [List.getElem?_set] at hx
 by_cases hij : i = j
 ·subst hij
  rw [if_pos rfl,if_pos hi] at hx
  cases hx
  refine ⟨pl,cl,ps,cs,?_,?_,?_,h1.step (sP.grow _) (fun _ h _ => h) kk hk.size,h2.step (sP.grow _) (fun _ h _ => h) kk hk.size⟩
  ·rw [Array.getElem?_setIfInBounds_ne (by omega),Array.getElem?_setIfInBounds_ne (by omega),Array.getElem?_setIfInBounds_self_of_lt (by omega)]
  ·rw [Array.getElem?_setIfInBounds_ne (by omega),Array.getElem?_setIfInBounds_self_of_lt (by simp; omega)]
  ·rw [Array.getElem?_setIfInBounds_self_of_lt (by simp; omega)]
 ·rw [if_neg hij] at hx
  obtain ⟨pl',cl',ps',cs',c0,c1,c2,r1,r2⟩ := g3 j x hx
  refine ⟨pl',cl',ps',cs',?_,?_,?_,r1.step (sP.grow _) (fun _ h _ => h) kk hk.size,r2.step (sP.grow _) (fun _ h _ => h) kk hk.size⟩
  ·rw [Array.getElem?_setIfInBounds_ne (by omega),Array.getElem?_setIfInBounds_ne (by omega),Array.getElem?_setIfInBounds_ne (by omega)]; exact c0
  ·rw [Array.getElem?_setIfInBounds_ne (by omega),Array.getElem?_setIfInBounds_ne (by omega),Array.getElem?_setIfInBounds_ne (by omega)]; exact c1
  ·rw [Array.getElem?_setIfInBounds_ne (by omega),Array.getElem?_setIfInBounds_ne (by omega),Array.getElem?_setIfInBounds_ne (by omega)]; exact c2
def FlI (w0 : World) (okW : Nat -> Prop) (w : World) (gw fb wb tb : Nat) (m : Mth) (pp pc ph : Option Addr) (np cp nc cc nh ch : Nat) (s : Flw) : Prop :=
 w.heap[gw]? = some (.cells #[.pointer (some ⟨tb,0,none⟩),.string m.name,.slice pp np cp,.int .i64 m.ret.1,.string m.ret.2,.bool m.st,.bool m.ab,.int .i64 m.locals,.slice pc nc cc,.slice ph nh ch,.slice (some ⟨fb,0,none⟩) nc nc,.pointer (some ⟨wb,0,none⟩)] 108 (0,0)) /\
 FrB (fun b => ¬ okW b /\ b ≠ fb /\ w0.heap.size <= b) w fb s.1 /\ S.WqI okW w wb s.2.1 s.2.2 /\ (∀ f ∈ s.1,szB f = true) /\ s.1.length = nc /\ (¬ okW gw /\ ¬ okW fb /\ gw ≠ fb) /\ (∀ b,okW b -> w0.heap.size <= b) /\ w0.heap.size <= fb /\ Below w0.heap.size w0 w
section
variable {w0 w w' : World} {okW okA : Nat -> Prop} {gw fb wb tb : Nat} {m : Mth} {pp pc ph : Option Addr} {np cp nc cc nh ch : Nat} {s : Flw}
theorem FlI.bel (h : FlI w0 okW w gw fb wb tb m pp pc ph np cp nc cc nh ch s) (hb : Below w.heap.size w w') : FlI w0 okW w' gw fb wb tb m pp pc ph np cp nc cc nh ch s := by
 obtain ⟨h1,h2,h3,h4,h5,h6,h7,h8,h9⟩ := h
 exact ⟨blk_b h1 hb,h2.step (fun _ h _ => h) (.of_below hb) hb.size (hb.block _ h2.lt),h3.bel hb,h4,h5,h6,h7,h8,h9.trans (hb.mono h9.size)⟩
theorem FlI.narrow (h : FlI w0 okW w gw fb wb tb m pp pc ph np cp nc cc nh ch s) : FlI w0 (fun b => okW b /\ b < w.heap.size) w gw fb wb tb m pp pc ph np cp nc cc nh ch s := by
 obtain ⟨h1,h2,h3,h4,h5,h6,h7,h8,h9⟩ := h
 exact ⟨h1,h2.step (fun _ h _ => ⟨fun hx => h.1 hx.1,h.2⟩) (fun _ _ _ => rfl) (Nat.le_refl _) rfl,h3.mono (fun b hb hl => ⟨hb,hl⟩),h4,h5,⟨fun hx => h6.1 hx.1,fun hx => h6.2.1 hx.1,h6.2.2⟩,fun b hb => h7 b hb.1,h8,h9⟩
theorem FlI.work {E N E' N' : List Int} {F : List Fr} (h : FlI w0 okW w gw fb wb tb m pp pc ph np cp nc cc nh ch (F,E,N)) (hA : ∀ b,okA b -> okW b ∨ w.heap.size <= b) (hq : S.WqI okA w' wb E' N') (hk : S.Kp okA w w') : FlI w0 okA w' gw fb wb tb m pp pc ph np cp nc cc nh ch (F,E',N') := by
 obtain ⟨h1,h2,h3,h4,h5,h6,h7,h8,h9⟩ := h
 have lg := (Array.getElem?_eq_some_iff.1 h1).1
 have lf := h2.lt
 have ng : ¬ okA gw := fun hx => by
  rcases hA _ hx with h | h
  ·exact h6.1 h
  ·omega
 have nf : ¬ okA fb := fun hx => by
  rcases hA _ hx with h | h
  ·exact h6.2.1 h
  ·omega
 have nn : ∀ b,(¬ okW b /\ b ≠ fb /\ w0.heap.size <= b) -> b < w.heap.size -> ¬ okA b := fun b hb hl hx => by
  rcases hA _ hx with h | h
  ·exact hb.1 h
  ·omega
 have h0 : w0.heap.size <= w.heap.size := h9.size
 have hA0 : ∀ b,okA b -> w0.heap.size <= b := fun b hb => by
  rcases hA _ hb with h | h
  ·exact h7 b h
  ·omega
 exact ⟨hk.block h1 ng,h2.step (fun b hb hl => ⟨nn b hb hl,hb.2⟩) (fun b hb hl => hk.2 b hl (nn b hb hl)) hk.size (hk.2 fb lf nf),hq,h4,h5,⟨ng,nf,h6.2.2⟩,hA0,h8,h9.trans (hk.below hA0 h9.size)⟩
theorem FlI.put {F : List Fr} {E N : List Int} (h : FlI w0 okW w gw fb wb tb m pp pc ph np cp nc cc nh ch (F,E,N)) {i : Nat} (hi : i < F.length) {f : Fr} {pl ps : Option Addr} {cl cs : Nat} (hz : szB f = true) (hv : RdO (fun b => ¬ okW b /\ b ≠ fb /\ w0.heap.size <= b) w (.agg #[.bool f.1,.slice pl f.2.1.length cl,.slice ps f.2.2.length cs]) f) :
  FlI w0 okW (((w.setCell ⟨fb,i * 3,none⟩ (.bool f.1)).setCell ⟨fb,i * 3 + 1,none⟩ (.slice pl f.2.1.length cl)).setCell ⟨fb,i * 3 + 2,none⟩ (.slice ps f.2.2.length cs)) gw fb wb tb m pp pc ph np cp nc cc nh ch (F.set i f,E,N) := by
 obtain ⟨h1,h2,h3,h4,h5,h6,h7,h8,h9⟩ := h
 obtain ⟨pl',cl',ps',cs',e,r1,r2⟩ := hv
 simp only [Value.agg.injEq,Array.mk.injEq,List.cons.injEq,Value.slice.injEq,true_and,and_true] at e
 obtain ⟨⟨rfl,rfl⟩,rfl,rfl⟩ := e
 have hk : Kpt [fb] w (((w.setCell ⟨fb,i * 3,none⟩ (.bool f.1)).setCell ⟨fb,i * 3 + 1,none⟩ (.slice pl f.2.1.length cl)).setCell ⟨fb,i * 3 + 2,none⟩ (.slice ps f.2.2.length cs)) := set3_kpt _ _ _ _ _ _ _ _
 refine ⟨blk_k h1 hk h6.2.2,h2.put (fun hx => hx.2.1 rfl) hi r1 r2,h3.kpt hk (fun x hx => by rw [List.mem_singleton.1 hx]; exact h6.2.1),fun x hx => ?_,by rw [List.length_set]; exact h5,h6,h7,h8,h9.trans (hk.below (fun x hx => by rw [List.mem_singleton.1 hx]; exact h8) h9.size)⟩
 rcases List.mem_or_eq_of_mem_set hx with hx | rfl
 ·exact h4 x hx
 ·exact hz
end
theorem FlI.cells {w0 w : World} {okW : Nat -> Prop} {gw fb wb tb : Nat} {m : Mth} {pp pc ph : Option Addr} {np cp nc cc nh ch : Nat} {s : Flw} (h : FlI w0 okW w gw fb wb tb m pp pc ph np cp nc cc nh ch s) : gw < w.heap.size /\ (w.cell? ⟨gw,0,none⟩ = some (.pointer (some ⟨tb,0,none⟩)) /\ w.cell? ⟨gw,10,none⟩ = some (.slice (some ⟨fb,0,none⟩) nc nc) /\ w.cell? ⟨gw,11,none⟩ = some (.pointer (some ⟨wb,0,none⟩))) /\
  (w.cell? ⟨gw,1,none⟩ = some (.string m.name) /\ w.cell? ⟨gw,2,none⟩ = some (.slice pp np cp) /\ w.cell? ⟨gw,3,none⟩ = some (.int .i64 m.ret.1) /\ w.cell? ⟨gw,4,none⟩ = some (.string m.ret.2) /\ w.cell? ⟨gw,5,none⟩ = some (.bool m.st) /\ w.cell? ⟨gw,6,none⟩ = some (.bool m.ab) /\ w.cell? ⟨gw,7,none⟩ = some (.int .i64 m.locals) /\ w.cell? ⟨gw,8,none⟩ = some (.slice pc nc cc) /\ w.cell? ⟨gw,9,none⟩ = some (.slice ph nh ch)) := by
 have h1 := h.1
 exact ⟨(Array.getElem?_eq_some_iff.1 h1).1,⟨by simp [World.cell?,h1],by simp [World.cell?,h1],by simp [World.cell?,h1]⟩,by simp [World.cell?,h1],by simp [World.cell?,h1],by simp [World.cell?,h1],by simp [World.cell?,h1],by simp [World.cell?,h1],by simp [World.cell?,h1],by simp [World.cell?,h1],by simp [World.cell?,h1],by simp [World.cell?,h1]⟩
def JC (W : World) (g gw fb tb wb n a : Nat) (x0 x1 x2 y0 y1 y2 : Value) : Prop :=
 (g < W.heap.size /\ W.cell? ⟨g,0,none⟩ = some x0 /\ W.cell? ⟨g,1,none⟩ = some x1 /\ W.cell? ⟨g,2,none⟩ = some x2) /\ (gw < W.heap.size /\ W.cell? ⟨gw,0,none⟩ = some (.pointer (some ⟨tb,0,none⟩)) /\ W.cell? ⟨gw,10,none⟩ = some (.slice (some ⟨fb,0,none⟩) n n) /\ W.cell? ⟨gw,11,none⟩ = some (.pointer (some ⟨wb,0,none⟩))) /\ (fb < W.heap.size /\ W.cell? ⟨fb,a * 3,none⟩ = some y0 /\ W.cell? ⟨fb,a * 3 + 1,none⟩ = some y1 /\ W.cell? ⟨fb,a * 3 + 2,none⟩ = some y2)
theorem c3_b {W W' : World} {g i j k : Nat} {x0 x1 x2 : Value} (h : g < W.heap.size /\ W.cell? ⟨g,i,none⟩ = some x0 /\ W.cell? ⟨g,j,none⟩ = some x1 /\ W.cell? ⟨g,k,none⟩ = some x2) (hb : Below W.heap.size W W') : g < W'.heap.size /\ W'.cell? ⟨g,i,none⟩ = some x0 /\ W'.cell? ⟨g,j,none⟩ = some x1 /\ W'.cell? ⟨g,k,none⟩ = some x2 :=
 ⟨Nat.lt_of_lt_of_le h.1 hb.size,(hb.cell h.1).trans h.2.1,(hb.cell h.1).trans h.2.2.1,(hb.cell h.1).trans h.2.2.2⟩
theorem JC.bel {W W' : World} {g gw fb tb wb n a : Nat} {x0 x1 x2 y0 y1 y2 : Value} (h : JC W g gw fb tb wb n a x0 x1 x2 y0 y1 y2) (hb : Below W.heap.size W W') : JC W' g gw fb tb wb n a x0 x1 x2 y0 y1 y2 := ⟨c3_b h.1 hb,c3_b h.2.1 hb,c3_b h.2.2 hb⟩
theorem TrN.below0 {w0 W : World} {okt : Nat -> Prop} {v : Value} {K : List Cls} {okW : Nat -> Prop} {gw fb wb tb : Nat} {m : Mth} {pp pc ph : Option Addr} {np cp nc cc nh ch : Nat} {s : Flw} (ht : TrN w0 okt v K) (h : FlI w0 okW W gw fb wb tb m pp pc ph np cp nc cc nh ch s) : TrN W okt v K := ht.below h.2.2.2.2.2.2.2.2
theorem FlI.drew {w0 W : World} {okW : Nat -> Prop} {gw fb wb tb : Nat} {m : Mth} {pp pc ph : Option Addr} {np cp nc cc nh ch : Nat} {s : Flw} (h : FlI w0 okW W gw fb wb tb m pp pc ph np cp nc cc nh ch s) : FlI w0 okW W.drew gw fb wb tb m pp pc ph np cp nc cc nh ch s := h.bel (Below.refl _ _).drew
theorem RdG.bel {B : Nat} {w w' : World} {v : Value} {f : Fr} (h : RdG B w v f) (hb : Below w.heap.size w w') : RdG B w' v f := RdO.step h (fun _ h _ => h) (.of_below hb) hb.size
theorem RdO.set3 {B gg : Nat} {W : World} {v : Value} {f : Fr} {i j k : Nat} {u0 u1 u2 : Value} (h : RdO (fun b => B <= b /\ b ≠ gg) W v f) : RdG B (((W.setCell ⟨gg,i,none⟩ u0).setCell ⟨gg,j,none⟩ u1).setCell ⟨gg,k,none⟩ u2) v f :=
 RdO.step (ok' := fun b => B <= b) h (fun _ h _ => h.1) (fun b hb hl => (set3_kpt W gg i j k u0 u1 u2).2 b hl (by simpa using hb.2)) (set3_kpt W gg i j k u0 u1 u2).size
theorem JC.set3 {W : World} {g gw fb tb wb n a gg i j k : Nat} {x0 x1 x2 y0 y1 y2 u0 u1 u2 : Value} (h : JC W g gw fb tb wb n a x0 x1 x2 y0 y1 y2) (h1 : g ≠ gg) (h2 : gw ≠ gg) (h3 : fb ≠ gg) : JC (((W.setCell ⟨gg,i,none⟩ u0).setCell ⟨gg,j,none⟩ u1).setCell ⟨gg,k,none⟩ u2) g gw fb tb wb n a x0 x1 x2 y0 y1 y2 := by
 have hk := set3_kpt W gg i j k u0 u1 u2
 have cc : ∀ b o v,b < W.heap.size -> b ≠ gg -> W.cell? ⟨b,o,none⟩ = some v -> (((W.setCell ⟨gg,i,none⟩ u0).setCell ⟨gg,j,none⟩ u1).setCell ⟨gg,k,none⟩ u2).cell? ⟨b,o,none⟩ = some v := fun b o v hl hn hc => by
  rw [<- hc]
  simp only [World.cell?]
  rw [hk.2 b hl (by simpa using hn)]
 obtain ⟨⟨a1,a2,a3,a4⟩,⟨b1,b2,b3,b4⟩,c1,c2,c3,c4⟩ := h
 exact ⟨⟨Nat.lt_of_lt_of_le a1 hk.size,cc _ _ _ a1 h1 a2,cc _ _ _ a1 h1 a3,cc _ _ _ a1 h1 a4⟩,⟨Nat.lt_of_lt_of_le b1 hk.size,cc _ _ _ b1 h2 b2,cc _ _ _ b1 h2 b3,cc _ _ _ b1 h2 b4⟩,Nat.lt_of_lt_of_le c1 hk.size,cc _ _ _ c1 h3 c2,cc _ _ _ c1 h3 c3,cc _ _ _ c1 h3 c4⟩
theorem kp_trans0 {ok ok' : Nat -> Prop} {a b c : World} (h : S.Kp ok a b) (k : S.Kp ok' b c) (ho : ∀ x,ok' x -> x < a.heap.size -> ok x) : S.Kp ok a c := ⟨h.1.trans k.1,fun g hg hn => (k.2 g (Nat.lt_of_lt_of_le hg h.1.size) (fun hx => hn (ho g hx hg))).trans (h.2 g hg hn)⟩
theorem c3_kg {W W' : World} {g r i j k : Nat} {x0 x1 x2 : Value} (h : g < W.heap.size /\ W.cell? ⟨g,i,none⟩ = some x0 /\ W.cell? ⟨g,j,none⟩ = some x1 /\ W.cell? ⟨g,k,none⟩ = some x2) (hk : Kpt [r] W W') (hne : g ≠ r) : g < W'.heap.size /\ W'.cell? ⟨g,i,none⟩ = some x0 /\ W'.cell? ⟨g,j,none⟩ = some x1 /\ W'.cell? ⟨g,k,none⟩ = some x2 := by
 have e := hk.2 g h.1 (by simpa using hne)
 exact ⟨Nat.lt_of_lt_of_le h.1 hk.size,by rw [<- h.2.1]; simp only [World.cell?,e],by rw [<- h.2.2.1]; simp only [World.cell?,e],by rw [<- h.2.2.2]; simp only [World.cell?,e]⟩
theorem heap3_st {W : World} {g : Nat} {a b c u v x : Value} {T : TypeId} (h : W.heap[g]? = some (.cells #[a,b,c] T (0,0))) : (((W.setCell ⟨g,0,none⟩ u).setCell ⟨g,1,none⟩ v).setCell ⟨g,2,none⟩ x).heap[g]? = some (.cells #[u,v,x] T (0,0)) := by
 rw [heap_setCell_same _ _ 2 _ _ _ (heap_setCell_same _ _ 1 _ _ _ (heap_setCell_same _ _ 0 _ _ _ h))]
 rfl
end Go.Proofs.YtfpeakkbbfnhcaaGreat.R
namespace Go.Proofs.YtfpeakkbbfnhcaaGreat.R
open Go.RowKit Go.Proofs.YtfpeakkbbfnhcaaGreat.D Go.Proofs.YtfpeakkbbfnhcaaGreat.O Go.Proofs.YtfpeakkbbfnhcaaGreat.A
theorem okI_nat (a : Nat) (h : a <= 100000) : S.okI (a : Int) := by
 show (decide (IntKind.i64.min <= (a : Int)) && decide ((a : Int) <= IntKind.i64.max)) = true
 rw [show IntKind.i64.min = -9223372036854775808 from by decide,show IntKind.i64.max = 9223372036854775807 from by decide,Bool.and_eq_true,decide_eq_true_iff,decide_eq_true_iff]
 omega
theorem join_w (okt : Nat -> Prop) (w0 : World) (okW : Nat -> Prop) (gw fb wb tb : Nat) (K : List Cls) (m : Mth) (pp pc ph : Option Addr) (np cp nc cc nh ch : Nat) (s : Flw) (a : Nat) (vf : Value) (f : Fr) (R : Flw × Int) (w : World)
  (ht : TrN w0 okt (.pointer (some ⟨tb,0,none⟩)) K) (h : FlI w0 okW w gw fb wb tb m pp pc ph np cp nc cc nh ch s) (hv : RdF w vf f) (hz : szB f = true) (ha : a < nc) (hn : nc <= 1000) (hR : intoN (K.map skOf) s f a = some R) :
  Calls Tryz.prog 90 #[.pointer (some ⟨gw,0,none⟩),.int .i64 (a : Int),vf] w fun e w' => e = .returned (.int .i64 R.2) /\ ∃ okA : Nat -> Prop,(∀ b,okA b -> okW b ∨ w.heap.size <= b) /\ FlI w0 okA w' gw fb wb tb m pp pc ph np cp nc cc nh ch R.1 /\ S.Kp (fun b => okW b ∨ b = fb) w w' := by
 obtain ⟨F,E,N⟩ := s
 have hln : F.length = nc := h.2.2.2.2.1
 obtain ⟨o,ho⟩ : ∃ o,F[a]? = some o := ⟨_,List.getElem?_eq_getElem (by omega)⟩
 have HOZ : Hid (szB o = true) := hid (h.2.2.2.1 o (List.mem_of_getElem? ho))
 have HGD : Hid (F.getD a noFr = o) := hid (by rw [List.getD_eq_getElem?_getD,ho]; rfl)
 have HW0 : Hid (w0.heap.size <= w.heap.size) := hid h.2.2.2.2.2.2.2.2.size
 have HFW : Hid (¬ okW fb) := hid h.2.2.2.2.2.1.2.1
 obtain ⟨ql,dl,qs,ds,hfl,y0,y1,y2,hro⟩ := h.2.1.at ho
 obtain ⟨pl,cl,ps,cs,rfl,h1,h2⟩ := hv
 have HV : Hid (RdF w (.agg #[.bool f.1,.slice pl f.2.1.length cl,.slice ps f.2.2.length cs]) f) := hid ⟨pl,cl,ps,cs,rfl,h1,h2⟩
 have HO : Hid (RdF w (.agg #[.bool o.1,.slice ql o.2.1.length dl,.slice qs o.2.2.length ds]) o) := hid hro.rd
 have HT := hid ht
 have HI := hid h.narrow
 have HZ := hid hz
 have HR := hid hR
 have HN := hid hn
 have HA := hid ha
 have HLN := hid hln
 obtain ⟨hgl,⟨c0,c10,c11⟩,-⟩ := h.cells
 obtain ⟨okN,hok⟩ : ∃ z,z = fun b => okW b /\ b < w.heap.size := ⟨_,rfl⟩
 have HOK : Hid (∀ b,okN b ↔ okW b /\ b < w.heap.size) := hid (fun b => by rw [hok])
 rw [<- hok] at HI
 have a0 : (0 : Int) <= (a : Int) := by omega
 have a1 : (a : Int) < (nc : Int) := by omega
 have a2 : (a : Int).toNat = a := by omega
 clear h1 h2 hz hR h ht hro hok ho ha hln hn
 obtain ⟨wn,hwn⟩ : ∃ x,x = w.alloc (.cells #[.bool f.1,.slice pl f.2.1.length cl,.slice ps f.2.2.length cs] 61) := ⟨_,rfl⟩
 have hbn : Below w.heap.size w wn := by rw [hwn]; exact below_alR _ _
 have HX : Hid (wn.heap[w.heap.size]? = some (.cells #[.bool f.1,.slice pl f.2.1.length cl,.slice ps f.2.2.length cs] 61 (0,0))) := hid (by rw [hwn]; exact heap_alloc_new _ _)
 have HJ : Hid (JC wn w.heap.size gw fb tb wb nc a (.bool f.1) (.slice pl f.2.1.length cl) (.slice ps f.2.2.length cs) (.bool o.1) (.slice ql o.2.1.length dl) (.slice qs o.2.2.length ds)) := hid ⟨c3_at HX.out,c3_b ⟨hgl,c0,c10,c11⟩ hbn,c3_b ⟨hfl,y0,y1,y2⟩ hbn⟩
 replace HV := hid (HV.out.below hbn)
 replace HO := hid (HO.out.below hbn)
 replace HI := hid (HI.out.bel hbn)
 have HB := hid hbn
 clear hbn HX hgl c0 c10 c11 hfl y0 y1 y2
 go_enter Tryz.func90,Tryz.ntmps90
 go_upto_region 1 with fail
 rw [<- hwn]
 clear hwn
 obtain ⟨g,hg⟩ : ∃ z,w.heap.size = z := ⟨_,rfl⟩
 rw [hg] at HJ ⊢
 have HG := hid hg
 clear hg
 have hbn := (Below.refl wn.heap.size wn).drew
 replace HJ := hid (HJ.out.bel hbn)
 replace HV := hid (HV.out.below hbn)
 replace HO := hid (HO.out.below hbn)
 replace HI := hid (HI.out.bel hbn)
 replace HB := hid (HB.out.trans (hbn.mono HB.out.size))
 clear hbn
 refine wp_region_held_drew (S := fun W => (g < W.heap.size /\ W.cell? ⟨g,0,none⟩ = some (.bool f.1) /\ W.cell? ⟨g,1,none⟩ = some (.slice pl f.2.1.length cl) /\ W.cell? ⟨g,2,none⟩ = some (.slice ps f.2.2.length cs)) /\ (gw < W.heap.size /\ W.cell? ⟨gw,0,none⟩ = some (.pointer (some ⟨tb,0,none⟩)) /\ W.cell? ⟨gw,10,none⟩ = some (.slice (some ⟨fb,0,none⟩) nc nc) /\ W.cell? ⟨gw,11,none⟩ = some (.pointer (some ⟨wb,0,none⟩))) /\ (fb < W.heap.size /\ W.cell? ⟨fb,a * 3,none⟩ = some (.bool o.1) /\ W.cell? ⟨fb,a * 3 + 1,none⟩ = some (.slice ql o.2.1.length dl) /\ W.cell? ⟨fb,a * 3 + 2,none⟩ = some (.slice qs o.2.2.length ds))) (by kernel_rfl) HJ.out (fun hh => ?_)
 refine tkB 0 _ hh ?_
 try go_frame
 refine tkA 1 _ hh ?_
 try go_frame
 refine tkA 2 _ hh ?_
 try go_frame
 refine tkA 3 _ hh ?_
 try go_frame
 refine tkB 4 _ hh ?_
 try go_frame
 refine tkA 5 _ hh ?_
 try go_frame
 refine tkA 6 _ hh ?_
 try go_frame
 refine tkB 7 _ hh ?_
 try go_frame
 refine rdH [8] ?_
 refine AllReadyH.cons (o := _) (by simp only [List.getElem?_toArray,List.getElem?_cons_succ,List.getElem?_cons_zero]; rfl) (fun KX hKX => ?_) AllReadyH.nil
 clear hh
 go_simp
 refine (FSame_f _ _ f o _ HV.out HO.out (szB_szF HZ.out) (szB_szF HOZ.out)).mono ?_
 rintro e w1 ⟨rfl,hbn⟩
 replace HJ := hid (HJ.out.bel hbn)
 replace HV := hid (HV.out.below hbn)
 replace HO := hid (HO.out.below hbn)
 replace HI := hid (HI.out.bel hbn)
 replace HB := hid (HB.out.trans (hbn.mono HB.out.size))
 clear hbn
 refine hKX.out _ _ HJ.out (fun hh => ?_)
 clear hKX KX
 try go_frame
 refine wpAnyH_done (by kernel_rfl) ?_ _
 clear hh
 by_cases hfo : f = o
 ·obtain rfl : R = ((F,E,N),0) := by have h9 := HR.out; unfold intoN at h9; dsimp only at h9; rw [HGD.out,if_pos hfo] at h9; exact (Option.some.inj h9).symm
  rw [decide_eq_true hfo]
  go_wp2_with fail
  go_ret
  exact ⟨rfl,⟨okN,fun b hb => .inl ((HOK.out b).1 hb).1,HI.out,S.Kp.of_kpt (S := []) (S.Kpt.of_below HB.out) (fun x hx => by cases hx)⟩⟩
 ·rw [decide_eq_false hfo]
  obtain ⟨J,hJ⟩ : ∃ z,joinF (K.map skOf) o f = z := ⟨_,rfl⟩
  have HR2 : Hid ((if ¬ J.2 = 0 then some ((F,E,N),J.2) else if szB J.1 = false then none else if J.1 = o then some ((F,E,N),0) else if 5000 < E.length ∨ 5000 < N.length then none else some ((F.set a J.1,S.addS E (a : Int),S.addS N (a : Int)),0)) = some R) := hid (by have h9 := HR.out; unfold intoN at h9; dsimp only at h9; rw [HGD.out,if_neg hfo,hJ] at h9; exact h9)
  have HJJ := hid hJ
  have HW1 : Hid (w.heap.size <= w1.heap.size) := hid HB.out.size
  clear hJ hfo HR
  go_upto_region 3 with fail
  go_cut [7,8] from 18 to 34 (fun s7 s8 wx => ∃ (gg : Nat) (kl : Option Addr) (el : Nat) (ks : Option Addr) (es' : Nat),s7 = .pointer (some ⟨gg,0,none⟩) /\ s8 = .int .i64 J.2 /\ Hid (wx.heap[gg]? = some (.cells #[.bool J.1.1,.slice kl J.1.2.1.length el,.slice ks J.1.2.2.length es'] 61 (0,0))) /\ Hid (RdG w1.heap.size wx (.agg #[.bool J.1.1,.slice kl J.1.2.1.length el,.slice ks J.1.2.2.length es']) J.1) /\ Hid (Below w1.heap.size w1 wx) /\ Hid (w1.heap.size <= gg))
  case first =>
   have HJN : Hid (g < w1.heap.size /\ gw < w1.heap.size /\ fb < w1.heap.size) := hid ⟨HJ.out.1.1,HJ.out.2.1.1,HJ.out.2.2.1⟩
   have HBX : Hid (Below w1.heap.size w1 w1.drew) := hid (Below.refl _ _).drew
   have hbn := (Below.refl w1.heap.size w1).drew
   replace HJ := hid (HJ.out.bel hbn)
   replace HV := hid (HV.out.below hbn)
   replace HO := hid (HO.out.below hbn)
   replace HI := hid (HI.out.bel hbn)
   replace HB := hid (HB.out.trans (hbn.mono HB.out.size))
   clear hbn
   refine wp_region_held_drew (S := fun W => (g < W.heap.size /\ W.cell? ⟨g,0,none⟩ = some (.bool f.1) /\ W.cell? ⟨g,1,none⟩ = some (.slice pl f.2.1.length cl) /\ W.cell? ⟨g,2,none⟩ = some (.slice ps f.2.2.length cs)) /\ (gw < W.heap.size /\ W.cell? ⟨gw,0,none⟩ = some (.pointer (some ⟨tb,0,none⟩)) /\ W.cell? ⟨gw,10,none⟩ = some (.slice (some ⟨fb,0,none⟩) nc nc) /\ W.cell? ⟨gw,11,none⟩ = some (.pointer (some ⟨wb,0,none⟩))) /\ (fb < W.heap.size /\ W.cell? ⟨fb,a * 3,none⟩ = some (.bool o.1) /\ W.cell? ⟨fb,a * 3 + 1,none⟩ = some (.slice ql o.2.1.length dl) /\ W.cell? ⟨fb,a * 3 + 2,none⟩ = some (.slice qs o.2.2.length ds))) (by kernel_rfl) (by first | exact HJ.out | exact HJK.out) (fun hh => ?_)
   refine tkA 0 _ hh ?_
   try go_frame
   refine tkA 1 _ hh ?_
   try go_frame
   refine tkA 2 _ hh ?_
   try go_frame
   refine tkB 3 _ hh ?_
   try go_frame
   refine tkA 4 _ hh ?_
   try go_frame
   refine tkA 5 _ hh ?_
   try go_frame
   refine tkA 6 _ hh ?_
   try go_frame
   refine tkB 7 _ hh ?_
   try go_frame
   refine tkA 8 _ hh ?_
   try go_frame
   refine tkA 9 _ hh ?_
   try go_frame
   refine tkB 10 _ hh ?_
   try go_frame
   refine tkB 11 _ hh ?_
   try go_frame
   refine rdH [12,16] ?_
   refine AllReadyH.cons (o := _) (by simp only [List.getElem?_toArray,List.getElem?_cons_succ,List.getElem?_cons_zero]; rfl) (fun KX hKX => ?_) ?_
   ·clear hh
    go_simp
    have HSZ := hid HBX.out.size
    refine (FJoin_g okt _ K _ _ o f _ (HT.out.below0 HI.out) HO.out HV.out (szB_szF HOZ.out) (szB_szF HZ.out)).mono ?_
    rw [HJJ.out]
    rintro e w2 ⟨vg,rfl,⟨kl,el,ks,es',rfl,k1,k2⟩,hbn⟩
    replace HJ := hid (HJ.out.bel hbn)
    replace HV := hid (HV.out.below hbn)
    replace HO := hid (HO.out.below hbn)
    replace HI := hid (HI.out.bel hbn)
    replace HB := hid (HB.out.trans (hbn.mono HB.out.size))
    replace HBX := hid (HBX.out.trans (hbn.mono HBX.out.size))
    have HK0 : Hid (RdO (fun b => w1.heap.size <= b) w2 (.agg #[.bool J.1.1,.slice kl J.1.2.1.length el,.slice ks J.1.2.2.length es']) J.1) := hid ⟨kl,el,ks,es',rfl,rd_up k1 HSZ.out,rd_up k2 HSZ.out⟩
    clear hbn k1 k2
    refine hKX.out _ _ (by first | exact HJ.out | exact HJK.out) (fun hh => ?_)
    clear hKX KX
    try go_frame
    refine tkA 13 _ hh ?_
    try go_frame
    refine tkA 14 _ hh ?_
    try go_frame
    refine tkA 15 _ hh ?_
    try go_frame
    refine rdH [16] ?_
    refine AllReadyH.cons (o := _) (by simp only [List.getElem?_toArray,List.getElem?_cons_succ,List.getElem?_cons_zero]; rfl) (fun KX hKX => ?_) AllReadyH.nil
    clear hh
    have HBX0 := hid HBX.out.size
    go_simp
    have hbn := below_alR w2 (.cells #[.bool false,.slice none 0 0,.slice none 0 0] 61)
    have HGG : Hid ((w2.alloc (.cells #[.bool false,.slice none 0 0,.slice none 0 0] 61)).heap[w2.heap.size]? = some (.cells #[.bool false,.slice none 0 0,.slice none 0 0] 61 (0,0))) := hid (heap_alloc_new w2 (.cells #[.bool false,.slice none 0 0,.slice none 0 0] 61))
    have HNX : Hid (w1.heap.size <= w2.heap.size) := hid HBX.out.size
    replace HJ := hid (HJ.out.bel hbn)
    replace HV := hid (HV.out.below hbn)
    replace HO := hid (HO.out.below hbn)
    replace HI := hid (HI.out.bel hbn)
    replace HB := hid (HB.out.trans (hbn.mono HB.out.size))
    replace HBX := hid (HBX.out.trans (hbn.mono HBX.out.size))
    have HK : Hid (RdO (fun b => w1.heap.size <= b /\ b ≠ w2.heap.size) _ _ J.1) := hid (HK0.out.step (fun b hb hl => ⟨hb,Nat.ne_of_lt hl⟩) (.of_below hbn) hbn.size)
    have HGL : Hid (w2.heap.size < (w2.alloc (.cells #[.bool false,.slice none 0 0,.slice none 0 0] 61)).heap.size) := hid (by simp)
    clear hbn
    obtain ⟨gg,hgg⟩ : ∃ z,w2.heap.size = z := ⟨_,rfl⟩
    rw [hgg] at HGG HNX HK HGL ⊢
    clear hgg
    refine hKX.out _ _ (by first | exact HJ.out | exact HJK.out) (fun hh => ?_)
    clear hKX KX
    try go_frame
    refine rdH [17] ?_
    refine AllReadyH.cons (o := _) (by simp only [List.getElem?_toArray,List.getElem?_cons_succ,List.getElem?_cons_zero]; rfl) (fun KX hKX => ?_) AllReadyH.nil
    clear hh
    obtain ⟨rl,rc,rf⟩ := boxN HGG.out
    have r0 := rc 0 _ rfl
    have r1 := rc 1 _ rfl
    have r2 := rc 2 _ rfl
    have u0 := rf 0
    have u1 := rf 1
    have u2 := rf 2
    simp only [Nat.zero_add] at r0 r1 r2
    clear rc rf
    go_simp
    have HJK : Hid (JC ((((w2.alloc (.cells #[.bool false,.slice none 0 0,.slice none 0 0] 61)).setCell ⟨gg,0,none⟩ (.bool J.1.1)).setCell ⟨gg,1,none⟩ (.slice kl J.1.2.1.length el)).setCell ⟨gg,2,none⟩ (.slice ks J.1.2.2.length es')) g gw fb tb wb nc a (.bool f.1) (.slice pl f.2.1.length cl) (.slice ps f.2.2.length cs) (.bool o.1) (.slice ql o.2.1.length dl) (.slice qs o.2.2.length ds)) := hid (HJ.out.set3 (by have := HNX.out; have := HJN.out; omega) (by have := HNX.out; have := HJN.out; omega) (by have := HNX.out; have := HJN.out; omega))
    refine hKX.out _ _ (by first | exact HJ.out | exact HJK.out) (fun hh => ?_)
    clear hKX KX
    try go_frame
    refine tkA 18 _ hh ?_
    try go_frame
    refine wpAnyH_done (by kernel_rfl) ?_ _
    clear hh
    go_wp2_with fail
    go_meet
    case rel => exact ⟨gg,kl,el,ks,es',rfl,rfl,hid (by rw [heap3_st HGG.out]),hid (HK.out.set3),hid (HBX.out.trans ((set3_kpt _ gg 0 1 2 _ _ _).below (fun x hx => by simp at hx; have := HNX.out; omega) HBX.out.size)),HNX⟩
   refine AllReadyH.cons (o := _) (by simp only [List.getElem?_toArray,List.getElem?_cons_succ,List.getElem?_cons_zero]; rfl) (fun KX hKX => ?_) AllReadyH.nil
   clear hh
   have HBX0 := hid HBX.out.size
   go_simp
   have hbn := below_alR w1.drew (.cells #[.bool false,.slice none 0 0,.slice none 0 0] 61)
   have HGG : Hid ((w1.drew.alloc (.cells #[.bool false,.slice none 0 0,.slice none 0 0] 61)).heap[w1.heap.size]? = some (.cells #[.bool false,.slice none 0 0,.slice none 0 0] 61 (0,0))) := hid (heap_alloc_new w1.drew (.cells #[.bool false,.slice none 0 0,.slice none 0 0] 61))
   have HNX : Hid (w1.heap.size <= w1.heap.size) := hid HBX.out.size
   replace HJ := hid (HJ.out.bel hbn)
   replace HV := hid (HV.out.below hbn)
   replace HO := hid (HO.out.below hbn)
   replace HI := hid (HI.out.bel hbn)
   replace HB := hid (HB.out.trans (hbn.mono HB.out.size))
   replace HBX := hid (HBX.out.trans (hbn.mono HBX.out.size))
   have HGL : Hid (w1.heap.size < (w1.drew.alloc (.cells #[.bool false,.slice none 0 0,.slice none 0 0] 61)).heap.size) := hid (by simp)
   clear hbn
   obtain ⟨gg,hgg⟩ : ∃ z,w1.heap.size = z := ⟨_,rfl⟩
   rw [show w1.heap.size = gg from hgg] at HGG HGL ⊢
   replace HNX : Hid (w1.heap.size <= gg) := hid (by rw [<- hgg]; exact Nat.le_refl _)
   clear hgg
   refine hKX.out _ _ (by first | exact HJ.out | exact HJK.out) (fun hh => ?_)
   clear hKX KX
   try go_frame
   refine rdH [12] ?_
   refine AllReadyH.cons (o := _) (by simp only [List.getElem?_toArray,List.getElem?_cons_succ,List.getElem?_cons_zero]; rfl) (fun KX hKX => ?_) AllReadyH.nil
   clear hh
   go_simp
   have HSZ := hid HBX.out.size
   refine (FJoin_g okt _ K _ _ o f _ (HT.out.below0 HI.out) HO.out HV.out (szB_szF HOZ.out) (szB_szF HZ.out)).mono ?_
   rw [HJJ.out]
   rintro e w2 ⟨vg,rfl,⟨kl,el,ks,es',rfl,k1,k2⟩,hbn⟩
   replace HJ := hid (HJ.out.bel hbn)
   replace HV := hid (HV.out.below hbn)
   replace HO := hid (HO.out.below hbn)
   replace HI := hid (HI.out.bel hbn)
   replace HB := hid (HB.out.trans (hbn.mono HB.out.size))
   replace HBX := hid (HBX.out.trans (hbn.mono HBX.out.size))
   replace HGG := hid (blk_b HGG.out hbn)
   have HK : Hid (RdO (fun b => w1.heap.size <= b /\ b ≠ gg) w2 (.agg #[.bool J.1.1,.slice kl J.1.2.1.length el,.slice ks J.1.2.2.length es']) J.1) := hid (RdO.step (ok := fun b => _ <= b) ⟨kl,el,ks,es',rfl,k1,k2⟩ (fun b hb _ => by have h1 : _ <= b := hb; have := HGL.out; have := HNX.out; omega) (fun _ _ _ => rfl) (Nat.le_refl _))
   clear hbn k1 k2
   refine hKX.out _ _ (by first | exact HJ.out | exact HJK.out) (fun hh => ?_)
   clear hKX KX
   try go_frame
   refine tkA 13 _ hh ?_
   try go_frame
   refine tkA 14 _ hh ?_
   try go_frame
   refine tkA 15 _ hh ?_
   try go_frame
   refine rdH [17] ?_
   refine AllReadyH.cons (o := _) (by simp only [List.getElem?_toArray,List.getElem?_cons_succ,List.getElem?_cons_zero]; rfl) (fun KX hKX => ?_) AllReadyH.nil
   clear hh
   obtain ⟨rl,rc,rf⟩ := boxN HGG.out
   have r0 := rc 0 _ rfl
   have r1 := rc 1 _ rfl
   have r2 := rc 2 _ rfl
   have u0 := rf 0
   have u1 := rf 1
   have u2 := rf 2
   simp only [Nat.zero_add] at r0 r1 r2
   clear rc rf
   go_simp
   have HJK : Hid (JC (((w2.setCell ⟨gg,0,none⟩ (.bool J.1.1)).setCell ⟨gg,1,none⟩ (.slice kl J.1.2.1.length el)).setCell ⟨gg,2,none⟩ (.slice ks J.1.2.2.length es')) g gw fb tb wb nc a (.bool f.1) (.slice pl f.2.1.length cl) (.slice ps f.2.2.length cs) (.bool o.1) (.slice ql o.2.1.length dl) (.slice qs o.2.2.length ds)) := hid (HJ.out.set3 (by have := HNX.out; have := HJN.out; omega) (by have := HNX.out; have := HJN.out; omega) (by have := HNX.out; have := HJN.out; omega))
   refine hKX.out _ _ (by first | exact HJ.out | exact HJK.out) (fun hh => ?_)
   clear hKX KX
   try go_frame
   refine tkA 18 _ hh ?_
   try go_frame
   refine wpAnyH_done (by kernel_rfl) ?_ _
   clear hh
   go_wp2_with fail
   go_meet
   case rel => exact ⟨gg,kl,el,ks,es',rfl,rfl,hid (by rw [heap3_st HGG.out]),hid (HK.out.set3),hid (HBX.out.trans ((set3_kpt _ gg 0 1 2 _ _ _).below (fun x hx => by simp at hx; have := HNX.out; omega) HBX.out.size)),HNX⟩
  case rest =>
   obtain ⟨gg,kl,el,ks,es',rfl,rfl,HGG,HK,HBX,HNX⟩ := hcut
   have HJN : Hid (fb < w1.heap.size) := hid HJ.out.2.2.1
   have hbn := HBX.out
   replace HJ := hid (HJ.out.bel hbn)
   replace HV := hid (HV.out.below hbn)
   replace HO := hid (HO.out.below hbn)
   replace HI := hid (HI.out.bel hbn)
   replace HB := hid (HB.out.trans (hbn.mono HB.out.size))
   clear hbn HBX
   by_cases hj : J.2 = 0
   ·have hj2 : (J.2 != 0) = false := by simpa using hj
    have h9 := HR2.out
    rw [if_neg (by simpa using hj)] at h9
    have HR3 := hid h9
    clear h9 HR2
    cases hzj : szB J.1 with
    | false => have h9 := HR3.out; rw [if_pos hzj] at h9; cases h9
    | true =>
     have HZJ := hid hzj
     replace HR3 : Hid _ := hid (by have h9 := HR3.out; rw [if_neg (by rw [hzj]; simp)] at h9; exact h9)
     clear hzj
     go_upto_region 6 with fail
     have hbn := (Below.refl wc.heap.size wc).drew
     replace HJ := hid (HJ.out.bel hbn)
     replace HV := hid (HV.out.below hbn)
     replace HO := hid (HO.out.below hbn)
     replace HI := hid (HI.out.bel hbn)
     replace HB := hid (HB.out.trans (hbn.mono HB.out.size))
     replace HK := hid (HK.out.bel hbn)
     replace HGG : Hid (wc.drew.heap[gg]? = _) := hid HGG.out
     clear hbn
     have HJ6 : Hid (JC wc.drew gg gw fb tb wb nc a (.bool J.1.1) (.slice kl J.1.2.1.length el) (.slice ks J.1.2.2.length es') (.bool o.1) (.slice ql o.2.1.length dl) (.slice qs o.2.2.length ds)) := hid ⟨c3_at HGG.out,HJ.out.2⟩
     refine wp_region_held_drew (S := fun W => (gg < W.heap.size /\ W.cell? ⟨gg,0,none⟩ = some (.bool J.1.1) /\ W.cell? ⟨gg,1,none⟩ = some (.slice kl J.1.2.1.length el) /\ W.cell? ⟨gg,2,none⟩ = some (.slice ks J.1.2.2.length es')) /\ (gw < W.heap.size /\ W.cell? ⟨gw,0,none⟩ = some (.pointer (some ⟨tb,0,none⟩)) /\ W.cell? ⟨gw,10,none⟩ = some (.slice (some ⟨fb,0,none⟩) nc nc) /\ W.cell? ⟨gw,11,none⟩ = some (.pointer (some ⟨wb,0,none⟩))) /\ (fb < W.heap.size /\ W.cell? ⟨fb,a * 3,none⟩ = some (.bool o.1) /\ W.cell? ⟨fb,a * 3 + 1,none⟩ = some (.slice ql o.2.1.length dl) /\ W.cell? ⟨fb,a * 3 + 2,none⟩ = some (.slice qs o.2.2.length ds))) (by kernel_rfl) HJ6.out (fun hh => ?_)
     refine tkB 0 _ hh ?_
     try go_frame
     refine tkA 1 _ hh ?_
     try go_frame
     refine tkA 2 _ hh ?_
     try go_frame
     refine tkA 3 _ hh ?_
     try go_frame
     refine tkB 4 _ hh ?_
     try go_frame
     refine tkA 5 _ hh ?_
     try go_frame
     refine tkA 6 _ hh ?_
     try go_frame
     refine tkB 7 _ hh ?_
     try go_frame
     refine rdH [8] ?_
     refine AllReadyH.cons (o := _) (by simp only [List.getElem?_toArray,List.getElem?_cons_succ,List.getElem?_cons_zero]; rfl) (fun KX hKX => ?_) AllReadyH.nil
     clear hh
     go_simp
     refine (FSame_f _ _ J.1 o _ HK.out.rd HO.out (szB_szF HZJ.out) (szB_szF HOZ.out)).mono ?_
     rintro e w3 ⟨rfl,hbn⟩
     replace HJ := hid (HJ.out.bel hbn)
     replace HV := hid (HV.out.below hbn)
     replace HO := hid (HO.out.below hbn)
     replace HI := hid (HI.out.bel hbn)
     replace HB := hid (HB.out.trans (hbn.mono HB.out.size))
     replace HK := hid (HK.out.bel hbn)
     replace HGG := hid (blk_b HGG.out hbn)
     replace HJ6 := hid (HJ6.out.bel hbn)
     clear hbn
     refine hKX.out _ _ HJ6.out (fun hh => ?_)
     clear hKX KX
     try go_frame
     refine tkA 9 _ hh ?_
     try go_frame
     refine wpAnyH_done (by kernel_rfl) ?_ _
     clear hh
     by_cases hjo : J.1 = o
     ·have h9 := HR3.out
      rw [if_pos hjo] at h9
      obtain rfl := Option.some.inj h9
      clear h9 HR3
      rw [decide_eq_true hjo]
      go_wp2_with fail
      go_ret
      exact ⟨rfl,⟨okN,fun b hb => .inl ((HOK.out b).1 hb).1,HI.out,S.Kp.of_kpt (S := []) (S.Kpt.of_below HB.out) (fun x hx => by cases hx)⟩⟩
     ·rw [decide_eq_false hjo]
      have h9 := HR3.out
      rw [if_neg hjo] at h9
      have HR4 := hid h9
      clear h9 HR3 hjo
      by_cases h5 : 5000 < E.length ∨ 5000 < N.length
      ·have h9 := HR4.out
       rw [if_pos h5] at h9
       cases h9
      ·have HE5 : Hid (E.length <= 5000 /\ N.length <= 5000) := hid (by omega)
       have h9 := HR4.out
       rw [if_neg h5] at h9
       obtain rfl := Option.some.inj h9
       clear h9 HR4 h5
       have HNF : Hid (gg ≠ fb /\ gw ≠ fb) := hid ⟨by have := HNX.out; have := HJN.out; omega,HI.out.2.2.2.2.2.1.2.2⟩
       go_upto_region 7 with fail
       obtain ⟨-,-,yl,y0,y1,y2⟩ := HJ6.out
       have z0 : w3.drew.cell? ⟨fb,a * 3,none⟩ = _ := y0
       have z1 : w3.drew.cell? ⟨fb,a * 3 + 1,none⟩ = _ := y1
       have z2 : w3.drew.cell? ⟨fb,a * 3 + 2,none⟩ = _ := y2
       have f0 := HI.out.2.1.frz (a * 3)
       have f1 := HI.out.2.1.frz (a * 3 + 1)
       have f2 := HI.out.2.1.frz (a * 3 + 2)
       have g0 : w3.drew.frozen? ⟨fb,a * 3,none⟩ = _ := f0
       have g1 : w3.drew.frozen? ⟨fb,a * 3 + 1,none⟩ = _ := f1
       have g2 : w3.drew.frozen? ⟨fb,a * 3 + 2,none⟩ = _ := f2
       refine wp_region_held_drew (S := fun W => (gg < W.heap.size /\ W.cell? ⟨gg,0,none⟩ = some (.bool J.1.1) /\ W.cell? ⟨gg,1,none⟩ = some (.slice kl J.1.2.1.length el) /\ W.cell? ⟨gg,2,none⟩ = some (.slice ks J.1.2.2.length es')) /\ (gw < W.heap.size /\ W.cell? ⟨gw,0,none⟩ = some (.pointer (some ⟨tb,0,none⟩)) /\ W.cell? ⟨gw,10,none⟩ = some (.slice (some ⟨fb,0,none⟩) nc nc) /\ W.cell? ⟨gw,11,none⟩ = some (.pointer (some ⟨wb,0,none⟩)))) (by kernel_rfl) (by first | exact ⟨HJ6.out.1,HJ6.out.2.1⟩ | exact ⟨c3_kg HJ6.out.1 (set3_kpt _ _ _ _ _ _ _ _) HNF.out.1,c3_kg HJ6.out.2.1 (set3_kpt _ _ _ _ _ _ _ _) HNF.out.2⟩ | exact ⟨c3_kg HJ6.out.1 (set3_kpt _ _ _ _ _ _ _ _).drew HNF.out.1,c3_kg HJ6.out.2.1 (set3_kpt _ _ _ _ _ _ _ _).drew HNF.out.2⟩) (fun hh => ?_)
       refine tkA 0 _ hh ?_
       try go_frame
       refine tkA 1 _ hh ?_
       try go_frame
       refine tkA 2 _ hh ?_
       try go_frame
       refine tkB 3 _ hh ?_
       try go_frame
       refine tkA 4 _ hh ?_
       try go_frame
       refine tkB 5 _ hh ?_
       try go_frame
       refine tkA 6 _ hh ?_
       try go_frame
       refine rdH [7] ?_
       refine AllReadyH.cons (o := _) (by simp only [List.getElem?_toArray,List.getElem?_cons_succ,List.getElem?_cons_zero]; rfl) (fun KX hKX => ?_) AllReadyH.nil
       clear hh
       go_simp
       refine hKX.out _ _ (by first | exact ⟨HJ6.out.1,HJ6.out.2.1⟩ | exact ⟨c3_kg HJ6.out.1 (set3_kpt _ _ _ _ _ _ _ _) HNF.out.1,c3_kg HJ6.out.2.1 (set3_kpt _ _ _ _ _ _ _ _) HNF.out.2⟩ | exact ⟨c3_kg HJ6.out.1 (set3_kpt _ _ _ _ _ _ _ _).drew HNF.out.1,c3_kg HJ6.out.2.1 (set3_kpt _ _ _ _ _ _ _ _).drew HNF.out.2⟩) (fun hh => ?_)
       clear hKX KX
       try go_frame
       refine wpAnyH_done (by kernel_rfl) ?_ _
       clear hh yl y0 y1 y2 z0 z1 z2 f0 f1 f2 g0 g1 g2
       obtain ⟨w4,hw4⟩ : ∃ z,z = (((w3.setCell ⟨fb,a * 3,none⟩ (.bool J.1.1)).setCell ⟨fb,a * 3 + 1,none⟩ (.slice kl J.1.2.1.length el)).setCell ⟨fb,a * 3 + 2,none⟩ (.slice ks J.1.2.2.length es')).drew := ⟨_,rfl⟩
       have HI4 : Hid (FlI w0 okN w4 gw fb wb tb m pp pc ph np cp nc cc nh ch (F.set a J.1,E,N)) := hid (by rw [hw4]; refine FlI.drew (HI.out.put (by have := HA.out; have := HLN.out; omega) HZJ.out (HK.out.ro.step (fun b hb _ => ⟨fun hx => ?_,?_,?_⟩) (fun _ _ _ => rfl) (Nat.le_refl _))); (· have := ((HOK.out b).1 hx).2; have := HJN.out; have := HW1.out; omega); (· have := HJN.out; omega); (have := HW0.out; have := HW1.out; omega))
       have HK4 : Hid (S.Kp (fun b => okW b ∨ b = fb) w w4) := hid (by rw [hw4]; exact S.Kp.trans (S.Kp.of_kpt (S := []) (S.Kpt.of_below HB.out) (fun x hx => by cases hx)) (S.Kp.of_kpt (S := [fb]) ((set3_kpt _ _ _ _ _ _ _ _).drew : Kpt [fb] _ _) (fun x hx _ => .inr (List.mem_singleton.1 hx))))
       have HS4 : Hid (w.heap.size <= w4.heap.size) := hid HK4.out.size
       rw [<- hw4]
       clear hw4 HI HJ6 HJ HV HO HGG HK HB
       go_upto_region 8 with fail
       obtain ⟨wl,⟨v0,v10,v11⟩,-⟩ := HI4.out.cells
       go_wp2_with fail
       have HQ4 := HI4.out.2.2.1
       clear wl v0 v10 v11
       refine (S.again_I (fun b => okN b ∨ w4.heap.size <= b) wb E N (a : Int) w4 (HI4.out.2.2.1.mono (fun b hb _ => .inl hb)) (okI_nat a (by have := HA.out; have := HN.out; omega)) (by have := HE5.out; omega) (by have := HE5.out; omega) (fun b hb => .inr hb)).mono ?_
       rintro e w5 ⟨rfl,hq,hk⟩
       have HI5 := hid (HI4.out.work (okA := fun b => okN b ∨ w4.heap.size <= b) (fun b hb => hb) hq hk)
       have HK5 : Hid (S.Kp (fun b => okW b ∨ b = fb) w w5) := hid (kp_trans0 HK4.out hk (fun b hb hl => by (rcases hb with hb | hb); (· exact .inl ((HOK.out b).1 hb).1); (have := HK4.out.size; omega)))
       clear hq hk HQ4
       go_wp2_with fail
       go_ret
       exact ⟨rfl,_,fun b hb => by (rcases hb with hb | hb); (· exact .inl ((HOK.out b).1 hb).1); (have := HS4.out; exact .inr (by omega)),HI5.out,HK5.out⟩
   ·have hj2 : (J.2 != 0) = true := by simpa using hj
    have h9 := HR2.out
    rw [if_pos hj] at h9
    obtain rfl := Option.some.inj h9
    clear h9 HR2
    go_wp2_with fail
    go_ret
    exact ⟨rfl,⟨okN,fun b hb => .inl ((HOK.out b).1 hb).1,HI.out,S.Kp.of_kpt (S := []) (S.Kpt.of_below HB.out) (fun x hx => by cases hx)⟩⟩
end Go.Proofs.YtfpeakkbbfnhcaaGreat.R
namespace Go.Proofs.YtfpeakkbbfnhcaaGreat.A
open Go.RowKit Go.Proofs.YtfpeakkbbfnhcaaGreat.D Go.Proofs.YtfpeakkbbfnhcaaGreat.O
theorem ret_two {a b c d : Int} (h : (a,b) = (c,d)) : Ending.returned (.tuple #[.int .i64 a,.int .i64 b]) = .returned (.tuple #[.int .i64 c,.int .i64 d]) := by cases h; rfl
theorem within_l (k n : Int) (w : World) : Calls Tryz.prog 130 #[.int .i64 k,.int .i64 n] w fun e w' => e = .returned (.bool (inB k n)) /\ w = w' := by
 go_enter Tryz.func130,Tryz.ntmps130
 go_wp2
 all_goals go_ret
 all_goals refine ⟨D.ret_bool ?_,rfl⟩
 all_goals (rw [Bool.eq_iff_iff]; simp [inB]; try omega)
theorem args_any (nm r1 : ByteArray) (r0 lo : Int) (st ab : Bool) (pp pc ph : Option Addr) (np cp nc cc nh ch : Nat) (w : World) (hn : np <= 1000000) : Calls Tryz.prog 81 #[.agg #[.string nm,.slice pp np cp,.int .i64 r0,.string r1,.bool st,.bool ab,.int .i64 lo,.slice pc nc cc,.slice ph nh ch]] w fun e w' => e = .returned (.int .i64 (if st then (np : Int) else 1 + (np : Int))) /\ Below w.heap.size w w' := by
 cases st
 all_goals
  go_enter Tryz.func81,Tryz.ntmps81
  go_wp2_with fail
  go_ret
  exact ⟨rfl,(Below.refl _ _).alloc (Nat.le_refl _) _⟩
theorem runs_any (nm r1 : ByteArray) (r0 lo : Int) (st ab : Bool) (pp pc ph : Option Addr) (np cp nc cc nh ch : Nat) (w : World) : Calls Tryz.prog 80 #[.agg #[.string nm,.slice pp np cp,.int .i64 r0,.string r1,.bool st,.bool ab,.int .i64 lo,.slice pc nc cc,.slice ph nh ch]] w fun e w' => e = .returned (.bool (decide (0 < nc ∨ 0 < nh ∨ lo ≠ 0))) /\ Below w.heap.size w w' := by
 go_enter Tryz.func80,Tryz.ntmps80
 go_wp2
 all_goals go_ret
 all_goals refine ⟨D.ret_bool ?_,(Below.refl _ _).alloc (Nat.le_refl _) _⟩
 all_goals (rw [Bool.eq_iff_iff]; simp <;> omega)
theorem stands_any (f t a n : Int) (c : ByteArray) (w : World) : Calls Tryz.prog 83 #[.agg #[.int .i64 f,.int .i64 t,.int .i64 a,.string c],.int .i64 n] w fun e w' => e = .returned (.bool (standsB n (f,t,a,c))) /\ Below w.heap.size w w' := by
 by_cases h0 : 0 <= f
 ·by_cases h1 : f < t
  ·by_cases h2 : t <= n
   ·go_enter Tryz.func83,Tryz.ntmps83
    go_wp2_with fail
    refine (within_l a n _).mono ?_
    rintro e w1 ⟨rfl,rfl⟩
    go_wp2_with fail
    go_ret
    exact ⟨D.ret_bool (by unfold standsB; simp [h0,h1,h2]),(Below.refl _ _).alloc (Nat.le_refl _) _⟩
   ·go_enter Tryz.func83,Tryz.ntmps83
    go_wp2_with fail
    go_ret
    exact ⟨D.ret_bool (by unfold standsB; simp; omega),(Below.refl _ _).alloc (Nat.le_refl _) _⟩
  ·go_enter Tryz.func83,Tryz.ntmps83
   go_wp2_with fail
   go_ret
   exact ⟨D.ret_bool (by unfold standsB; simp; omega),(Below.refl _ _).alloc (Nat.le_refl _) _⟩
 ·go_enter Tryz.func83,Tryz.ntmps83
  go_wp2_with fail
  go_ret
  exact ⟨D.ret_bool (by unfold standsB; simp; omega),(Below.refl _ _).alloc (Nat.le_refl _) _⟩
theorem finds_any (nm r1 : ByteArray) (r0 lo : Int) (st ab : Bool) (pp pc ph : Option Addr) (np cp nc cc nh ch : Nat) (o n k : Int) (s c d g : ByteArray) (w : World) : Calls Tryz.prog 129 #[.agg #[.string nm,.slice pp np cp,.int .i64 r0,.string r1,.bool st,.bool ab,.int .i64 lo,.slice pc nc cc,.slice ph nh ch],.agg #[.int .i64 o,.int .i32 n,.int .i64 k,.string s,.string c,.string d,.string g]] w fun e w' => e = .returned (.bool (findsB lo nc (o,n,k,s,c,d,g))) /\ Below w.heap.size w w' := by
 have HB : Hid (∀ w : World,∀ x y,Below w.heap.size w ((w.alloc x).alloc y)) := hid (fun w x y => ((Below.refl _ _).alloc (Nat.le_refl _) _).alloc (by simp) _)
 by_cases h4 : o = 4
 ·subst h4
  go_enter Tryz.func129,Tryz.ntmps129
  go_wp2_with fail
  refine (within_l k lo _).mono ?_
  rintro e w1 ⟨rfl,rfl⟩
  go_wp2_with fail
  go_ret
  exact ⟨D.ret_bool (by unfold findsB; simp),HB.out _ _ _⟩
 ·by_cases h5 : o = 5
  ·subst h5
   go_enter Tryz.func129,Tryz.ntmps129
   go_wp2_with fail
   refine (within_l k lo _).mono ?_
   rintro e w1 ⟨rfl,rfl⟩
   go_wp2_with fail
   go_ret
   exact ⟨D.ret_bool (by unfold findsB; simp),HB.out _ _ _⟩
  ·cases hj : jumpsB o with
   | true =>
    have HF : Hid (findsB lo nc (o,n,k,s,c,d,g) = inB k nc) := hid (by unfold findsB; simp [h4,h5,hj])
    go_enter Tryz.func129,Tryz.ntmps129
    go_wp2_with fail
    refine (O.jumps_any o _).mono ?_
    rintro e w1 ⟨rfl,rfl⟩
    rw [hj]
    go_wp2_with fail
    refine (within_l k nc _).mono ?_
    rintro e w1 ⟨rfl,rfl⟩
    go_wp2_with fail
    go_ret
    exact ⟨D.ret_bool HF.out.symm,HB.out _ _ _⟩
   | false =>
    have HF : Hid (findsB lo nc (o,n,k,s,c,d,g) = true) := hid (by unfold findsB; simp [h4,h5,hj])
    go_enter Tryz.func129,Tryz.ntmps129
    go_wp2_with fail
    refine (O.jumps_any o _).mono ?_
    rintro e w1 ⟨rfl,rfl⟩
    rw [hj]
    go_wp2_with fail
    go_ret
    exact ⟨D.ret_bool HF.out.symm,HB.out _ _ _⟩
theorem code_any (nm r1 : ByteArray) (r0 lo : Int) (st ab : Bool) (pp pc ph : Option Addr) (np cp nc cc nh ch : Nat) (c : List Ins) (ok : Nat -> Prop) (w : World) (hr : RdX 7 (sP insC) ok w (.slice pc nc cc) c) (hn : ¬ c = []) (hl : c.length <= 1000000) :
  Calls Tryz.prog 82 #[.agg #[.string nm,.slice pp np cp,.int .i64 r0,.string r1,.bool st,.bool ab,.int .i64 lo,.slice pc nc cc,.slice ph nh ch]] w fun e w' => e = .returned (.tuple #[.int .i64 (codeA lo c).1,.int .i64 (codeA lo c).2]) /\ Below w.heap.size w w' := by
 obtain ⟨b,off,rfl,hnc,-,hok,hlt,hc⟩ := hr.place hn
 have HC := hid hc
 obtain ⟨n,rfl⟩ : ∃ n,nc = n + 1 := ⟨nc - 1,by have := List.length_pos_iff.2 hn; omega⟩
 have hm2 : n <= 1000000 := by omega
 have HN := hid hnc
 clear hc hr hnc hn hl
 go_enter Tryz.func82,Tryz.ntmps82
 go_wp2_with fail
 go_loopw [10] (fun i wr => ∃ k : Nat,k <= n + 1 /\ i = .int .i64 k /\ Hid (∀ j x,j < k -> c[j]? = some x -> findsB lo c.length x = true) /\ Hid (Below (w.alloc (.cells #[.string nm,.slice pp np cp,.int .i64 r0,.string r1,.bool st,.bool ab,.int .i64 lo,.slice (some ⟨b,off,none⟩) (n + 1) cc,.slice ph nh ch] 49)).heap.size (w.alloc (.cells #[.string nm,.slice pp np cp,.int .i64 r0,.string r1,.bool st,.bool ab,.int .i64 lo,.slice (some ⟨b,off,none⟩) (n + 1) cc,.slice ph nh ch] 49)) wr)) (fun i _ => n + 1 - (intOf i).toNat)
 case atStart => exact ⟨0,Nat.zero_le _,rfl,hid (fun j x h => absurd h (Nat.not_lt_zero _)),hid (Below.refl _ _)⟩
 case round =>
  obtain ⟨k,hk,rfl,HR,HBX⟩ := hrel
  have hxb := boxed (vs := [.string nm,.slice pp np cp,.int .i64 r0,.string r1,.bool st,.bool ab,.int .i64 lo,.slice (some ⟨b,off,none⟩) (n + 1) cc,.slice ph nh ch]) HBX.out
  obtain ⟨q0,q1,q2,q3,q4,q5,q6,q7,q8⟩ := z9 hxb.1
  have hbl := hxb.2.2
  have hxlt := hxb.2.1
  have hsz := hbl.size
  clear hxb
  by_cases hlt2 : k < n + 1
  ·obtain ⟨x,hx⟩ : ∃ x,c[k]? = some x := ⟨_,List.getElem?_eq_getElem (by have := HN.out; omega)⟩
   have hcl := (sP_at (HC.out k x hx)).below hbl hlt
   obtain ⟨s0,s1,s2,s3,s4,s5,s6⟩ := x
   obtain ⟨hc0,hc1,hc2,hc3,hc4,hc5,hc6⟩ := CellsAt.seven hcl
   have HX := hid hx
   clear hx hcl
   go_wp2_with fail
   refine (finds_any _ _ _ _ _ _ _ _ _ _ _ _ _ _ _ _ _ _ _ _ _ _ _).mono ?_
   rintro e w1 ⟨rfl,hb1⟩
   have hb1' : Hid (Below _ _ w1) := hid (HBX.out.trans ((Below.refl _ _).alloc (Nat.le_refl _) _ |>.trans (hb1.mono (by simp)) |>.mono HBX.out.size))
   have hcn : c.length = n + 1 := HN.out.symm
   cases hfx : findsB lo ((n + 1 : Nat) : Int) (s0,s1,s2,s3,s4,s5,s6) with
   | false =>
    have HF : Hid (codeA lo c = ((k : Int),28)) := hid (by unfold codeA; rw [badAt_some (fun j x hj hx => HR.out j x hj hx) HX.out (by rw [hcn]; exact hfx)])
    have hB := (boxed (vs := [.string nm,.slice pp np cp,.int .i64 r0,.string r1,.bool st,.bool ab,.int .i64 lo,.slice (some ⟨b,off,none⟩) (n + 1) cc,.slice ph nh ch]) hb1'.out).2.2
    clear hcn
    go_wp2_with fail
    refine bodyPost_ret (v := .tuple #[.int .i64 (k : Int),.int .i64 28]) (by simp [*,results,Tryz.results82,go_sem]) rfl ⟨ret_two HF.out.symm,hB⟩
   | true =>
    have HS : Hid (∀ j x,j < k + 1 -> c[j]? = some x -> findsB lo c.length x = true) := hid (by
     intro j y hj hy
     by_cases ej : j = k
     ·subst ej
      rw [HX.out] at hy
      cases hy
      rw [hcn]
      exact hfx
     ·exact HR.out j y (by omega) hy)
    clear hcn
    go_wp2_with fail
    go_roundw
    case rel => exact ⟨k + 1,by omega,by go_num,HS,hb1'⟩
    case measure => simp [intOf]; omega
  ·obtain rfl : k = n + 1 := by omega
   obtain ⟨x,hx⟩ : ∃ x,c[n]? = some x := ⟨_,List.getElem?_eq_getElem (by have := HN.out; omega)⟩
   have HD : Hid (codeA lo c = if endsB x.1 then (0,0) else (((n + 1 : Nat) : Int) - 1,31)) := hid (by
    have hL : lastB c = endsB x.1 := by unfold lastB; rw [<- HN.out,Nat.add_sub_cancel,hx]
    unfold codeA
    rw [badAt_none (fun j x hx => HR.out j x (by have := (List.getElem?_eq_some_iff.1 hx).1; have := HN.out; omega) hx),hL,<- HN.out])
   have hcl := (sP_at (HC.out n x hx)).below hbl hlt
   obtain ⟨s0,s1,s2,s3,s4,s5,s6⟩ := x
   obtain ⟨hc0,hc1,hc2,hc3,hc4,hc5,hc6⟩ := CellsAt.seven hcl
   clear hx hcl HR hlt2 hk
   go_wp2_with fail
   refine (O.ends_any s0 _).mono ?_
   rintro e w1 ⟨rfl,rfl⟩
   cases he : endsB s0 with
   | true =>
    have HF : Hid (codeA lo c = (0,0)) := hid (by rw [HD.out]; show (if endsB s0 = true then _ else _) = _; rw [if_pos he])
    go_wp2_with fail
    refine bodyPost_ret (v := .tuple #[.int .i64 0,.int .i64 0]) (by simp [*,results,Tryz.results82,go_sem]) rfl ⟨ret_two HF.out.symm,hbl⟩
   | false =>
    have HF : Hid (codeA lo c = ((n : Int),31)) := hid (by rw [HD.out]; show (if endsB s0 = true then _ else _) = _; rw [if_neg (by rw [he]; decide)]; simp)
    go_wp2_with fail
    refine bodyPost_ret (v := .tuple #[.int .i64 (n : Int),.int .i64 31]) (by simp [*,results,Tryz.results82,go_sem]) rfl ⟨ret_two HF.out.symm,hbl⟩
end Go.Proofs.YtfpeakkbbfnhcaaGreat.A
