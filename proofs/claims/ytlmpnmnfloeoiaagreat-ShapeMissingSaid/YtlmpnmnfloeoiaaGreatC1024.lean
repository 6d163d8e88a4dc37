/- Texts that the proof is made of, joined. No condition. -/
import Derived.Test.YtlmpnmnfloeoiaaGreatC1023
import Derived.Test.YtlmpnmnfloeoiaaGreatC100
import Derived.Test.YtlmpnmnfloeoiaaGreatC10H
set_option linter.unusedVariables false
set_option linter.unusedSimpArgs false
set_option maxRecDepth 100000
set_option maxHeartbeats 16000000
namespace Go.Proofs.YtlmpnmnfloeoiaaGreat.R
open Go.RowKit Go.Proofs.YtlmpnmnfloeoiaaGreat.D Go.Proofs.YtlmpnmnfloeoiaaGreat.O Go.Proofs.YtlmpnmnfloeoiaaGreat.A
def flC (m : Mth) : List Value := [.string m.name, .slice none 0 0, .int .i64 m.ret.1, .string m.ret.2, .bool m.st, .bool m.ab, .int .i64 m.locals, .slice none 0 0, .slice none 0 0]
theorem shape_fl : Shape (sP flC) 9 := fun _ _ vs x h => by
  have : vs = flC x := h
  subst this
  exact ⟨rfl, by simp [flC, Value.oneCell']⟩
def flat (m : Mth) : Prop := m.params = [] ∧ m.code = [] ∧ m.hs = []
theorem rd_flat {ok : Nat → Prop} {W : World} {v : Value} {ms : List Mth} (h : RdX 9 (sP flC) ok W v ms) (hf : ∀ m ∈ ms, flat m) : RdX 9 mP ok W v ms := by
  obtain ⟨p, cap, e, h1, h2, h3⟩ := h
  refine ⟨p, cap, e, h1, h2, ?_⟩
  rcases h3 with h3 | ⟨b, off, rfl, hb, hlt, h3⟩
  · exact .inl h3
  · refine .inr ⟨b, off, rfl, hb, hlt, fun i x hx => ?_⟩
    obtain ⟨vs, hv, hc⟩ := h3 i x hx
    obtain ⟨f1, f2, f3⟩ := hf x (List.mem_of_getElem? hx)
    exact ⟨vs, ⟨_, _, _, hv, by rw [f1]; exact RdX.nil _ _ _ _, by rw [f2]; exact RdX.nil _ _ _ _, by rw [f3]; exact RdX.nil _ _ _ _⟩, hc⟩
theorem flat_mv (n : ByteArray) (st ab : Bool) (k : Int) : flat (mthV n st ab k) := ⟨rfl, rfl, rfl⟩
def apart (a b : Value) : Prop := ∀ g, a.ownBlock = some g → b.ownBlock ≠ some g
theorem apart.symm {a b : Value} (h : apart a b) : apart b a := fun g e e2 => h g e2 e
theorem apart.grow {a b v : Value} {n : Nat} (h : apart a b) (hb : ∀ g, b.ownBlock = some g → g < n) (hl : v.ownBlock = a.ownBlock ∨ v.ownBlock = some n) : apart v b := fun g e e2 => by
  rcases hl with e' | e'
  · exact h g (by rw [← e']; exact e) e2
  · rw [e'] at e; cases e; exact Nat.lt_irrefl _ (hb _ e2)
def MsR (W : World) (B xb gc gi : Nat) (kq : Int) (v0 v1 v2 vw : Value) (L0 L1 L2 : List Mth) (LW : List ByteArray) : Prop :=
  (W.heap[xb]? = some (.cells #[.slice (some ⟨gc, 0, none⟩) 3 3] 30 (0, 0)) ∧ W.heap[gc]? = some (.cells #[.string ⟨#[80]⟩, .string ⟨#[79, 98, 106, 101, 99, 116]⟩, .slice none 0 0, .int .i64 2, .slice none 0 0, v0, .string ⟨#[81]⟩, .string ⟨#[80]⟩, .slice (some ⟨gi, 0, none⟩) 1 1, .int .i64 kq, .slice none 0 0, v1, .string ⟨#[73]⟩, .string ⟨#[79, 98, 106, 101, 99, 116]⟩, .slice none 0 0, .int .i64 4, .slice none 0 0, v2] 27 (0, 0)) ∧ W.heap[gi]? = some (.cells #[.string ⟨#[73]⟩] 9 (0, 0)) ∧ xb < B ∧ gc < B ∧ gi < B ∧ xb ≠ gc ∧ gi ≠ gc) ∧
  OwnX 9 42 (sP flC) W B v0 L0 ∧ OwnX 9 42 (sP flC) W B v1 L1 ∧ OwnX 9 42 (sP flC) W B v2 L2 ∧ S.OwnC S.cS 9 W B vw LW ∧
  apart v0 v1 ∧ apart v0 v2 ∧ apart v0 vw ∧ apart v1 v2 ∧ apart v1 vw ∧ apart v2 vw
theorem MsR.below {W W' : World} {B xb gc gi : Nat} {kq : Int} {v0 v1 v2 vw : Value} {L0 L1 L2 : List Mth} {LW : List ByteArray} (h : MsR W B xb gc gi kq v0 v1 v2 vw L0 L1 L2 LW) (hb : Below W.heap.size W W') : MsR W' B xb gc gi kq v0 v1 v2 vw L0 L1 L2 LW := by
  obtain ⟨⟨h1, h2, h3, h4⟩, a0, a1, a2, aw, ap⟩ := h
  have k : Kpt [] W W' := .of_below hb
  exact ⟨⟨(hb.block _ (Array.getElem?_eq_some_iff.1 h1).1).trans h1, (hb.block _ (Array.getElem?_eq_some_iff.1 h2).1).trans h2, (hb.block _ (Array.getElem?_eq_some_iff.1 h3).1).trans h3, h4⟩, a0.kptS k (fun _ _ => by simp), a1.kptS k (fun _ _ => by simp), a2.kptS k (fun _ _ => by simp), aw.kpt (S.Kpt.of_below (S := []) hb) (by simp), ap⟩
theorem MsR.held {W : World} {B xb gc gi : Nat} {kq : Int} {v0 v1 v2 vw : Value} {L0 L1 L2 : List Mth} {LW : List ByteArray} (h : MsR W B xb gc gi kq v0 v1 v2 vw L0 L1 L2 LW) : W.cell? ⟨xb, 0, none⟩ = some (.slice (some ⟨gc, 0, none⟩) 3 3) := by simp [World.cell?, h.1.1]
theorem MsR.row {W : World} {B xb gc gi : Nat} {kq : Int} {v0 v1 v2 vw : Value} {L0 L1 L2 : List Mth} {LW : List ByteArray} (h : MsR W B xb gc gi kq v0 v1 v2 vw L0 L1 L2 LW) : gc < W.heap.size ∧ W.cell? ⟨gc, 5, none⟩ = some v0 ∧ W.cell? ⟨gc, 11, none⟩ = some v1 ∧ W.cell? ⟨gc, 17, none⟩ = some v2 ∧ ∀ k, W.frozen? ⟨gc, k, none⟩ = false := by
  refine ⟨(Array.getElem?_eq_some_iff.1 h.1.2.1).1, ?_, ?_, ?_, fun k => ?_⟩ <;> simp [World.cell?, World.frozen?, h.1.2.1]
theorem MsR.app0 {W w6 : World} {B xb gc gi : Nat} {kq : Int} {v0 v1 v2 vw v' : Value} {L0 L1 L2 : List Mth} {LW : List ByteArray} {m : Mth} (h : MsR W B xb gc gi kq v0 v1 v2 vw L0 L1 L2 LW) (ho : OwnX 9 42 (sP flC) w6 B v' (L0 ++ [m])) (hg : W.grownBy w6 v0.ownBlock) (hl : v'.ownBlock = v0.ownBlock ∨ v'.ownBlock = some W.heap.size) :
    gc < w6.heap.size ∧ w6.cell? ⟨gc, 5, none⟩ = some v0 ∧ w6.frozen? ⟨gc, 5, none⟩ = false ∧ MsR (w6.setCell ⟨gc, 5, none⟩ v') B xb gc gi kq v' v1 v2 vw (L0 ++ [m]) L1 L2 LW ∧ Below gc W (w6.setCell ⟨gc, 5, none⟩ v') := by
  have hr := h.row
  obtain ⟨⟨h1, h2, h3, h4, h5, h6, h7, h8⟩, a0, a1, a2, aw, p01, p02, p0w, p12, p1w, p2w⟩ := h
  have hlt : ∀ g, v0.ownBlock = some g → B ≤ g ∧ g < W.heap.size := a0.lt
  have k1 : Kpt v0.ownBlock.toList W w6 := .of_grown hg (fun g e => .inl (by rw [e]; simp))
  have k2 : Kpt [gc] w6 (w6.setCell ⟨gc, 5, none⟩ v') := Kpt.set _ _ _ _ _ (by simp)
  have b1 : ∀ b, b < W.heap.size → b < B → w6.heap[b]? = W.heap[b]? := fun b hb hB => hg.block b hb (fun e => by have := (hlt b e.symm).1; omega)
  have x1 := (b1 xb (Array.getElem?_eq_some_iff.1 h1).1 h4).trans h1
  have x2 := (b1 gc hr.1 h5).trans h2
  have x3 := (b1 gi (Array.getElem?_eq_some_iff.1 h3).1 h6).trans h3
  have hx : ∀ u : Value, apart v0 u → ∀ g, u.ownBlock = some g → g ∉ v0.ownBlock.toList := fun u hu g e hm => hu g (by simpa using hm) e
  have hgc : ∀ g, B ≤ g → g ∉ [gc] := fun g hg hm => by simp at hm; omega
  refine ⟨(Array.getElem?_eq_some_iff.1 x2).1, by simp [World.cell?, x2], by simp [World.frozen?, x2], ⟨⟨(k2.2 _ (Array.getElem?_eq_some_iff.1 x1).1 (by simpa using h7)).trans x1, by rw [heap_setCell_same _ _ 5 _ _ _ x2]; rfl, (k2.2 _ (Array.getElem?_eq_some_iff.1 x3).1 (by simpa using h8)).trans x3, h4, h5, h6, h7, h8⟩, ho.kptS k2 (fun g e => hgc g (ho.lt g e).1), (a1.kptS k1 (hx _ (p01))).kptS k2 (fun g e => hgc g (a1.lt g e).1), (a2.kptS k1 (hx _ (p02))).kptS k2 (fun g e => hgc g (a2.lt g e).1), (aw.kpt k1 (hx _ p0w)).kpt k2 (fun g e => hgc g (aw.lt g e).1), (p01).grow (fun g e => (a1.lt g e).2) hl, (p02).grow (fun g e => (a2.lt g e).2) hl, (p0w).grow (fun g e => (aw.lt g e).2) hl, p12, p1w, p2w⟩, ?_⟩
  have bl : Below gc W w6 := ⟨hg.os, hg.tape, hg.output, hg.size, fun k hk => hg.block k (by have := hr.1; omega) (fun e => by have := (hlt k e.symm).1; omega)⟩
  exact bl.trans (k2.below (fun x hx => by simp at hx; omega) (by have := hr.1; have := hg.size; omega))
theorem MsR.app1 {W w6 : World} {B xb gc gi : Nat} {kq : Int} {v0 v1 v2 vw v' : Value} {L0 L1 L2 : List Mth} {LW : List ByteArray} {m : Mth} (h : MsR W B xb gc gi kq v0 v1 v2 vw L0 L1 L2 LW) (ho : OwnX 9 42 (sP flC) w6 B v' (L1 ++ [m])) (hg : W.grownBy w6 v1.ownBlock) (hl : v'.ownBlock = v1.ownBlock ∨ v'.ownBlock = some W.heap.size) :
    gc < w6.heap.size ∧ w6.cell? ⟨gc, 11, none⟩ = some v1 ∧ w6.frozen? ⟨gc, 11, none⟩ = false ∧ MsR (w6.setCell ⟨gc, 11, none⟩ v') B xb gc gi kq v0 v' v2 vw L0 (L1 ++ [m]) L2 LW ∧ Below gc W (w6.setCell ⟨gc, 11, none⟩ v') := by
  have hr := h.row
  obtain ⟨⟨h1, h2, h3, h4, h5, h6, h7, h8⟩, a0, a1, a2, aw, p01, p02, p0w, p12, p1w, p2w⟩ := h
  have hlt : ∀ g, v1.ownBlock = some g → B ≤ g ∧ g < W.heap.size := a1.lt
  have k1 : Kpt v1.ownBlock.toList W w6 := .of_grown hg (fun g e => .inl (by rw [e]; simp))
  have k2 : Kpt [gc] w6 (w6.setCell ⟨gc, 11, none⟩ v') := Kpt.set _ _ _ _ _ (by simp)
  have b1 : ∀ b, b < W.heap.size → b < B → w6.heap[b]? = W.heap[b]? := fun b hb hB => hg.block b hb (fun e => by have := (hlt b e.symm).1; omega)
  have x1 := (b1 xb (Array.getElem?_eq_some_iff.1 h1).1 h4).trans h1
  have x2 := (b1 gc hr.1 h5).trans h2
  have x3 := (b1 gi (Array.getElem?_eq_some_iff.1 h3).1 h6).trans h3
  have hx : ∀ u : Value, apart v1 u → ∀ g, u.ownBlock = some g → g ∉ v1.ownBlock.toList := fun u hu g e hm => hu g (by simpa using hm) e
  have hgc : ∀ g, B ≤ g → g ∉ [gc] := fun g hg hm => by simp at hm; omega
  refine ⟨(Array.getElem?_eq_some_iff.1 x2).1, by simp [World.cell?, x2], by simp [World.frozen?, x2], ⟨⟨(k2.2 _ (Array.getElem?_eq_some_iff.1 x1).1 (by simpa using h7)).trans x1, by rw [heap_setCell_same _ _ 11 _ _ _ x2]; rfl, (k2.2 _ (Array.getElem?_eq_some_iff.1 x3).1 (by simpa using h8)).trans x3, h4, h5, h6, h7, h8⟩, (a0.kptS k1 (hx _ (p01.symm))).kptS k2 (fun g e => hgc g (a0.lt g e).1), ho.kptS k2 (fun g e => hgc g (ho.lt g e).1), (a2.kptS k1 (hx _ (p12))).kptS k2 (fun g e => hgc g (a2.lt g e).1), (aw.kpt k1 (hx _ p1w)).kpt k2 (fun g e => hgc g (aw.lt g e).1), ((p01).symm.grow (fun g e => (a0.lt g e).2) hl).symm, p02, p0w, (p12).grow (fun g e => (a2.lt g e).2) hl, (p1w).grow (fun g e => (aw.lt g e).2) hl, p2w⟩, ?_⟩
  have bl : Below gc W w6 := ⟨hg.os, hg.tape, hg.output, hg.size, fun k hk => hg.block k (by have := hr.1; omega) (fun e => by have := (hlt k e.symm).1; omega)⟩
  exact bl.trans (k2.below (fun x hx => by simp at hx; omega) (by have := hr.1; have := hg.size; omega))
theorem MsR.app2 {W w6 : World} {B xb gc gi : Nat} {kq : Int} {v0 v1 v2 vw v' : Value} {L0 L1 L2 : List Mth} {LW : List ByteArray} {m : Mth} (h : MsR W B xb gc gi kq v0 v1 v2 vw L0 L1 L2 LW) (ho : OwnX 9 42 (sP flC) w6 B v' (L2 ++ [m])) (hg : W.grownBy w6 v2.ownBlock) (hl : v'.ownBlock = v2.ownBlock ∨ v'.ownBlock = some W.heap.size) :
    gc < w6.heap.size ∧ w6.cell? ⟨gc, 17, none⟩ = some v2 ∧ w6.frozen? ⟨gc, 17, none⟩ = false ∧ MsR (w6.setCell ⟨gc, 17, none⟩ v') B xb gc gi kq v0 v1 v' vw L0 L1 (L2 ++ [m]) LW ∧ Below gc W (w6.setCell ⟨gc, 17, none⟩ v') := by
  have hr := h.row
  obtain ⟨⟨h1, h2, h3, h4, h5, h6, h7, h8⟩, a0, a1, a2, aw, p01, p02, p0w, p12, p1w, p2w⟩ := h
  have hlt : ∀ g, v2.ownBlock = some g → B ≤ g ∧ g < W.heap.size := a2.lt
  have k1 : Kpt v2.ownBlock.toList W w6 := .of_grown hg (fun g e => .inl (by rw [e]; simp))
  have k2 : Kpt [gc] w6 (w6.setCell ⟨gc, 17, none⟩ v') := Kpt.set _ _ _ _ _ (by simp)
  have b1 : ∀ b, b < W.heap.size → b < B → w6.heap[b]? = W.heap[b]? := fun b hb hB => hg.block b hb (fun e => by have := (hlt b e.symm).1; omega)
  have x1 := (b1 xb (Array.getElem?_eq_some_iff.1 h1).1 h4).trans h1
  have x2 := (b1 gc hr.1 h5).trans h2
  have x3 := (b1 gi (Array.getElem?_eq_some_iff.1 h3).1 h6).trans h3
  have hx : ∀ u : Value, apart v2 u → ∀ g, u.ownBlock = some g → g ∉ v2.ownBlock.toList := fun u hu g e hm => hu g (by simpa using hm) e
  have hgc : ∀ g, B ≤ g → g ∉ [gc] := fun g hg hm => by simp at hm; omega
  refine ⟨(Array.getElem?_eq_some_iff.1 x2).1, by simp [World.cell?, x2], by simp [World.frozen?, x2], ⟨⟨(k2.2 _ (Array.getElem?_eq_some_iff.1 x1).1 (by simpa using h7)).trans x1, by rw [heap_setCell_same _ _ 17 _ _ _ x2]; rfl, (k2.2 _ (Array.getElem?_eq_some_iff.1 x3).1 (by simpa using h8)).trans x3, h4, h5, h6, h7, h8⟩, (a0.kptS k1 (hx _ (p02.symm))).kptS k2 (fun g e => hgc g (a0.lt g e).1), (a1.kptS k1 (hx _ (p12.symm))).kptS k2 (fun g e => hgc g (a1.lt g e).1), ho.kptS k2 (fun g e => hgc g (ho.lt g e).1), (aw.kpt k1 (hx _ p2w)).kpt k2 (fun g e => hgc g (aw.lt g e).1), p01, ((p02).symm.grow (fun g e => (a0.lt g e).2) hl).symm, p0w, ((p12).symm.grow (fun g e => (a1.lt g e).2) hl).symm, p1w, (p2w).grow (fun g e => (aw.lt g e).2) hl⟩, ?_⟩
  have bl : Below gc W w6 := ⟨hg.os, hg.tape, hg.output, hg.size, fun k hk => hg.block k (by have := hr.1; omega) (fun e => by have := (hlt k e.symm).1; omega)⟩
  exact bl.trans (k2.below (fun x hx => by simp at hx; omega) (by have := hr.1; have := hg.size; omega))
theorem MsR.want {W w6 : World} {B xb gc gi : Nat} {kq : Int} {v0 v1 v2 vw v' : Value} {L0 L1 L2 : List Mth} {LW LW' : List ByteArray} (h : MsR W B xb gc gi kq v0 v1 v2 vw L0 L1 L2 LW) (ho : S.OwnC S.cS 9 w6 B v' LW') (hg : W.grownBy w6 vw.ownBlock) (hl : v'.ownBlock = vw.ownBlock ∨ v'.ownBlock = some W.heap.size) :
    MsR w6 B xb gc gi kq v0 v1 v2 v' L0 L1 L2 LW' ∧ Below gc W w6 := by
  have hr := h.row
  obtain ⟨⟨h1, h2, h3, h4, h5, h6, h7, h8⟩, a0, a1, a2, aw, p01, p02, p0w, p12, p1w, p2w⟩ := h
  have hlt : ∀ g, vw.ownBlock = some g → B ≤ g ∧ g < W.heap.size := aw.lt
  have k1 : Kpt vw.ownBlock.toList W w6 := .of_grown hg (fun g e => .inl (by rw [e]; simp))
  have b1 : ∀ b, b < W.heap.size → b < B → w6.heap[b]? = W.heap[b]? := fun b hb hB => hg.block b hb (fun e => by have := (hlt b e.symm).1; omega)
  have hx : ∀ u : Value, apart u vw → ∀ g, u.ownBlock = some g → g ∉ vw.ownBlock.toList := fun u hu g e hm => hu g e (by simpa using hm)
  exact ⟨⟨⟨(b1 xb (Array.getElem?_eq_some_iff.1 h1).1 h4).trans h1, (b1 gc hr.1 h5).trans h2, (b1 gi (Array.getElem?_eq_some_iff.1 h3).1 h6).trans h3, h4, h5, h6, h7, h8⟩, a0.kptS k1 (hx _ p0w), a1.kptS k1 (hx _ p1w), a2.kptS k1 (hx _ p2w), ho, p01, p02, (p0w.symm.grow (fun g e => (a0.lt g e).2) hl).symm, p12, (p1w.symm.grow (fun g e => (a1.lt g e).2) hl).symm, (p2w.symm.grow (fun g e => (a2.lt g e).2) hl).symm⟩, ⟨hg.os, hg.tape, hg.output, hg.size, fun k hk => hg.block k (by have := hr.1; omega) (fun e => by have := (hlt k e.symm).1; omega)⟩⟩
end Go.Proofs.YtlmpnmnfloeoiaaGreat.R
namespace Go.Proofs.YtlmpnmnfloeoiaaGreat.R
open Go.RowKit Go.Proofs.YtlmpnmnfloeoiaaGreat.D Go.Proofs.YtlmpnmnfloeoiaaGreat.O Go.Proofs.YtlmpnmnfloeoiaaGreat.A
theorem mi_10 : ∀ (x1 x2 : Fin 3) (y0 y1 y2 z0 z1 z2 : Fin 2), miB 1 (xv 0) (xv x1) (xv x2) y0 y1 y2 z0 z1 z2 = true := by decide +kernel
theorem mi_11 : ∀ (x1 x2 : Fin 3) (y0 y1 y2 z0 z1 z2 : Fin 2), miB 1 (xv 1) (xv x1) (xv x2) y0 y1 y2 z0 z1 z2 = true := by decide +kernel
theorem mi_12 : ∀ (x1 x2 : Fin 3) (y0 y1 y2 z0 z1 z2 : Fin 2), miB 1 (xv 2) (xv x1) (xv x2) y0 y1 y2 z0 z1 z2 = true := by decide +kernel
theorem mi_t1 {x0 x1 x2 y0 y1 y2 z0 z1 z2 : Nat} (h0 : x0 < 3) (h1 : x1 < 3) (h2 : x2 < 3) (a0 : y0 < 2) (a1 : y1 < 2) (a2 : y2 < 2) (b0 : z0 < 2) (b1 : z1 < 2) (b2 : z2 < 2) : miB 1 (xv x0) (xv x1) (xv x2) y0 y1 y2 z0 z1 z2 = true := by
  have h3 : x0 = 0 ∨ x0 = 1 ∨ x0 = 2 := by omega
  rcases h3 with rfl | rfl | rfl
  · exact mi_10 ⟨x1, h1⟩ ⟨x2, h2⟩ ⟨y0, a0⟩ ⟨y1, a1⟩ ⟨y2, a2⟩ ⟨z0, b0⟩ ⟨z1, b1⟩ ⟨z2, b2⟩
  · exact mi_11 ⟨x1, h1⟩ ⟨x2, h2⟩ ⟨y0, a0⟩ ⟨y1, a1⟩ ⟨y2, a2⟩ ⟨z0, b0⟩ ⟨z1, b1⟩ ⟨z2, b2⟩
  · exact mi_12 ⟨x1, h1⟩ ⟨x2, h2⟩ ⟨y0, a0⟩ ⟨y1, a1⟩ ⟨y2, a2⟩ ⟨z0, b0⟩ ⟨z1, b1⟩ ⟨z2, b2⟩
end Go.Proofs.YtlmpnmnfloeoiaaGreat.R
namespace Go.Proofs.YtlmpnmnfloeoiaaGreat.R
open Go.RowKit Go.Proofs.YtlmpnmnfloeoiaaGreat.D Go.Proofs.YtlmpnmnfloeoiaaGreat.O Go.Proofs.YtlmpnmnfloeoiaaGreat.A
theorem mi_20 : ∀ (x1 x2 : Fin 3) (y0 y1 y2 z0 z1 z2 : Fin 2), miB 2 (xv 0) (xv x1) (xv x2) y0 y1 y2 z0 z1 z2 = true := by decide +kernel
theorem mi_21 : ∀ (x1 x2 : Fin 3) (y0 y1 y2 z0 z1 z2 : Fin 2), miB 2 (xv 1) (xv x1) (xv x2) y0 y1 y2 z0 z1 z2 = true := by decide +kernel
theorem mi_22 : ∀ (x1 x2 : Fin 3) (y0 y1 y2 z0 z1 z2 : Fin 2), miB 2 (xv 2) (xv x1) (xv x2) y0 y1 y2 z0 z1 z2 = true := by decide +kernel
theorem mi_t2 {x0 x1 x2 y0 y1 y2 z0 z1 z2 : Nat} (h0 : x0 < 3) (h1 : x1 < 3) (h2 : x2 < 3) (a0 : y0 < 2) (a1 : y1 < 2) (a2 : y2 < 2) (b0 : z0 < 2) (b1 : z1 < 2) (b2 : z2 < 2) : miB 2 (xv x0) (xv x1) (xv x2) y0 y1 y2 z0 z1 z2 = true := by
  have h3 : x0 = 0 ∨ x0 = 1 ∨ x0 = 2 := by omega
  rcases h3 with rfl | rfl | rfl
  · exact mi_20 ⟨x1, h1⟩ ⟨x2, h2⟩ ⟨y0, a0⟩ ⟨y1, a1⟩ ⟨y2, a2⟩ ⟨z0, b0⟩ ⟨z1, b1⟩ ⟨z2, b2⟩
  · exact mi_21 ⟨x1, h1⟩ ⟨x2, h2⟩ ⟨y0, a0⟩ ⟨y1, a1⟩ ⟨y2, a2⟩ ⟨z0, b0⟩ ⟨z1, b1⟩ ⟨z2, b2⟩
  · exact mi_22 ⟨x1, h1⟩ ⟨x2, h2⟩ ⟨y0, a0⟩ ⟨y1, a1⟩ ⟨y2, a2⟩ ⟨z0, b0⟩ ⟨z1, b1⟩ ⟨z2, b2⟩
end Go.Proofs.YtlmpnmnfloeoiaaGreat.R
namespace Go.Proofs.YtlmpnmnfloeoiaaGreat.R
open Go.RowKit Go.Proofs.YtlmpnmnfloeoiaaGreat.D Go.Proofs.YtlmpnmnfloeoiaaGreat.O Go.Proofs.YtlmpnmnfloeoiaaGreat.A
theorem mi_30 : ∀ (x1 x2 : Fin 3) (y0 y1 y2 z0 z1 z2 : Fin 2), miB 3 (xv 0) (xv x1) (xv x2) y0 y1 y2 z0 z1 z2 = true := by decide +kernel
theorem mi_31 : ∀ (x1 x2 : Fin 3) (y0 y1 y2 z0 z1 z2 : Fin 2), miB 3 (xv 1) (xv x1) (xv x2) y0 y1 y2 z0 z1 z2 = true := by decide +kernel
theorem mi_32 : ∀ (x1 x2 : Fin 3) (y0 y1 y2 z0 z1 z2 : Fin 2), miB 3 (xv 2) (xv x1) (xv x2) y0 y1 y2 z0 z1 z2 = true := by decide +kernel
theorem mi_t3 {x0 x1 x2 y0 y1 y2 z0 z1 z2 : Nat} (h0 : x0 < 3) (h1 : x1 < 3) (h2 : x2 < 3) (a0 : y0 < 2) (a1 : y1 < 2) (a2 : y2 < 2) (b0 : z0 < 2) (b1 : z1 < 2) (b2 : z2 < 2) : miB 3 (xv x0) (xv x1) (xv x2) y0 y1 y2 z0 z1 z2 = true := by
  have h3 : x0 = 0 ∨ x0 = 1 ∨ x0 = 2 := by omega
  rcases h3 with rfl | rfl | rfl
  · exact mi_30 ⟨x1, h1⟩ ⟨x2, h2⟩ ⟨y0, a0⟩ ⟨y1, a1⟩ ⟨y2, a2⟩ ⟨z0, b0⟩ ⟨z1, b1⟩ ⟨z2, b2⟩
  · exact mi_31 ⟨x1, h1⟩ ⟨x2, h2⟩ ⟨y0, a0⟩ ⟨y1, a1⟩ ⟨y2, a2⟩ ⟨z0, b0⟩ ⟨z1, b1⟩ ⟨z2, b2⟩
  · exact mi_32 ⟨x1, h1⟩ ⟨x2, h2⟩ ⟨y0, a0⟩ ⟨y1, a1⟩ ⟨y2, a2⟩ ⟨z0, b0⟩ ⟨z1, b1⟩ ⟨z2, b2⟩
end Go.Proofs.YtlmpnmnfloeoiaaGreat.R
namespace Go.Proofs.YtlmpnmnfloeoiaaGreat.R
open Go.RowKit Go.Proofs.YtlmpnmnfloeoiaaGreat.D Go.Proofs.YtlmpnmnfloeoiaaGreat.O Go.Proofs.YtlmpnmnfloeoiaaGreat.A
def x4 (p n : Nat) : Nat := p / 4 ^ n % 4
def x2 (q n : Nat) : Nat := q / 2 ^ n % 2
def l0P (p n : Nat) : List Mth := (List.range n).flatMap fun k => l0M k (x4 p k)
def l1P (q n : Nat) : List Mth := (List.range n).flatMap fun k => l1M k (x2 q k)
def l2P (i n : Nat) : List Mth := (List.range n).flatMap fun k => l2M k (x2 i k)
def wnP (p q i n : Nat) : List ByteArray := (List.range n).flatMap fun k => wnM k (x4 p k) (x2 q k) (x2 i k)
theorem x4_lt (p n : Nat) : x4 p n < 4 := Nat.mod_lt _ (by decide)
theorem x2_lt (p n : Nat) : x2 p n < 2 := Nat.mod_lt _ (by decide)
theorem fm_next {α : Type} (f : Nat → List α) (n : Nat) : (List.range (n + 1)).flatMap f = (List.range n).flatMap f ++ f n := by rw [List.range_succ, List.flatMap_append]; simp
theorem fm3 {α : Type} (f : Nat → List α) : (List.range 3).flatMap f = f 0 ++ f 1 ++ f 2 := by rw [fm_next, fm_next, fm_next]; simp
theorem fm_len {α : Type} (f : Nat → List α) (h : ∀ k, (f k).length ≤ 1) : ∀ n, ((List.range n).flatMap f).length ≤ n
  | 0 => by simp
  | n + 1 => by rw [fm_next, List.length_append]; have := fm_len f h n; have := h n; omega
theorem l0_len (p n : Nat) : (l0P p n).length ≤ n := fm_len _ (fun k => by unfold l0M; split <;> simp) n
theorem l1_len (p n : Nat) : (l1P p n).length ≤ n := fm_len _ (fun k => by unfold l1M; split <;> simp) n
theorem l2_len (p n : Nat) : (l2P p n).length ≤ n := fm_len _ (fun k => by unfold l2M; split <;> simp) n
theorem wn_len (p q i n : Nat) : (wnP p q i n).length ≤ n := fm_len _ (fun k => by unfold wnM; split <;> simp) n
theorem l0_flat (p n : Nat) : ∀ m ∈ l0P p n, flat m := fun m hm => by
  obtain ⟨k, _, hk⟩ := List.mem_flatMap.1 hm
  unfold l0M at hk
  split at hk
  · rw [List.mem_singleton.1 hk]; exact flat_mv _ _ _ _
  · cases hk
theorem l1_flat (p n : Nat) : ∀ m ∈ l1P p n, flat m := fun m hm => by
  obtain ⟨k, _, hk⟩ := List.mem_flatMap.1 hm
  unfold l1M at hk
  split at hk
  · rw [List.mem_singleton.1 hk]; exact flat_mv _ _ _ _
  · cases hk
theorem l2_flat (p n : Nat) : ∀ m ∈ l2P p n, flat m := fun m hm => by
  obtain ⟨k, _, hk⟩ := List.mem_flatMap.1 hm
  unfold l2M at hk
  split at hk
  · rw [List.mem_singleton.1 hk]; exact flat_mv _ _ _ _
  · cases hk
def miC (kq : Int) (a b c : List Mth) (W : List ByteArray) : Bool :=
  hkB (miA kq a b c) && decide (checkK (miA kq a b c) = if !W.isEmpty && kq != 2 then (1, 27) else (0, 0)) && sortB W && W.all (fun x => decide (x ∈ missK (keepL (miA kq a b c)) ⟨#[81]⟩)) && (missK (keepL (miA kq a b c)) ⟨#[81]⟩).all (fun x => decide (x ∈ W)) && decide (missK (keepL (miA kq a b c)) ⟨#[81]⟩).Nodup
theorem mi_def (kq : Int) (x0 x1 x2 y0 y1 y2 z0 z1 z2 : Nat) : miB kq x0 x1 x2 y0 y1 y2 z0 z1 z2 = miC kq (l0M 0 x0 ++ l0M 1 x1 ++ l0M 2 x2) (l1M 0 y0 ++ l1M 1 y1 ++ l1M 2 y2) (l2M 0 z0 ++ l2M 1 z1 ++ l2M 2 z2) (wnM 0 x0 y0 z0 ++ wnM 1 x1 y1 z1 ++ wnM 2 x2 y2 z2) := rfl
theorem mi_ok (p q i kk : Nat) (hk : kk < 3) : miC ((kk : Int) + 1) (l0P p 3) (l1P q 3) (l2P i 3) (wnP p q i 3) = true := by
  unfold l0P l1P l2P wnP
  rw [fm3, fm3, fm3, fm3, l0_xv 0 (x4_lt p 0), l0_xv 1 (x4_lt p 1), l0_xv 2 (x4_lt p 2), wn_xv 0 _ _ (x4_lt p 0), wn_xv 1 _ _ (x4_lt p 1), wn_xv 2 _ _ (x4_lt p 2), ← mi_def]
  have hk3 : kk = 0 ∨ kk = 1 ∨ kk = 2 := by omega
  rcases hk3 with rfl | rfl | rfl
  · exact mi_t1 (xd_lt (x4_lt _ _)) (xd_lt (x4_lt _ _)) (xd_lt (x4_lt _ _)) (x2_lt _ _) (x2_lt _ _) (x2_lt _ _) (x2_lt _ _) (x2_lt _ _) (x2_lt _ _)
  · exact mi_t2 (xd_lt (x4_lt _ _)) (xd_lt (x4_lt _ _)) (xd_lt (x4_lt _ _)) (x2_lt _ _) (x2_lt _ _) (x2_lt _ _) (x2_lt _ _) (x2_lt _ _) (x2_lt _ _)
  · exact mi_t3 (xd_lt (x4_lt _ _)) (xd_lt (x4_lt _ _)) (xd_lt (x4_lt _ _)) (x2_lt _ _) (x2_lt _ _) (x2_lt _ _) (x2_lt _ _) (x2_lt _ _) (x2_lt _ _)
theorem srt_of : ∀ {l : List ByteArray}, sortB l = true → S.Srt S.ltS l
  | [], _ => List.Pairwise.nil
  | a :: l, h => by
    simp only [sortB, Bool.and_eq_true, List.all_eq_true] at h
    exact List.Pairwise.cons h.1 (srt_of h.2)
theorem mi_facts {kq : Int} {a b c : List Mth} {W : List ByteArray} (h : miC kq a b c W = true) : hkB (miA kq a b c) = true ∧ checkK (miA kq a b c) = (if (!W.isEmpty && kq != 2) = true then (1, 27) else (0, 0)) ∧ S.Srt S.ltS W ∧ (∀ x, x ∈ missK (keepL (miA kq a b c)) ⟨#[81]⟩ ↔ x ∈ W) ∧ (missK (keepL (miA kq a b c)) ⟨#[81]⟩).Nodup := by
  unfold miC at h
  simp only [Bool.and_eq_true, decide_eq_true_eq, List.all_eq_true] at h
  obtain ⟨⟨⟨⟨⟨h1, h2⟩, h3⟩, h4⟩, h5⟩, h6⟩ := h
  exact ⟨h1, by simpa using h2, srt_of h3, fun x => ⟨h5 x, h4 x⟩, h6⟩
theorem row_any {W : World} {B : Nat} {v : Value} {L : List Mth} (h : OwnX 9 42 (sP flC) W B v L) (hf : ∀ m ∈ L, flat m) : RdX 9 mP anyB W v L :=
  rd_flat ((h.rd (sP.grow _)).step (sP.grow _) (fun _ _ _ => trivial) (fun _ _ _ => rfl) (Nat.le_refl _)) hf
theorem MsR.arc {W : World} {B xb gc gi : Nat} {kq : Int} {v0 v1 v2 vw : Value} {L0 L1 L2 : List Mth} {LW : List ByteArray} (h : MsR W B xb gc gi kq v0 v1 v2 vw L0 L1 L2 LW) (f0 : ∀ m ∈ L0, flat m) (f1 : ∀ m ∈ L1, flat m) (f2 : ∀ m ∈ L2, flat m) :
    RdX 6 cP anyB W (.slice (some ⟨gc, 0, none⟩) (miA kq L0 L1 L2).length 3) (miA kq L0 L1 L2) :=
  rd_block (P := cP) [[.string ⟨#[80]⟩, .string ⟨#[79, 98, 106, 101, 99, 116]⟩, .slice none 0 0, .int .i64 2, .slice none 0 0, v0], [.string ⟨#[81]⟩, .string ⟨#[80]⟩, .slice (some ⟨gi, 0, none⟩) 1 1, .int .i64 kq, .slice none 0 0, v1], [.string ⟨#[73]⟩, .string ⟨#[79, 98, 106, 101, 99, 116]⟩, .slice none 0 0, .int .i64 4, .slice none 0 0, v2]] (miA kq L0 L1 L2) _ h.1.2.1 rfl trivial
    ⟨⟨⟨_, _, _, rfl, RdX.nil _ _ _ _, RdX.nil _ _ _ _, row_any h.2.1 f0⟩, rfl⟩, ⟨⟨_, _, _, rfl, rd_block (P := sP strC) [[.string ⟨#[73]⟩]] [⟨#[73]⟩] _ h.1.2.2.1 rfl trivial ⟨⟨rfl, rfl⟩, trivial⟩ 1 1 rfl (Nat.le_refl _), RdX.nil _ _ _ _, row_any h.2.2.1 f1⟩, rfl⟩, ⟨⟨_, _, _, rfl, RdX.nil _ _ _ _, RdX.nil _ _ _ _, row_any h.2.2.2.1 f2⟩, rfl⟩, trivial⟩ 3 3 rfl (Nat.le_refl _)
theorem MsR.held6 {W w6 : World} {B xb gc gi : Nat} {kq : Int} {v0 v1 v2 vw : Value} {L0 L1 L2 : List Mth} {LW : List ByteArray} (h : MsR W B xb gc gi kq v0 v1 v2 vw L0 L1 L2 LW) {r : Option Nat} (hg : W.grownBy w6 r) (hr : ∀ k, r = some k → B ≤ k) : w6.cell? ⟨xb, 0, none⟩ = some (.slice (some ⟨gc, 0, none⟩) 3 3) := by
  obtain ⟨⟨h1, h2, h3, h4, h5, h6, h7, h8⟩, -⟩ := h
  have x1 := (hg.block xb (Array.getElem?_eq_some_iff.1 h1).1 (fun e => by have := hr _ e.symm; omega)).trans h1
  simp [World.cell?, x1]
end Go.Proofs.YtlmpnmnfloeoiaaGreat.R
namespace Go.Proofs.YtlmpnmnfloeoiaaGreat.S
open Go.RowKit Go.Maps
def eqB {α : Type} [DecidableEq α] (a b : List α) : Bool := decide (a = b)
theorem eqB_iff {α : Type} [DecidableEq α] {a b : List α} : eqB a b = true ↔ a = b := decide_eq_true_iff
theorem eqB_len {α : Type} [DecidableEq α] {a b : List α} (h : a.length ≠ b.length) : eqB a b = false := decide_eq_false (fun e => h (by rw [e]))
theorem eqB_at {α : Type} [DecidableEq α] {a b : List α} {i : Nat} {x y : α} (hx : a[i]? = some x) (hy : b[i]? = some y) (h : x ≠ y) : eqB a b = false := decide_eq_false (fun e => by
  rw [e, hy] at hx
  cases hx
  exact h rfl)
theorem eqB_all {α : Type} [DecidableEq α] {a b : List α} (hl : a.length = b.length) (h : ∀ i, i < a.length → a[i]? = b[i]?) : eqB a b = true := decide_eq_true (by
  apply List.ext_getElem?
  intro i
  by_cases hi : i < a.length
  · exact h i hi
  · rw [List.getElem?_eq_none (by omega), List.getElem?_eq_none (by omega)])
set_option maxHeartbeats 400000 in
set_option maxRecDepth 100000 in
theorem same_S (v1 v2 : Value) (xs ys : List ByteArray) (ok1 ok2 : Nat → Prop) (w : World) (hr1 : RdC cS ok1 w v1 xs) (hr2 : RdC cS ok2 w v2 ys) (hl : xs.length ≤ 100000) (hl2 : ys.length ≤ 100000) :
    Calls Tryz.prog 21 #[v1, v2] w fun e w' => e = .returned (.bool (eqB xs ys)) ∧ ∃ n, w' = w.drewN n := by
  obtain ⟨p, cap, rfl, h1, h2⟩ := hr1.form
  obtain ⟨p2, cap2, rfl, h3, h4⟩ := hr2.form
  have HR1 := Lib.hid hr1
  have HR2 := Lib.hid hr2
  clear hr1 hr2
  by_cases hle : xs.length = ys.length
  · have hb : ((xs.length : Int) == (ys.length : Int)) = true := beq_iff_eq.2 (by omega)
    go_enter Tryz.func21, Tryz.ntmps21
    go_wp2_with fail
    have HLE := Lib.hid hle
    clear hle hb
    go_loopw [5] (fun v wr => ∃ i n : Nat, v = .int .i64 (i : Int) ∧ i ≤ xs.length ∧ Hid (∀ k, k < i → xs[k]? = ys[k]?) ∧ wr = w.drewN n) (fun v _ => xs.length - (intOf v).toNat)
    case atStart => exact ⟨0, 0, rfl, by omega, Lib.hid (fun k hk => absurd hk (by omega)), rfl⟩
    case round =>
      obtain ⟨i, n, rfl, hi, HA, rfl⟩ := hrel
      by_cases hlt : i < xs.length
      · have hlt' : (i : Int) < (xs.length : Int) := by omega
        have hlt2 : i < ys.length := by have := HLE.out; omega
        have hlt2' : (i : Int) < (ys.length : Int) := by omega
        have hne : xs ≠ [] := by rintro rfl; simp at hlt
        have hne2 : ys ≠ [] := by rintro rfl; simp at hlt2
        obtain ⟨b, off, rfl, hb, hbl, hc⟩ := HR1.out.at hne
        obtain ⟨b2, off2, rfl, hb2, hbl2, hc2⟩ := HR2.out.at hne2
        have hg := List.getElem?_eq_getElem hlt
        have hg2 := List.getElem?_eq_getElem hlt2
        have ci : w.cell? ⟨b, off + i, none⟩ = some (.string xs[i]) := hc i _ hg
        have ci2 : w.cell? ⟨b2, off2 + i, none⟩ = some (.string ys[i]) := hc2 i _ hg2
        obtain ⟨y, hy⟩ : ∃ y, xs[i] = y := ⟨_, rfl⟩
        obtain ⟨z, hz⟩ : ∃ z, ys[i] = z := ⟨_, rfl⟩
        rw [hy] at ci hg
        rw [hz] at ci2 hg2
        have HG := Lib.hid hg
        have HG2 := Lib.hid hg2
        clear hc hy hg hc2 hz hg2
        by_cases e : y = z
        · subst e
          go_wp2_with fail
          go_quiet (fail)
          go_wp2_with fail
          go_roundw
          case rel => exact ⟨i + 1, _, by go_num, by omega, Lib.hid (fun k hk => by
            by_cases e2 : k = i
            · subst e2
              rw [HG.out, HG2.out]
            · exact HA.out k (by omega)), rfl⟩
          case measure => simp [intOf]; omega
        · have hne2 : (y.toList == z.toList) = false := txt_ne e
          go_wp2_with fail
          go_quiet (fail)
          go_wp2
          go_ret
          exact ⟨ret_bool (eqB_at HG.out HG2.out e).symm, _, World.drewN_drewN _ _ _⟩
      · obtain rfl : i = xs.length := by omega
        clear hlt hi
        go_wp2
        go_ret
        exact ⟨ret_bool (eqB_all HLE.out HA.out).symm, _, rfl⟩
  · have hb : ((xs.length : Int) == (ys.length : Int)) = false := beq_eq_false_iff_ne.2 (by omega)
    have hE := Lib.hid (eqB_len hle)
    clear hle
    go_enter Tryz.func21, Tryz.ntmps21
    go_wp2
    go_ret
    exact ⟨ret_bool hE.out.symm, 0, rfl⟩
theorem strs_S (v1 v2 : Value) (xs ys : List ByteArray) (ok1 ok2 : Nat → Prop) (w : World) (hr1 : RdC cS ok1 w v1 xs) (hr2 : RdC cS ok2 w v2 ys) (hl : xs.length ≤ 100000) (hl2 : ys.length ≤ 100000) :
    Calls Tryz.prog 12 #[v1, v2] w fun e w' => e = .returned (.bool (eqB xs ys)) ∧ ∃ n, w' = w.drewN n := by
  go_enter Tryz.func12, Tryz.ntmps12
  go_wp2_with fail
  refine (same_S v1 v2 xs ys ok1 ok2 w hr1 hr2 hl hl2).mono ?_
  rintro e w1 ⟨rfl, n, rfl⟩
  go_wp2
  go_ret
  exact ⟨rfl, n, rfl⟩
end Go.Proofs.YtlmpnmnfloeoiaaGreat.S
