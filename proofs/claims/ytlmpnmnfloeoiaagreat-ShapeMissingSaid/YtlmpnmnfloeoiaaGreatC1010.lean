/- Texts that the proof is made of, joined. No condition. -/
import Derived.Test.YtlmpnmnfloeoiaaGreatC100
import Derived.Test.YtlmpnmnfloeoiaaGreatC102
import Derived.Test.YtlmpnmnfloeoiaaGreatC109
import Derived.Deep.RegionLaw
import Derived.Test.YtlmpnmnfloeoiaaGreatC10H
set_option linter.unusedVariables false
set_option linter.unusedSimpArgs false
set_option maxRecDepth 100000
set_option maxHeartbeats 16000000
namespace Go.Proofs.YtlmpnmnfloeoiaaGreat.R
open Go.RowKit Go.Proofs.YtlmpnmnfloeoiaaGreat.D Go.Proofs.YtlmpnmnfloeoiaaGreat.O Go.Proofs.YtlmpnmnfloeoiaaGreat.A
theorem inf_sgn : Inf 104 97 5 56 (.agg #[.string ⟨#[]⟩, .string ⟨#[]⟩, .string ⟨#[]⟩, .bool false, .bool false]) := ⟨by kernel_rfl, Tryz.underlying97, rfl, by decide, by decide⟩
theorem shape_sgn : Shape (sP sgC) 5 := fun _ _ vs x h => by
  have : vs = sgC x := h
  subst this
  exact ⟨rfl, by simp [sgC, Value.oneCell']⟩
def FcB (w : World) (B tb rb : Nat) (k : Int) (v : Value) (ss : List Sg) : Prop :=
  w.heap[tb]? = some (.cells #[.int .i64 k, v] 99 (0, 0)) ∧ B ≤ tb ∧ OwnX 5 104 (sP sgC) w B v ss ∧ v.ownBlock ≠ some tb ∧ w.heap[rb]? = some (.cells #[.int .i64 0, .slice none 0 0] 99 (0, 0)) ∧ B ≤ rb ∧ rb ≠ tb ∧ v.ownBlock ≠ some rb
theorem FcB.cells {w : World} {B tb rb : Nat} {k : Int} {v : Value} {ss : List Sg} (h : FcB w B tb rb k v ss) : tb < w.heap.size ∧ w.cell? ⟨tb, 0, none⟩ = some (.int .i64 k) ∧ w.cell? ⟨tb, 1, none⟩ = some v ∧ w.frozen? ⟨tb, 1, none⟩ = false := by
  have h3 := h.1
  refine ⟨(Array.getElem?_eq_some_iff.1 h3).1, ?_, ?_, ?_⟩ <;> simp [World.cell?, World.frozen?, h3]
theorem FcB.res {w : World} {B tb rb : Nat} {k : Int} {v : Value} {ss : List Sg} (h : FcB w B tb rb k v ss) : rb < w.heap.size ∧ w.cell? ⟨rb, 0, none⟩ = some (.int .i64 0) ∧ w.cell? ⟨rb, 1, none⟩ = some (.slice none 0 0) ∧ w.frozen? ⟨rb, 0, none⟩ = false ∧ w.frozen? ⟨rb, 1, none⟩ = false := by
  have h3 := h.2.2.2.2.1
  refine ⟨(Array.getElem?_eq_some_iff.1 h3).1, ?_, ?_, ?_, ?_⟩ <;> simp [World.cell?, World.frozen?, h3]
theorem FcB.below {w w' : World} {B tb rb : Nat} {k : Int} {v : Value} {ss : List Sg} (h : FcB w B tb rb k v ss) (hb : Below w.heap.size w w') : FcB w' B tb rb k v ss :=
  ⟨(hb.block _ h.cells.1).trans h.1, h.2.1, h.2.2.1.kptS (.of_below hb : Kpt [] w w') (fun _ _ => by simp), h.2.2.2.1, (hb.block _ h.res.1).trans h.2.2.2.2.1, h.2.2.2.2.2⟩
theorem FcB.app {w w1 : World} {B tb rb : Nat} {k : Int} {v v' : Value} {ss : List Sg} {s : Sg} (h : FcB w B tb rb k v ss) (hB : B ≤ w.heap.size) (ho : OwnX 5 104 (sP sgC) w1 B v' (ss ++ [s])) (hg : w.grownBy w1 v.ownBlock) (hl : v'.ownBlock = v.ownBlock ∨ v'.ownBlock = some w.heap.size) :
    tb < w1.heap.size ∧ w1.cell? ⟨tb, 0, none⟩ = some (.int .i64 k) ∧ w1.cell? ⟨tb, 1, none⟩ = some v ∧ w1.frozen? ⟨tb, 1, none⟩ = false ∧ FcB (w1.setCell ⟨tb, 1, none⟩ v') B tb rb k v' (ss ++ [s]) ∧ Below B w (w1.setCell ⟨tb, 1, none⟩ v') := by
  have hlt := h.cells.1
  have hrt := h.res.1
  obtain ⟨h1, h2, h3, h4, h5, h6, h7, h8⟩ := h
  have hw1 : w1.heap[tb]? = some (.cells #[.int .i64 k, v] 99 (0, 0)) := by rw [hg.block tb hlt (fun e => h4 e.symm)]; exact h1
  have hr1 : w1.heap[rb]? = some (.cells #[.int .i64 0, .slice none 0 0] 99 (0, 0)) := by rw [hg.block rb hrt (fun e => h8 e.symm)]; exact h5
  have k2 : Kpt [tb] w1 (w1.setCell ⟨tb, 1, none⟩ v') := Kpt.set _ _ _ _ _ (by simp)
  have hne : ∀ {x : Nat}, x < w.heap.size → v.ownBlock ≠ some x → v'.ownBlock ≠ some x := fun {x} hx hv => by
    rcases hl with e | e
    · rw [e]; exact hv
    · rw [e]; simp only [ne_eq, Option.some.injEq]; omega
  refine ⟨Nat.lt_of_lt_of_le hlt hg.size, by simp [World.cell?, hw1], by simp [World.cell?, hw1], by simp [World.frozen?, hw1], ⟨?_, h2, ho.kptS k2 (fun g e => by simp; rintro rfl; exact hne hlt h4 e), hne hlt h4, (k2.2 _ (Array.getElem?_eq_some_iff.1 hr1).1 (by simpa using h7)).trans hr1, h6, h7, hne hrt h8⟩, ?_⟩
  · rw [heap_setCell_same w1 tb 1 _ _ _ hw1]; rfl
  · have b1 : Below B w w1 := ⟨hg.os, hg.tape, hg.output, hg.size, fun k hk => hg.block k (by omega) (fun e => by have := (h3.lt k e.symm).1; omega)⟩
    exact b1.trans (k2.below (fun x hx => by simp at hx; omega) (Nat.le_trans hB hg.size))
def SfX (W : World) (xb : Nat) (m : Mth) (pp pc ph : Option Addr) (np cp nc cc nh ch : Nat) : Prop :=
  W.heap[xb]? = some (.cells #[.string m.name, .slice pp np cp, .int .i64 m.ret.1, .string m.ret.2, .bool m.st, .bool m.ab, .int .i64 m.locals, .slice pc nc cc, .slice ph nh ch] 42 (0, 0))
theorem SfX.held {W : World} {xb : Nat} {m : Mth} {pp pc ph : Option Addr} {np cp nc cc nh ch : Nat} (h : SfX W xb m pp pc ph np cp nc cc nh ch) :
    W.cell? ⟨xb, 0, none⟩ = some (.string m.name) ∧ W.cell? ⟨xb, 1, none⟩ = some (.slice pp np cp) ∧ W.cell? ⟨xb, 2, none⟩ = some (.int .i64 m.ret.1) ∧ W.cell? ⟨xb, 3, none⟩ = some (.string m.ret.2) ∧ W.cell? ⟨xb, 4, none⟩ = some (.bool m.st) ∧ W.cell? ⟨xb, 5, none⟩ = some (.bool m.ab) ∧ W.cell? ⟨xb, 6, none⟩ = some (.int .i64 m.locals) ∧ W.cell? ⟨xb, 7, none⟩ = some (.slice pc nc cc) ∧ W.cell? ⟨xb, 8, none⟩ = some (.slice ph nh ch) := by
  unfold SfX at h
  refine ⟨?_, ?_, ?_, ?_, ?_, ?_, ?_, ?_, ?_⟩ <;> simp [World.cell?, h]
def SfB (W w : World) (B tb rb xb : Nat) (k : Int) (v : Value) (ss : List Sg) (ok : Nat → Prop) (m : Mth) (pp pc ph : Option Addr) (np cp nc cc nh ch : Nat) : Prop :=
  FcB W B tb rb k v ss ∧ Below B w W ∧ B ≤ W.heap.size ∧ RdX 2 (sP tyC) ok W (.slice pp np cp) m.params ∧ SfX W xb m pp pc ph np cp nc cc nh ch ∧ xb ≠ tb ∧ v.ownBlock ≠ some xb
theorem SfB.below {W W' w : World} {B tb rb xb : Nat} {k : Int} {v : Value} {ss : List Sg} {ok : Nat → Prop} {m : Mth} {pp pc ph : Option Addr} {np cp nc cc nh ch : Nat} (h : SfB W w B tb rb xb k v ss ok m pp pc ph np cp nc cc nh ch) (hb : Below W.heap.size W W') : SfB W' w B tb rb xb k v ss ok m pp pc ph np cp nc cc nh ch :=
  ⟨h.1.below hb, h.2.1.trans (hb.mono h.2.2.1), Nat.le_trans h.2.2.1 hb.size, h.2.2.2.1.any (sP.grow _) hb, (hb.block _ (Array.getElem?_eq_some_iff.1 h.2.2.2.2.1).1).trans h.2.2.2.2.1, h.2.2.2.2.2⟩
theorem SfB.held {W w : World} {B tb rb xb : Nat} {k : Int} {v : Value} {ss : List Sg} {ok : Nat → Prop} {m : Mth} {pp pc ph : Option Addr} {np cp nc cc nh ch : Nat} (h : SfB W w B tb rb xb k v ss ok m pp pc ph np cp nc cc nh ch) :
    W.cell? ⟨xb, 0, none⟩ = some (.string m.name) ∧ W.cell? ⟨xb, 1, none⟩ = some (.slice pp np cp) ∧ W.cell? ⟨xb, 2, none⟩ = some (.int .i64 m.ret.1) ∧ W.cell? ⟨xb, 3, none⟩ = some (.string m.ret.2) ∧ W.cell? ⟨xb, 4, none⟩ = some (.bool m.st) ∧ W.cell? ⟨xb, 5, none⟩ = some (.bool m.ab) ∧ W.cell? ⟨xb, 6, none⟩ = some (.int .i64 m.locals) ∧ W.cell? ⟨xb, 7, none⟩ = some (.slice pc nc cc) ∧ W.cell? ⟨xb, 8, none⟩ = some (.slice ph nh ch) := h.2.2.2.2.1.held
def SfT (W : World) (tb xb : Nat) (m : Mth) (pp pc ph : Option Addr) (np cp nc cc nh ch : Nat) : Prop := SfX W xb m pp pc ph np cp nc cc nh ch ∧ xb ≠ tb
theorem SfT.held {W : World} {tb xb : Nat} {m : Mth} {pp pc ph : Option Addr} {np cp nc cc nh ch : Nat} (h : SfT W tb xb m pp pc ph np cp nc cc nh ch) :
    W.cell? ⟨xb, 0, none⟩ = some (.string m.name) ∧ W.cell? ⟨xb, 1, none⟩ = some (.slice pp np cp) ∧ W.cell? ⟨xb, 2, none⟩ = some (.int .i64 m.ret.1) ∧ W.cell? ⟨xb, 3, none⟩ = some (.string m.ret.2) ∧ W.cell? ⟨xb, 4, none⟩ = some (.bool m.st) ∧ W.cell? ⟨xb, 5, none⟩ = some (.bool m.ab) ∧ W.cell? ⟨xb, 6, none⟩ = some (.int .i64 m.locals) ∧ W.cell? ⟨xb, 7, none⟩ = some (.slice pc nc cc) ∧ W.cell? ⟨xb, 8, none⟩ = some (.slice ph nh ch) := h.1.held
theorem SfB.grown {W W' w : World} {B tb rb xb : Nat} {k : Int} {v : Value} {ss : List Sg} {ok : Nat → Prop} {m : Mth} {pp pc ph : Option Addr} {np cp nc cc nh ch : Nat} (h : SfB W w B tb rb xb k v ss ok m pp pc ph np cp nc cc nh ch) (hg : W.grownBy W' v.ownBlock) : SfT W' tb xb m pp pc ph np cp nc cc nh ch :=
  ⟨(hg.block xb (Array.getElem?_eq_some_iff.1 h.2.2.2.2.1).1 (fun e => h.2.2.2.2.2.2 e.symm)).trans h.2.2.2.2.1, h.2.2.2.2.2.1⟩
theorem SfT.set {W : World} {tb xb : Nat} {m : Mth} {pp pc ph : Option Addr} {np cp nc cc nh ch : Nat} (h : SfT W tb xb m pp pc ph np cp nc cc nh ch) (u : Value) : SfX (W.setCell ⟨tb, 1, none⟩ u) xb m pp pc ph np cp nc cc nh ch :=
  (heap_setCell_other W ⟨tb, 1, none⟩ xb u (by simpa using h.2)).trans h.1
set_option maxHeartbeats 4000000 in
set_option maxRecDepth 100000 in
theorem faceOf_h (c : Cls) (pi pf pm : Option Addr) (ni ci nf cf cm : Nat) (ok : Nat → Prop) (w : World) (hm : RdX 9 mP ok w (.slice pm c.methods.length cm) c.methods) (hl : c.methods.length ≤ 100000) (hz : ∀ m ∈ c.methods, SzM m ∧ m.name.size ≤ 1000000) :
    Calls Tryz.prog 82 #[.agg #[.string c.name, .string c.super, .slice pi ni ci, .int .i64 c.kind, .slice pf nf cf, .slice pm c.methods.length cm]] w fun e w' => ∃ p n cc, e = .returned (.agg #[.int .i64 c.kind, .slice p n cc]) ∧ OwnX 5 104 (sP sgC) w' w.heap.size (.slice p n cc) (c.methods.map sgOf) ∧ Below w.heap.size w w' := by
  have HM := Lib.hid hm
  have HZ := Lib.hid hz
  clear hm hz
  go_enter Tryz.func82, Tryz.ntmps82
  go_wp2_with fail
  have H0 : FcB (((w.alloc (.cells #[.string c.name, .string c.super, .slice pi ni ci, .int .i64 c.kind, .slice pf nf cf, .slice pm c.methods.length cm] 27)).alloc (.cells #[.int .i64 0, .slice none 0 0] 99)).alloc (.cells #[.int .i64 c.kind, .slice none 0 0] 99)) w.heap.size (w.heap.size + 1 + 1) (w.heap.size + 1) c.kind (.slice none 0 0) ([].map sgOf) := by
    refine ⟨?_, by omega, OwnX.nil _ _ _ _ _, by simp [Value.ownBlock], ?_, by omega, by omega, by simp [Value.ownBlock]⟩
    · have := heap_alloc_new ((w.alloc (.cells #[.string c.name, .string c.super, .slice pi ni ci, .int .i64 c.kind, .slice pf nf cf, .slice pm c.methods.length cm] 27)).alloc (.cells #[.int .i64 0, .slice none 0 0] 99)) (.cells #[.int .i64 c.kind, .slice none 0 0] 99)
      simpa using this
    · have := heap_alloc_new (w.alloc (.cells #[.string c.name, .string c.super, .slice pi ni ci, .int .i64 c.kind, .slice pf nf cf, .slice pm c.methods.length cm] 27)) (.cells #[.int .i64 0, .slice none 0 0] 99)
      rw [World.size_alloc] at this
      exact (below_alR _ _).block _ (by simp) |>.trans this
  have B0 : Below w.heap.size w (((w.alloc (.cells #[.string c.name, .string c.super, .slice pi ni ci, .int .i64 c.kind, .slice pf nf cf, .slice pm c.methods.length cm] 27)).alloc (.cells #[.int .i64 0, .slice none 0 0] 99)).alloc (.cells #[.int .i64 c.kind, .slice none 0 0] 99)) := (((Below.refl _ w).alloc (Nat.le_refl _) _).alloc (by simp) _).alloc (by simp; omega) _
  obtain ⟨w0, hw0⟩ : ∃ x, x = (((w.alloc (.cells #[.string c.name, .string c.super, .slice pi ni ci, .int .i64 c.kind, .slice pf nf cf, .slice pm c.methods.length cm] 27)).alloc (.cells #[.int .i64 0, .slice none 0 0] 99)).alloc (.cells #[.int .i64 c.kind, .slice none 0 0] 99)) := ⟨_, rfl⟩
  rw [← hw0] at H0 B0 ⊢
  have H1 := Lib.hid H0
  have HB0 := Lib.hid B0
  clear hw0 H0 B0
  obtain ⟨tb, htb⟩ : ∃ x, w.heap.size + 1 + 1 = x := ⟨_, rfl⟩
  obtain ⟨rb, hrb⟩ : ∃ x, w.heap.size + 1 = x := ⟨_, rfl⟩
  rw [htb, hrb] at H1
  rw [htb, hrb]
  clear htb hrb
  go_loopw [12] (fun x wr => ∃ (i : Nat) (v : Value), x = .int .i64 (i : Int) ∧ i ≤ c.methods.length ∧ Hid (FcB wr w.heap.size tb rb c.kind v ((c.methods.take i).map sgOf)) ∧ Hid (Below w.heap.size w wr)) (fun x _ => c.methods.length - (intOf x).toNat)
  case atStart => exact ⟨0, _, rfl, by omega, H1, HB0⟩
  case round =>
    clear H1 HB0
    obtain ⟨i, v, rfl, hi, HI, HB⟩ := hrel
    by_cases hlt : i < c.methods.length
    · obtain ⟨m, hmm⟩ : ∃ m, c.methods[i]? = some m := ⟨_, List.getElem?_eq_getElem hlt⟩
      have hlt' : (i : Int) < (c.methods.length : Int) := by omega
      have i0 : (0 : Int) ≤ (i : Int) := by omega
      have hne : c.methods ≠ [] := by intro h; rw [h] at hlt; simp at hlt
      obtain ⟨b, off, rfl, -, -, hBb, hbl, hcells⟩ := (HM.out.any mP.grow HB.out).place hne
      obtain ⟨l, ⟨vp, vc, vh, rfl, k1, k2, k3⟩, hcell⟩ := hcells _ _ hmm
      obtain ⟨pp, cp, rfl, -⟩ := k1.len
      obtain ⟨pc, cc, rfl, -⟩ := k2.len
      obtain ⟨ph, ch, rfl, -⟩ := k3.len
      obtain ⟨y0, y1, y2, y3, y4, y5, y6, y7, y8⟩ := (show CellsAt wr b (off + i * 9) _ from hcell).nine
      have hmem := List.mem_of_getElem? hmm
      have HZM := Lib.hid (HZ.out m hmem)
      have HT : Hid ((c.methods.take (i + 1)).map sgOf = (c.methods.take i).map sgOf ++ [sgOf m]) := Lib.hid (by rw [take_snoc hmm, List.map_append]; rfl)
      have hln : ((c.methods.take i).map sgOf).length = i := by rw [List.length_map, List.length_take]; omega
      obtain ⟨ss, hss⟩ : ∃ x, (c.methods.take i).map sgOf = x := ⟨_, rfl⟩
      rw [hss] at HI HT hln
      have HLN := Lib.hid hln
      have hzr := HB.out.size
      obtain ⟨w2, hw2⟩ : ∃ x, x = wr.alloc (.cells #[.string m.name, .slice pp m.params.length cp, .int .i64 m.ret.1, .string m.ret.2, .bool m.st, .bool m.ab, .int .i64 m.locals, .slice pc m.code.length cc, .slice ph m.hs.length ch] 42) := ⟨_, rfl⟩
      have hS2 : SfB w2.drew w w.heap.size tb rb wr.heap.size c.kind v ss ok m pp pc ph m.params.length cp m.code.length cc m.hs.length ch := by
        rw [hw2]
        refine ⟨(HI.out.below (below_alR _ _)).below ((Below.refl _ _).drew), (HB.out.alloc HB.out.size _).drew, by simp; omega, (k1.any (sP.grow _) (below_alR _ _)).any (sP.grow _) ((Below.refl _ _).drew), heap_alloc_new _ _, by have := HI.out.cells.1; omega, fun e => by have := (HI.out.2.2.1.lt _ e).2; omega⟩
      have HS := Lib.hid hS2
      obtain ⟨va, vn, vk, hv⟩ : ∃ a n k, v = .slice a n k := by obtain ⟨p, cap, e, _⟩ := (HI.out.2.2.1.rd (sP.grow _)).len; exact ⟨_, _, _, e⟩
      subst hv
      clear hcells hcell hmm hne hBb hmem hS2 hss hln k1 k2 k3 HI HB
      go_upto_region 5 with fail
      rw [← hw2]
      clear hw2 y0 y1 y2 y3 y4 y5 y6 y7 y8 hbl
      obtain ⟨xb, hxb⟩ : ∃ x, wr.heap.size = x := ⟨_, rfl⟩
      rw [hxb] at HS ⊢
      clear hxb
      refine wp_region_held_drew (S := fun W => W.cell? ⟨xb, 0, none⟩ = some (.string m.name) ∧ W.cell? ⟨xb, 1, none⟩ = some (.slice pp m.params.length cp) ∧ W.cell? ⟨xb, 2, none⟩ = some (.int .i64 m.ret.1) ∧ W.cell? ⟨xb, 3, none⟩ = some (.string m.ret.2) ∧ W.cell? ⟨xb, 4, none⟩ = some (.bool m.st) ∧ W.cell? ⟨xb, 5, none⟩ = some (.bool m.ab) ∧ W.cell? ⟨xb, 6, none⟩ = some (.int .i64 m.locals) ∧ W.cell? ⟨xb, 7, none⟩ = some (.slice pc m.code.length cc) ∧ W.cell? ⟨xb, 8, none⟩ = some (.slice ph m.hs.length ch)) (by kernel_rfl) HS.out.held (fun hHeld => ?_)
      refine wpAnyH_take (i := 0) (oi := _) (v := ?_) (by simp only [List.getElem?_toArray, List.getElem?_cons_zero]; rfl) (by kernel_rfl) (by kernel_rfl) (by kernel_rfl) (by intro _ _ _ h; exact h) (Or.inl ⟨by rfl, fun W hSw => ?_⟩) hHeld ?_
      rotate_left 1
      · (clear hSw; first | (go_simp; done) | (go_simp; with_reducible rfl))
      try go_frame
      refine wpAnyH_take (i := 2) (oi := _) (v := ?_) (by simp only [List.getElem?_toArray, List.getElem?_cons_succ, List.getElem?_cons_zero]; rfl) (by kernel_rfl) (by kernel_rfl) (by kernel_rfl) (by intro _ _ _ h; exact h) (Or.inl ⟨by rfl, fun W hSw => ?_⟩) hHeld ?_
      rotate_left 1
      · (clear hSw; first | (go_simp; done) | (go_simp; with_reducible rfl))
      try go_frame
      refine wpAnyH_take (i := 3) (oi := _) (v := ?_) (by simp only [List.getElem?_toArray, List.getElem?_cons_succ, List.getElem?_cons_zero]; rfl) (by kernel_rfl) (by kernel_rfl) (by kernel_rfl) (by intro _ _ _ h; exact h) (Or.inl ⟨by rfl, fun W hSw => ?_⟩) hHeld ?_
      rotate_left 1
      · (try dsimp only at hSw); first | (go_simp; done) | (go_simp; with_reducible rfl)
      try go_frame
      refine wpAnyH_take (i := 4) (oi := _) (v := ?_) (by simp only [List.getElem?_toArray, List.getElem?_cons_succ, List.getElem?_cons_zero]; rfl) (by kernel_rfl) (by kernel_rfl) (by kernel_rfl) (by intro _ _ _ h; exact h) (Or.inl ⟨by rfl, fun W hSw => ?_⟩) hHeld ?_
      rotate_left 1
      · (clear hSw; first | (go_simp; done) | (go_simp; with_reducible rfl))
      try go_frame
      refine wpAnyH_take (i := 5) (oi := _) (v := ?_) (by simp only [List.getElem?_toArray, List.getElem?_cons_succ, List.getElem?_cons_zero]; rfl) (by kernel_rfl) (by kernel_rfl) (by kernel_rfl) (by intro _ _ _ h; exact h) (Or.inl ⟨by rfl, fun W hSw => ?_⟩) hHeld ?_
      rotate_left 1
      · (try dsimp only at hSw); first | (go_simp; done) | (go_simp; with_reducible rfl)
      try go_frame
      refine wpAnyH_take (i := 6) (oi := _) (v := ?_) (by simp only [List.getElem?_toArray, List.getElem?_cons_succ, List.getElem?_cons_zero]; rfl) (by kernel_rfl) (by kernel_rfl) (by kernel_rfl) (by intro _ _ _ h; exact h) (Or.inl ⟨by rfl, fun W hSw => ?_⟩) hHeld ?_
      rotate_left 1
      · (clear hSw; first | (go_simp; done) | (go_simp; with_reducible rfl))
      try go_frame
      refine wpAnyH_take (i := 7) (oi := _) (v := ?_) (by simp only [List.getElem?_toArray, List.getElem?_cons_succ, List.getElem?_cons_zero]; rfl) (by kernel_rfl) (by kernel_rfl) (by kernel_rfl) (by intro _ _ _ h; exact h) (Or.inl ⟨by rfl, fun W hSw => ?_⟩) hHeld ?_
      rotate_left 1
      · (try dsimp only at hSw); first | (go_simp; done) | (go_simp; with_reducible rfl)
      try go_frame
      refine wpAnyH_take (i := 10) (oi := _) (v := ?_) (by simp only [List.getElem?_toArray, List.getElem?_cons_succ, List.getElem?_cons_zero]; rfl) (by kernel_rfl) (by kernel_rfl) (by kernel_rfl) (by intro _ _ _ h; exact h) (Or.inl ⟨by rfl, fun W hSw => ?_⟩) hHeld ?_
      rotate_left 1
      · (try dsimp only at hSw); first | (go_simp; done) | (go_simp; with_reducible rfl)
      try go_frame
      refine wpAnyH_take (i := 12) (oi := _) (v := ?_) (by simp only [List.getElem?_toArray, List.getElem?_cons_succ, List.getElem?_cons_zero]; rfl) (by kernel_rfl) (by kernel_rfl) (by kernel_rfl) (by intro _ _ _ h; exact h) (Or.inl ⟨by rfl, fun W hSw => ?_⟩) hHeld ?_
      rotate_left 1
      · (clear hSw; first | (go_simp; done) | (go_simp; with_reducible rfl))
      try go_frame
      refine wpAnyH_take (i := 13) (oi := _) (v := ?_) (by simp only [List.getElem?_toArray, List.getElem?_cons_succ, List.getElem?_cons_zero]; rfl) (by kernel_rfl) (by kernel_rfl) (by kernel_rfl) (by intro _ _ _ h; exact h) (Or.inl ⟨by rfl, fun W hSw => ?_⟩) hHeld ?_
      rotate_left 1
      · (try dsimp only at hSw); first | (go_simp; done) | (go_simp; with_reducible rfl)
      try go_frame
      refine wpAnyH_take (i := 14) (oi := _) (v := ?_) (by simp only [List.getElem?_toArray, List.getElem?_cons_succ, List.getElem?_cons_zero]; rfl) (by kernel_rfl) (by kernel_rfl) (by kernel_rfl) (by intro _ _ _ h; exact h) (Or.inl ⟨by rfl, fun W hSw => ?_⟩) hHeld ?_
      rotate_left 1
      · (clear hSw; first | (go_simp; done) | (go_simp; with_reducible rfl))
      try go_frame
      refine wpAnyH_take (i := 15) (oi := _) (v := ?_) (by simp only [List.getElem?_toArray, List.getElem?_cons_succ, List.getElem?_cons_zero]; rfl) (by kernel_rfl) (by kernel_rfl) (by kernel_rfl) (by intro _ _ _ h; exact h) (Or.inl ⟨by rfl, fun W hSw => ?_⟩) hHeld ?_
      rotate_left 1
      · (try dsimp only at hSw); first | (go_simp; done) | (go_simp; with_reducible rfl)
      try go_frame
      refine wpAnyH_ready (rs := [1, 8]) (by kernel_rfl) (by simp) ?_
      refine AllReadyH.cons (o := _) (by simp only [List.getElem?_toArray, List.getElem?_cons_succ, List.getElem?_cons_zero]; rfl) (fun K hK => ?_) ?_
      · clear hHeld
        obtain ⟨tl, t0, t1, tf⟩ := HS.out.1.cells
        go_simp
        clear tl t0 t1 tf
        refine hK.out _ _ HS.out.held (fun hHeld => ?_)
        clear hK K
        try go_frame
        refine wpAnyH_ready (rs := [8]) (by kernel_rfl) (by simp) ?_
        refine AllReadyH.cons (o := _) (by simp only [List.getElem?_toArray, List.getElem?_cons_succ, List.getElem?_cons_zero]; rfl) (fun K hK => ?_) AllReadyH.nil
        clear hHeld
        go_simp
        refine (of_any _ m.params m.ret.1 m.ret.2 _ (rdT_m HS.out.2.2.2.1) HZM.out.1.1 HZM.out.1.2.1 HZM.out.1.2.2).mono ?_
        rintro e wx ⟨rfl, hbx⟩
        replace HS := Lib.hid (HS.out.below hbx)
        clear hbx
        refine hK.out _ _ HS.out.held (fun hHeld => ?_)
        clear hK K
        try go_frame
        refine wpAnyH_take (i := 9) (oi := _) (v := ?_) (by simp only [List.getElem?_toArray, List.getElem?_cons_succ, List.getElem?_cons_zero]; rfl) (by kernel_rfl) (by kernel_rfl) (by kernel_rfl) (by intro _ _ _ h; exact h) (Or.inl ⟨by rfl, fun W hSw => ?_⟩) hHeld ?_
        rotate_left 1
        · (clear hSw; first | (go_simp; done) | (go_simp; with_reducible rfl))
        try go_frame
        refine wpAnyH_ready (rs := [11]) (by kernel_rfl) (by simp) ?_
        refine AllReadyH.cons (o := _) (by simp only [List.getElem?_toArray, List.getElem?_cons_succ, List.getElem?_cons_zero]; rfl) (fun K hK => ?_) AllReadyH.nil
        clear hHeld
        go_simp
        refine (key_any m.name _ m.params m.ret.1 m.ret.2 m.st m.ab m.locals _ _ _ (rdT_m HS.out.2.2.2.1) HZM.out.1.1 HZM.out.1.2.1 HZM.out.1.2.2 HZM.out.2).mono ?_
        rintro e wy ⟨rfl, hby⟩
        replace HS := Lib.hid (HS.out.below hby)
        clear hby
        refine hK.out _ _ HS.out.held (fun hHeld => ?_)
        clear hK K
        try go_frame
        refine wpAnyH_take (i := 16) (oi := _) (v := ?_) (by simp only [List.getElem?_toArray, List.getElem?_cons_succ, List.getElem?_cons_zero]; rfl) (by kernel_rfl) (by kernel_rfl) (by kernel_rfl) (by intro _ _ _ h; exact h) (Or.inl ⟨by rfl, fun W hSw => ?_⟩) hHeld ?_
        rotate_left 1
        · (clear hSw; first | (go_simp; done) | (go_simp; with_reducible rfl))
        try go_frame
        refine wpAnyH_ready (rs := [17]) (by kernel_rfl) (by simp) ?_
        refine AllReadyH.cons (o := _) (by simp only [List.getElem?_toArray, List.getElem?_cons_succ, List.getElem?_cons_zero]; rfl) (fun K hK => ?_) AllReadyH.nil
        clear hHeld
        go_simp
        have hsrc := Lib.hid (rdX_lit1 (sz := 5) (c := sgC) (fun _ => rfl) wy (sgOf m) #[.string m.name, .string (bx (ofL m.params (m.ret.1, m.ret.2))), .string (m.name ++ bx (ofL m.params (m.ret.1, m.ret.2))), .bool m.st, .bool m.ab] 104 rfl)
        replace HS := Lib.hid (HS.out.below (below_alR wy (.cells #[.string m.name, .string (bx (ofL m.params (m.ret.1, m.ret.2))), .string (m.name ++ bx (ofL m.params (m.ret.1, m.ret.2))), .bool m.st, .bool m.ab] 104)))
        refine hK.out _ _ HS.out.held (fun hHeld => ?_)
        clear hK K
        try go_frame
        refine wpAnyH_ready (rs := [18]) (by kernel_rfl) (by simp) ?_
        refine AllReadyH.cons (o := _) (by simp only [List.getElem?_toArray, List.getElem?_cons_succ, List.getElem?_cons_zero]; rfl) (fun K hK => ?_) AllReadyH.nil
        clear hHeld
        refine step_appM inf_sgn shape_sgn (by rfl) _ _ (by rfl) w.heap.size _ ss (by rfl) HS.out.1.2.2.1 _ 0 1 1 [sgOf m] (by rfl) hsrc.out (by have := HLN.out; simp <;> omega) HS.out.2.2.1 ?_
        intro v6 w6 ho6 hg6 hl6
        obtain ⟨e1, e2, e3, e4, hC6, hB6⟩ := HS.out.1.app HS.out.2.2.1 ho6 hg6 hl6
        obtain ⟨pq, nq, cq, hv6⟩ := ho6.slice
        subst hv6
        have HC6 := Lib.hid hC6
        have HB6 := Lib.hid (HS.out.2.1.trans hB6)
        have HS6 := Lib.hid (HS.out.grown hg6)
        clear hC6 hB6 ho6 hg6 hl6 HS
        have HS := HS6
        clear HS6
        refine hK.out _ _ HS.out.held (fun hHeld => ?_)
        clear hK K
        try go_frame
        refine wpAnyH_take (i := 19) (oi := _) (v := ?_) (by simp only [List.getElem?_toArray, List.getElem?_cons_succ, List.getElem?_cons_zero]; rfl) (by kernel_rfl) (by kernel_rfl) (by kernel_rfl) (by intro _ _ _ h; exact h) (Or.inl ⟨by rfl, fun W hSw => ?_⟩) hHeld ?_
        rotate_left 1
        · (clear hSw; first | (go_simp; done) | (go_simp; with_reducible rfl))
        try go_frame
        refine wpAnyH_ready (rs := [20]) (by kernel_rfl) (by simp) ?_
        refine AllReadyH.cons (o := _) (by simp only [List.getElem?_toArray, List.getElem?_cons_succ, List.getElem?_cons_zero]; rfl) (fun K hK => ?_) AllReadyH.nil
        clear hHeld
        go_simp
        replace HS : Hid (SfX (w6.setCell ⟨tb, 1, none⟩ (.slice pq nq cq)) xb m pp pc ph m.params.length cp m.code.length cc m.hs.length ch) := Lib.hid (HS.out.set (.slice pq nq cq))
        clear e1 e2 e3 e4
        refine hK.out _ _ HS.out.held (fun hHeld => ?_)
        clear hK K
        try go_frame
        refine wpAnyH_done (by kernel_rfl) ?_ _
        obtain ⟨W7, hW7⟩ : ∃ x, x = w6.setCell ⟨tb, 1, none⟩ (.slice pq nq cq) := ⟨_, rfl⟩
        rw [← hW7] at HC6 HB6 ⊢
        have HCf : Hid (FcB W7 w.heap.size tb rb c.kind (.slice pq nq cq) ((c.methods.take (i + 1)).map sgOf)) := Lib.hid (by rw [HT.out]; exact HC6.out)
        clear hW7 HC6 hHeld HS
        go_wp2_with fail
        go_roundw
        case rel => exact ⟨i + 1, _, by go_num, by omega, HCf, HB6⟩
        case measure => simp [intOf]; omega
      refine AllReadyH.cons (o := _) (by simp only [List.getElem?_toArray, List.getElem?_cons_succ, List.getElem?_cons_zero]; rfl) (fun K hK => ?_) AllReadyH.nil
      clear hHeld
      go_simp
      refine (of_any _ m.params m.ret.1 m.ret.2 _ (rdT_m HS.out.2.2.2.1) HZM.out.1.1 HZM.out.1.2.1 HZM.out.1.2.2).mono ?_
      rintro e wx ⟨rfl, hbx⟩
      replace HS := Lib.hid (HS.out.below hbx)
      clear hbx
      refine hK.out _ _ HS.out.held (fun hHeld => ?_)
      clear hK K
      try go_frame
      refine wpAnyH_take (i := 9) (oi := _) (v := ?_) (by simp only [List.getElem?_toArray, List.getElem?_cons_succ, List.getElem?_cons_zero]; rfl) (by kernel_rfl) (by kernel_rfl) (by kernel_rfl) (by intro _ _ _ h; exact h) (Or.inl ⟨by rfl, fun W hSw => ?_⟩) hHeld ?_
      rotate_left 1
      · (clear hSw; first | (go_simp; done) | (go_simp; with_reducible rfl))
      try go_frame
      refine wpAnyH_ready (rs := [1, 11]) (by kernel_rfl) (by simp) ?_
      refine AllReadyH.cons (o := _) (by simp only [List.getElem?_toArray, List.getElem?_cons_succ, List.getElem?_cons_zero]; rfl) (fun K hK => ?_) ?_
      · clear hHeld
        obtain ⟨tl, t0, t1, tf⟩ := HS.out.1.cells
        go_simp
        clear tl t0 t1 tf
        refine hK.out _ _ HS.out.held (fun hHeld => ?_)
        clear hK K
        try go_frame
        refine wpAnyH_ready (rs := [11]) (by kernel_rfl) (by simp) ?_
        refine AllReadyH.cons (o := _) (by simp only [List.getElem?_toArray, List.getElem?_cons_succ, List.getElem?_cons_zero]; rfl) (fun K hK => ?_) AllReadyH.nil
        clear hHeld
        go_simp
        refine (key_any m.name _ m.params m.ret.1 m.ret.2 m.st m.ab m.locals _ _ _ (rdT_m HS.out.2.2.2.1) HZM.out.1.1 HZM.out.1.2.1 HZM.out.1.2.2 HZM.out.2).mono ?_
        rintro e wy ⟨rfl, hby⟩
        replace HS := Lib.hid (HS.out.below hby)
        clear hby
        refine hK.out _ _ HS.out.held (fun hHeld => ?_)
        clear hK K
        try go_frame
        refine wpAnyH_take (i := 16) (oi := _) (v := ?_) (by simp only [List.getElem?_toArray, List.getElem?_cons_succ, List.getElem?_cons_zero]; rfl) (by kernel_rfl) (by kernel_rfl) (by kernel_rfl) (by intro _ _ _ h; exact h) (Or.inl ⟨by rfl, fun W hSw => ?_⟩) hHeld ?_
        rotate_left 1
        · (clear hSw; first | (go_simp; done) | (go_simp; with_reducible rfl))
        try go_frame
        refine wpAnyH_ready (rs := [17]) (by kernel_rfl) (by simp) ?_
        refine AllReadyH.cons (o := _) (by simp only [List.getElem?_toArray, List.getElem?_cons_succ, List.getElem?_cons_zero]; rfl) (fun K hK => ?_) AllReadyH.nil
        clear hHeld
        go_simp
        have hsrc := Lib.hid (rdX_lit1 (sz := 5) (c := sgC) (fun _ => rfl) wy (sgOf m) #[.string m.name, .string (bx (ofL m.params (m.ret.1, m.ret.2))), .string (m.name ++ bx (ofL m.params (m.ret.1, m.ret.2))), .bool m.st, .bool m.ab] 104 rfl)
        replace HS := Lib.hid (HS.out.below (below_alR wy (.cells #[.string m.name, .string (bx (ofL m.params (m.ret.1, m.ret.2))), .string (m.name ++ bx (ofL m.params (m.ret.1, m.ret.2))), .bool m.st, .bool m.ab] 104)))
        refine hK.out _ _ HS.out.held (fun hHeld => ?_)
        clear hK K
        try go_frame
        refine wpAnyH_ready (rs := [18]) (by kernel_rfl) (by simp) ?_
        refine AllReadyH.cons (o := _) (by simp only [List.getElem?_toArray, List.getElem?_cons_succ, List.getElem?_cons_zero]; rfl) (fun K hK => ?_) AllReadyH.nil
        clear hHeld
        refine step_appM inf_sgn shape_sgn (by rfl) _ _ (by rfl) w.heap.size _ ss (by rfl) HS.out.1.2.2.1 _ 0 1 1 [sgOf m] (by rfl) hsrc.out (by have := HLN.out; simp <;> omega) HS.out.2.2.1 ?_
        intro v6 w6 ho6 hg6 hl6
        obtain ⟨e1, e2, e3, e4, hC6, hB6⟩ := HS.out.1.app HS.out.2.2.1 ho6 hg6 hl6
        obtain ⟨pq, nq, cq, hv6⟩ := ho6.slice
        subst hv6
        have HC6 := Lib.hid hC6
        have HB6 := Lib.hid (HS.out.2.1.trans hB6)
        have HS6 := Lib.hid (HS.out.grown hg6)
        clear hC6 hB6 ho6 hg6 hl6 HS
        have HS := HS6
        clear HS6
        refine hK.out _ _ HS.out.held (fun hHeld => ?_)
        clear hK K
        try go_frame
        refine wpAnyH_take (i := 19) (oi := _) (v := ?_) (by simp only [List.getElem?_toArray, List.getElem?_cons_succ, List.getElem?_cons_zero]; rfl) (by kernel_rfl) (by kernel_rfl) (by kernel_rfl) (by intro _ _ _ h; exact h) (Or.inl ⟨by rfl, fun W hSw => ?_⟩) hHeld ?_
        rotate_left 1
        · (clear hSw; first | (go_simp; done) | (go_simp; with_reducible rfl))
        try go_frame
        refine wpAnyH_ready (rs := [20]) (by kernel_rfl) (by simp) ?_
        refine AllReadyH.cons (o := _) (by simp only [List.getElem?_toArray, List.getElem?_cons_succ, List.getElem?_cons_zero]; rfl) (fun K hK => ?_) AllReadyH.nil
        clear hHeld
        go_simp
        replace HS : Hid (SfX (w6.setCell ⟨tb, 1, none⟩ (.slice pq nq cq)) xb m pp pc ph m.params.length cp m.code.length cc m.hs.length ch) := Lib.hid (HS.out.set (.slice pq nq cq))
        clear e1 e2 e3 e4
        refine hK.out _ _ HS.out.held (fun hHeld => ?_)
        clear hK K
        try go_frame
        refine wpAnyH_done (by kernel_rfl) ?_ _
        obtain ⟨W7, hW7⟩ : ∃ x, x = w6.setCell ⟨tb, 1, none⟩ (.slice pq nq cq) := ⟨_, rfl⟩
        rw [← hW7] at HC6 HB6 ⊢
        have HCf : Hid (FcB W7 w.heap.size tb rb c.kind (.slice pq nq cq) ((c.methods.take (i + 1)).map sgOf)) := Lib.hid (by rw [HT.out]; exact HC6.out)
        clear hW7 HC6 hHeld HS
        go_wp2_with fail
        go_roundw
        case rel => exact ⟨i + 1, _, by go_num, by omega, HCf, HB6⟩
        case measure => simp [intOf]; omega
      refine AllReadyH.cons (o := _) (by simp only [List.getElem?_toArray, List.getElem?_cons_succ, List.getElem?_cons_zero]; rfl) (fun K hK => ?_) AllReadyH.nil
      clear hHeld
      go_simp
      refine (key_any m.name _ m.params m.ret.1 m.ret.2 m.st m.ab m.locals _ _ _ (rdT_m HS.out.2.2.2.1) HZM.out.1.1 HZM.out.1.2.1 HZM.out.1.2.2 HZM.out.2).mono ?_
      rintro e wy ⟨rfl, hby⟩
      replace HS := Lib.hid (HS.out.below hby)
      clear hby
      refine hK.out _ _ HS.out.held (fun hHeld => ?_)
      clear hK K
      try go_frame
      refine wpAnyH_take (i := 16) (oi := _) (v := ?_) (by simp only [List.getElem?_toArray, List.getElem?_cons_succ, List.getElem?_cons_zero]; rfl) (by kernel_rfl) (by kernel_rfl) (by kernel_rfl) (by intro _ _ _ h; exact h) (Or.inl ⟨by rfl, fun W hSw => ?_⟩) hHeld ?_
      rotate_left 1
      · (clear hSw; first | (go_simp; done) | (go_simp; with_reducible rfl))
      try go_frame
      refine wpAnyH_ready (rs := [1, 17]) (by kernel_rfl) (by simp) ?_
      refine AllReadyH.cons (o := _) (by simp only [List.getElem?_toArray, List.getElem?_cons_succ, List.getElem?_cons_zero]; rfl) (fun K hK => ?_) ?_
      · clear hHeld
        obtain ⟨tl, t0, t1, tf⟩ := HS.out.1.cells
        go_simp
        clear tl t0 t1 tf
        refine hK.out _ _ HS.out.held (fun hHeld => ?_)
        clear hK K
        try go_frame
        refine wpAnyH_ready (rs := [17]) (by kernel_rfl) (by simp) ?_
        refine AllReadyH.cons (o := _) (by simp only [List.getElem?_toArray, List.getElem?_cons_succ, List.getElem?_cons_zero]; rfl) (fun K hK => ?_) AllReadyH.nil
        clear hHeld
        go_simp
        have hsrc := Lib.hid (rdX_lit1 (sz := 5) (c := sgC) (fun _ => rfl) wy (sgOf m) #[.string m.name, .string (bx (ofL m.params (m.ret.1, m.ret.2))), .string (m.name ++ bx (ofL m.params (m.ret.1, m.ret.2))), .bool m.st, .bool m.ab] 104 rfl)
        replace HS := Lib.hid (HS.out.below (below_alR wy (.cells #[.string m.name, .string (bx (ofL m.params (m.ret.1, m.ret.2))), .string (m.name ++ bx (ofL m.params (m.ret.1, m.ret.2))), .bool m.st, .bool m.ab] 104)))
        refine hK.out _ _ HS.out.held (fun hHeld => ?_)
        clear hK K
        try go_frame
        refine wpAnyH_ready (rs := [18]) (by kernel_rfl) (by simp) ?_
        refine AllReadyH.cons (o := _) (by simp only [List.getElem?_toArray, List.getElem?_cons_succ, List.getElem?_cons_zero]; rfl) (fun K hK => ?_) AllReadyH.nil
        clear hHeld
        refine step_appM inf_sgn shape_sgn (by rfl) _ _ (by rfl) w.heap.size _ ss (by rfl) HS.out.1.2.2.1 _ 0 1 1 [sgOf m] (by rfl) hsrc.out (by have := HLN.out; simp <;> omega) HS.out.2.2.1 ?_
        intro v6 w6 ho6 hg6 hl6
        obtain ⟨e1, e2, e3, e4, hC6, hB6⟩ := HS.out.1.app HS.out.2.2.1 ho6 hg6 hl6
        obtain ⟨pq, nq, cq, hv6⟩ := ho6.slice
        subst hv6
        have HC6 := Lib.hid hC6
        have HB6 := Lib.hid (HS.out.2.1.trans hB6)
        have HS6 := Lib.hid (HS.out.grown hg6)
        clear hC6 hB6 ho6 hg6 hl6 HS
        have HS := HS6
        clear HS6
        refine hK.out _ _ HS.out.held (fun hHeld => ?_)
        clear hK K
        try go_frame
        refine wpAnyH_take (i := 19) (oi := _) (v := ?_) (by simp only [List.getElem?_toArray, List.getElem?_cons_succ, List.getElem?_cons_zero]; rfl) (by kernel_rfl) (by kernel_rfl) (by kernel_rfl) (by intro _ _ _ h; exact h) (Or.inl ⟨by rfl, fun W hSw => ?_⟩) hHeld ?_
        rotate_left 1
        · (clear hSw; first | (go_simp; done) | (go_simp; with_reducible rfl))
        try go_frame
        refine wpAnyH_ready (rs := [20]) (by kernel_rfl) (by simp) ?_
        refine AllReadyH.cons (o := _) (by simp only [List.getElem?_toArray, List.getElem?_cons_succ, List.getElem?_cons_zero]; rfl) (fun K hK => ?_) AllReadyH.nil
        clear hHeld
        go_simp
        replace HS : Hid (SfX (w6.setCell ⟨tb, 1, none⟩ (.slice pq nq cq)) xb m pp pc ph m.params.length cp m.code.length cc m.hs.length ch) := Lib.hid (HS.out.set (.slice pq nq cq))
        clear e1 e2 e3 e4
        refine hK.out _ _ HS.out.held (fun hHeld => ?_)
        clear hK K
        try go_frame
        refine wpAnyH_done (by kernel_rfl) ?_ _
        obtain ⟨W7, hW7⟩ : ∃ x, x = w6.setCell ⟨tb, 1, none⟩ (.slice pq nq cq) := ⟨_, rfl⟩
        rw [← hW7] at HC6 HB6 ⊢
        have HCf : Hid (FcB W7 w.heap.size tb rb c.kind (.slice pq nq cq) ((c.methods.take (i + 1)).map sgOf)) := Lib.hid (by rw [HT.out]; exact HC6.out)
        clear hW7 HC6 hHeld HS
        go_wp2_with fail
        go_roundw
        case rel => exact ⟨i + 1, _, by go_num, by omega, HCf, HB6⟩
        case measure => simp [intOf]; omega
      refine AllReadyH.cons (o := _) (by simp only [List.getElem?_toArray, List.getElem?_cons_succ, List.getElem?_cons_zero]; rfl) (fun K hK => ?_) AllReadyH.nil
      clear hHeld
      go_simp
      have hsrc := Lib.hid (rdX_lit1 (sz := 5) (c := sgC) (fun _ => rfl) wy (sgOf m) #[.string m.name, .string (bx (ofL m.params (m.ret.1, m.ret.2))), .string (m.name ++ bx (ofL m.params (m.ret.1, m.ret.2))), .bool m.st, .bool m.ab] 104 rfl)
      replace HS := Lib.hid (HS.out.below (below_alR wy (.cells #[.string m.name, .string (bx (ofL m.params (m.ret.1, m.ret.2))), .string (m.name ++ bx (ofL m.params (m.ret.1, m.ret.2))), .bool m.st, .bool m.ab] 104)))
      refine hK.out _ _ HS.out.held (fun hHeld => ?_)
      clear hK K
      try go_frame
      refine wpAnyH_ready (rs := [1]) (by kernel_rfl) (by simp) ?_
      refine AllReadyH.cons (o := _) (by simp only [List.getElem?_toArray, List.getElem?_cons_succ, List.getElem?_cons_zero]; rfl) (fun K hK => ?_) AllReadyH.nil
      clear hHeld
      obtain ⟨tl, t0, t1, tf⟩ := HS.out.1.cells
      go_simp
      clear tl t0 t1 tf
      refine hK.out _ _ HS.out.held (fun hHeld => ?_)
      clear hK K
      try go_frame
      refine wpAnyH_ready (rs := [18]) (by kernel_rfl) (by simp) ?_
      refine AllReadyH.cons (o := _) (by simp only [List.getElem?_toArray, List.getElem?_cons_succ, List.getElem?_cons_zero]; rfl) (fun K hK => ?_) AllReadyH.nil
      clear hHeld
      refine step_appM inf_sgn shape_sgn (by rfl) _ _ (by rfl) w.heap.size _ ss (by rfl) HS.out.1.2.2.1 _ 0 1 1 [sgOf m] (by rfl) hsrc.out (by have := HLN.out; simp <;> omega) HS.out.2.2.1 ?_
      intro v6 w6 ho6 hg6 hl6
      obtain ⟨e1, e2, e3, e4, hC6, hB6⟩ := HS.out.1.app HS.out.2.2.1 ho6 hg6 hl6
      obtain ⟨pq, nq, cq, hv6⟩ := ho6.slice
      subst hv6
      have HC6 := Lib.hid hC6
      have HB6 := Lib.hid (HS.out.2.1.trans hB6)
      have HS6 := Lib.hid (HS.out.grown hg6)
      clear hC6 hB6 ho6 hg6 hl6 HS
      have HS := HS6
      clear HS6
      refine hK.out _ _ HS.out.held (fun hHeld => ?_)
      clear hK K
      try go_frame
      refine wpAnyH_take (i := 19) (oi := _) (v := ?_) (by simp only [List.getElem?_toArray, List.getElem?_cons_succ, List.getElem?_cons_zero]; rfl) (by kernel_rfl) (by kernel_rfl) (by kernel_rfl) (by intro _ _ _ h; exact h) (Or.inl ⟨by rfl, fun W hSw => ?_⟩) hHeld ?_
      rotate_left 1
      · (clear hSw; first | (go_simp; done) | (go_simp; with_reducible rfl))
      try go_frame
      refine wpAnyH_ready (rs := [20]) (by kernel_rfl) (by simp) ?_
      refine AllReadyH.cons (o := _) (by simp only [List.getElem?_toArray, List.getElem?_cons_succ, List.getElem?_cons_zero]; rfl) (fun K hK => ?_) AllReadyH.nil
      clear hHeld
      go_simp
      replace HS : Hid (SfX (w6.setCell ⟨tb, 1, none⟩ (.slice pq nq cq)) xb m pp pc ph m.params.length cp m.code.length cc m.hs.length ch) := Lib.hid (HS.out.set (.slice pq nq cq))
      clear e1 e2 e3 e4
      refine hK.out _ _ HS.out.held (fun hHeld => ?_)
      clear hK K
      try go_frame
      refine wpAnyH_done (by kernel_rfl) ?_ _
      obtain ⟨W7, hW7⟩ : ∃ x, x = w6.setCell ⟨tb, 1, none⟩ (.slice pq nq cq) := ⟨_, rfl⟩
      rw [← hW7] at HC6 HB6 ⊢
      have HCf : Hid (FcB W7 w.heap.size tb rb c.kind (.slice pq nq cq) ((c.methods.take (i + 1)).map sgOf)) := Lib.hid (by rw [HT.out]; exact HC6.out)
      clear hW7 HC6 hHeld HS
      go_wp2_with fail
      go_roundw
      case rel => exact ⟨i + 1, _, by go_num, by omega, HCf, HB6⟩
      case measure => simp [intOf]; omega
    · have hlt' : ¬ (i : Int) < (c.methods.length : Int) := by omega
      obtain rfl : i = c.methods.length := by omega
      rw [List.take_length] at HI
      obtain ⟨pv, vn, vk, hv⟩ : ∃ a n k, v = .slice a n k := by obtain ⟨p, cap, e, _⟩ := (HI.out.2.2.1.rd (sP.grow _)).len; exact ⟨_, _, _, e⟩
      subst hv
      obtain ⟨tl, t0, t1, tf⟩ := HI.out.cells
      obtain ⟨rl, r0, r1, rf0, rf1⟩ := HI.out.res
      go_wp2_with fail
      have k1 : Kpt [rb] wr (wr.setCell ⟨rb, 0, none⟩ (.int .i64 c.kind)) := Kpt.set _ _ _ _ _ (by simp)
      have k2 : Kpt [rb] (wr.setCell ⟨rb, 0, none⟩ (.int .i64 c.kind)) ((wr.setCell ⟨rb, 0, none⟩ (.int .i64 c.kind)).setCell ⟨rb, 1, none⟩ (.slice pv vn vk)) := Kpt.set _ _ _ _ _ (by simp)
      have k3 := k1.trans k2 (fun _ h => .inl h)
      refine bodyPost_ret (v := .agg #[.int .i64 c.kind, .slice pv vn vk]) (by simp [*, results, Tryz.results82, go_sem]) rfl ?_
      exact ⟨_, _, _, rfl, HI.out.2.2.1.kptS k3 (fun g e => by simp; rintro rfl; exact HI.out.2.2.2.2.2.2.2 e), HB.out.trans (k3.below (fun x hx => by simp at hx; have := HI.out.2.2.2.2.2.1; omega) HB.out.size)⟩
end Go.Proofs.YtlmpnmnfloeoiaaGreat.R
