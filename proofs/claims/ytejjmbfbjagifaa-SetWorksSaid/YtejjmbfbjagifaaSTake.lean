/- What Take, NewWork tell. -/
import Derived.Test.YtejjmbfbjagifaaSWork
import Derived.Deep.DeepCutAuto
namespace Go.Proofs.Ytejjmbfbjagifaa.S
open Go.RowKit Go.Maps

/-- behind the stores: the Work's heap has lost its first -/
theorem take_end_I {ok : Nat → Prop} {w w1 w2 w3 : World} {wb se me sn mn g cap last : Nat} {E N H : List Int} {x z : Int} (h1 : [wb, se, me, sn, mn].Nodup) (h2 : ∀ k, (Value.slice (some ⟨g, 0, none⟩) H.length cap).ownBlock = some k → k ∉ [wb, se, me, sn, mn])
    (h3 : HwI w 0 wb (.pointer (some ⟨se, 0, none⟩)) (.pointer (some ⟨sn, 0, none⟩)) (.slice (some ⟨g, 0, none⟩) H.length cap) H) (h4 : StI w 0 se me E) (h5 : StI w 0 sn mn N) (h6 : Hp ltI (0 : Int) H) (h7 : H.Perm N) (h8 : ∀ b ∈ [wb, se, me, sn, mn], ok b) (h9 : ok g)
    (hx : H[0]? = some x) (hz : H[last]? = some z) (hl : last + 1 = H.length) (e1 : w1 = (w.setCell ⟨g, 0, none⟩ (.int .i64 z)).drew) (e2 : w2 = w1.setCell ⟨g, last, none⟩ (.int .i64 0)) (e3 : w3 = w2.setCell ⟨wb, 2, none⟩ (.slice (some ⟨g, 0, none⟩) last cap)) :
    (w1.cell? ⟨wb, 2, none⟩ = some (.slice (some ⟨g, 0, none⟩) H.length cap) ∧ (∃ u, w1.cell? ⟨g, last, none⟩ = some u) ∧ w1.frozen? ⟨g, last, none⟩ = false) ∧ (w2.cell? ⟨wb, 2, none⟩ = some (.slice (some ⟨g, 0, none⟩) H.length cap) ∧ w2.frozen? ⟨wb, 2, none⟩ = false) ∧
    ∃ G : List Int, (x :: G).Perm N ∧ G.length = last ∧ SiF ltI (at' (0 : Int) G) G.length 0 ∧ HwI w3 0 wb (.pointer (some ⟨se, 0, none⟩)) (.pointer (some ⟨sn, 0, none⟩)) (.slice (some ⟨g, 0, none⟩) last cap) G ∧
    ∀ w4 H', HwI w4 0 wb (.pointer (some ⟨se, 0, none⟩)) (.pointer (some ⟨sn, 0, none⟩)) (.slice (some ⟨g, 0, none⟩) last cap) H' → H'.Perm G → Hp ltI (0 : Int) H' → Kpt [g] w3 w4 →
      w4.cell? ⟨wb, 1, none⟩ = some (.pointer (some ⟨sn, 0, none⟩)) ∧ StI w4 0 sn mn N ∧ ∀ w5, StI w5 0 sn mn (delS N x) → Kpt [mn] w4 w5 → WqI ok w5 wb E (delS N x) ∧ Kp ok w w5 := by
  have hgn : g ∉ [wb, se, me, sn, mn] := h2 g rfl
  have hgw : g ≠ wb := fun e => hgn (by rw [e]; simp)
  have k1 : Kpt [g] w w1 := by rw [e1]; exact (Kpt.set [g] w g 0 _ (by simp)).drew
  have k2 : Kpt [g] w1 w2 := by rw [e2]; exact Kpt.set _ _ _ _ _ (by simp)
  have k12 : Kpt [g] w w2 := k1.trans k2 (fun y hy => .inl hy)
  have k3 : Kpt [wb] w2 w3 := by rw [e3]; exact Kpt.set _ _ _ _ _ (by simp)
  have nin : ∀ b ∈ [wb, se, me, sn, mn], b ∉ [g] := fun b hb he => hgn (by rw [List.mem_singleton] at he; rw [← he]; exact hb)
  have nw : ∀ b ∈ [se, me, sn, mn], b ∉ [wb] := by
    intro b hb he
    rw [List.mem_singleton] at he
    subst he
    exact (List.nodup_cons.1 h1).1 hb
  have hne : H ≠ [] := by rintro rfl; simp at hx
  have hH2 : OwnC cI 3 w2 0 (.slice (some ⟨g, 0, none⟩) H.length cap) ((H.set 0 z).set last (0 : Int)) := by
    rw [e2, e1]
    exact (h3.2.1.set 0 z).set last (0 : Int)
  have hH3 := hH2.front (k := last) (by simp; omega) (by intro h; have := congrArg List.length h; simp at this; exact hne this)
  have hw2 : w2.heap[wb]? = some (.cells #[.pointer (some ⟨se, 0, none⟩), .pointer (some ⟨sn, 0, none⟩), .slice (some ⟨g, 0, none⟩) H.length cap] 70 (0, 0)) := k12.block h3.1 (nin wb (by simp))
  have hw3 : w3.heap[wb]? = some (.cells #[.pointer (some ⟨se, 0, none⟩), .pointer (some ⟨sn, 0, none⟩), .slice (some ⟨g, 0, none⟩) last cap] 70 (0, 0)) := by
    rw [e3, heap_setCell_same w2 wb 2 _ _ _ hw2]; rfl
  have hlast : last = H.length - 1 := by omega
  have hG : (((H.set 0 z).set last (0 : Int)).take last).length = last := by simp; omega
  have hw1 : w1.heap[wb]? = some (.cells #[.pointer (some ⟨se, 0, none⟩), .pointer (some ⟨sn, 0, none⟩), .slice (some ⟨g, 0, none⟩) H.length cap] 70 (0, 0)) := k1.block h3.1 (nin wb (by simp))
  have hH1 : OwnC cI 3 w1 0 (.slice (some ⟨g, 0, none⟩) H.length cap) (H.set 0 z) := by
    rw [e1]
    exact h3.2.1.set 0 z
  have hc1 : (∃ u, w1.cell? ⟨g, last, none⟩ = some u) ∧ w1.frozen? ⟨g, last, none⟩ = false := by
    rcases hH1.cells with ⟨e, _⟩ | ⟨g', cap', cur', e, _, _, _, q1, _, _, q2, q3⟩
    · cases e
    · simp only [Value.slice.injEq, Option.some.injEq, Addr.mk.injEq, and_true] at e
      obtain ⟨rfl, _, rfl⟩ := e
      exact ⟨q3 last (by simp at q1; omega), q2 last⟩
  refine ⟨⟨by simp [World.cell?, hw1], hc1.1, hc1.2⟩, ⟨by simp [World.cell?, hw2], by simp [World.frozen?, hw2]⟩, ((H.set 0 z).set last (0 : Int)).take last, ?_, hG, ?_, ⟨hw3, hH3.kpt k3 (fun k e hk => ?_), fun e => ?_⟩, fun w4 H' g1 g2 g3 g4 => ?_⟩
  · subst hlast
    exact (perm_pop (0 : Int) x z H hx hz).trans h7
  · refine Hp.pop h6 (by rw [hG]; exact hl) (fun k k0 kn => ?_)
    rw [hG] at kn
    rw [List.getElem?_take_of_lt kn, List.getElem?_set_ne (by omega), List.getElem?_set_ne (by omega)]
  · simp only [Value.ownBlock, Option.some.injEq] at e
    exact hgw (by rw [e, List.mem_singleton.1 hk])
  · simp only [Value.ownBlock, Option.some.injEq] at e
    exact hgw e
  · have keep : ∀ {s m : Nat} {L : List Int}, StI w 0 s m L → s ∈ [se, me, sn, mn] → m ∈ [se, me, sn, mn] → StI w4 0 s m L := fun hs m1 m2 =>
      ((hs.kpt k12 (nin _ (List.mem_cons_of_mem _ m1)) (nin _ (List.mem_cons_of_mem _ m2))).kpt k3 (nw _ m1) (nw _ m2)).kpt g4 (nin _ (List.mem_cons_of_mem _ m1)) (nin _ (List.mem_cons_of_mem _ m2))
    refine ⟨g1.cells.2.2.1, keep h5 (by simp) (by simp), fun w5 q1 k5 => ?_⟩
    have hmn : ∀ b ∈ [wb, se, me, sn], b ∉ [mn] := by
      intro b hb he
      rw [List.mem_singleton] at he
      subst he
      have := h1
      simp only [List.nodup_cons, List.mem_cons, List.not_mem_nil, or_false, not_or, List.nodup_nil, and_true, not_false_eq_true] at this
      simp only [List.mem_cons, List.not_mem_nil, or_false] at hb
      obtain ⟨⟨n1, n2, n3, n4⟩, ⟨n5, n6, n7⟩, ⟨n8, n9⟩, n10⟩ := this
      rcases hb with e | e | e | e
      · exact n4 e.symm
      · exact n7 e.symm
      · exact n9 e.symm
      · exact n10 e.symm
    have hgm : g ∉ [mn] := fun he => hgn (by rw [List.mem_singleton] at he; rw [he]; simp)
    have hp1 : (x :: H').Perm N := (List.Perm.cons x g2).trans (by subst hlast; exact (perm_pop (0 : Int) x z H hx hz).trans h7)
    refine ⟨⟨se, me, sn, mn, _, H', h1, fun k e => ?_, ⟨k5.block g1.1 (hmn wb (by simp)), g1.2.1.kpt k5 (fun k e => ?_), g1.2.2⟩, (keep h4 (by simp) (by simp)).kpt k5 (hmn se (by simp)) (hmn me (by simp)), q1, g3, delS_perm hp1 h5.2.2.2.nodup, h8, fun k e => ?_⟩, ?_⟩
    · simp only [Value.ownBlock, Option.some.injEq] at e
      rw [← e]; exact hgn
    · simp only [Value.ownBlock, Option.some.injEq] at e
      rw [← e]; exact hgm
    · simp only [Value.ownBlock, Option.some.injEq] at e
      rw [← e]; exact h9
    · exact (((Kp.of_kpt k12 (fun y hy _ => by rw [List.mem_singleton.1 hy]; exact h9)).trans (Kp.of_kpt k3 (fun y hy _ => by rw [List.mem_singleton.1 hy]; exact h8 wb (by simp)))).trans (Kp.of_kpt g4 (fun y hy _ => by rw [List.mem_singleton.1 hy]; exact h9))).trans (Kp.of_kpt k5 (fun y hy _ => by rw [List.mem_singleton.1 hy]; exact h8 mn (by simp)))

set_option maxHeartbeats 400000 in
set_option maxRecDepth 100000 in
theorem take0_I (ok : Nat → Prop) (wb : Nat) (E : List Int) (w : World) (h : WqI ok w wb E []) :
    Calls Try.prog 26 #[.pointer (some ⟨wb, 0, none⟩)] w fun e w' => e = .returned (.tuple #[.int .i64 0, .bool false]) ∧ w = w' := by
  obtain ⟨se, me, sn, mn, sl, H, h1, h2, h3, h4, h5, h6, h7, h8, h9⟩ := h
  obtain ⟨hlt, c0, c1, c2, f2⟩ := h3.cells
  have hH := h7.eq_nil
  subst hH
  obtain ⟨a, cp, rfl, hn1, hn2⟩ := h3.2.1.rd.form
  clear h1 h2 h3 h4 h5 h6 h7 h8 h9 c0 c1 f2
  go_enter Try.func26, Try.ntmps26
  go_wp2
  go_ret2
  exact ⟨rfl, rfl⟩

set_option maxHeartbeats 4000000 in
set_option maxRecDepth 100000 in
theorem take_I (ok : Nat → Prop) (wb : Nat) (E N : List Int) (w : World) (h : WqI ok w wb E N) (hn : N ≠ []) (hN : N.length ≤ 10000) :
    Calls Try.prog 26 #[.pointer (some ⟨wb, 0, none⟩)] w fun e w' => ∃ x, e = .returned (.tuple #[.int .i64 x, .bool true]) ∧ x ∈ N ∧ (∀ y ∈ N, ltI y x = false) ∧ WqI ok w' wb E (delS N x) ∧ Kp ok w w' := by
  have hok := h.oks
  obtain ⟨se, me, sn, mn, sl, H, h1, h2, h3, h4, h5, h6, h7, h8, h9⟩ := h
  obtain ⟨hlt, c0, c1, c2, f2⟩ := h3.cells
  have hne : H ≠ [] := by
    rintro rfl
    exact hn h7.symm.eq_nil
  have hlen : H.length ≤ 10000 := by rw [h7.length_eq]; exact hN
  have hpos : 0 < H.length := List.length_pos_iff.2 hne
  obtain ⟨last, hlast⟩ : ∃ l, l + 1 = H.length := ⟨H.length - 1, by omega⟩
  rcases h3.2.1.cells with ⟨_, e'⟩ | ⟨g, cap, cur, rfl, hb, hg, _, n1, n2, n3, n4, _⟩
  · exact absurd e' hne
  have ex := List.getElem?_eq_getElem hpos
  have ez := List.getElem?_eq_getElem (show last < H.length by omega)
  have d0 := n3 0 _ ex
  have dl := n3 last _ ez
  obtain ⟨x, hx⟩ : ∃ x, H[0] = x := ⟨_, rfl⟩
  obtain ⟨z, hz⟩ : ∃ z, H[last] = z := ⟨_, rfl⟩
  rw [hx] at d0 ex
  rw [hz] at dl ez
  have d0' : w.cell? ⟨g, 0, none⟩ = some (.int .i64 x) := d0
  have dl' : w.cell? ⟨g, last, none⟩ = some (.int .i64 z) := dl
  have fg := n4 0
  have fl := n4 last
  have hgw : g ≠ wb := fun e => h2 g rfl (by rw [e]; simp)
  have hwg : wb ≠ g := fun e => hgw e.symm
  have HX := Lib.hid (show x ∈ N ∧ (∀ y ∈ N, ltI y x = false) from ⟨h7.mem_iff.1 (List.mem_of_getElem? ex), fun y hy => h6.least toI ex y (h7.mem_iff.2 hy)⟩)
  have HOK := Lib.hid (hok x HX.out.1)
  have hl1 : (H.length : Int) - 1 = (last : Int) := by omega
  have hli : (last : Int) < (H.length : Int) := by omega
  have hp0 : (0 : Int) < (H.length : Int) := by omega
  have hn0 : ((H.length : Int) == 0) = false := beq_eq_false_iff_ne.2 (by omega)
  have hlc : last ≤ cap := by omega
  have H1 := Lib.hid h1
  have H2 := Lib.hid h2
  have H3 := Lib.hid h3
  have H4 := Lib.hid h4
  have H5 := Lib.hid h5
  have H6 := Lib.hid h6
  have H7 := Lib.hid h7
  have H8 := Lib.hid h8
  have H9 := Lib.hid (h9 g rfl)
  have HL := Lib.hid hlast
  have EX := Lib.hid ex
  have EZ := Lib.hid ez
  clear h1 h2 h3 h4 h5 h6 h7 h8 h9 n3 n4 ex ez d0 dl hx hz hok hb hg c0 c1 hlast
  go_enter Try.func26, Try.ntmps26
  go_wp2_with fail
  go_quiet (fail)
  obtain ⟨wq, hwq⟩ : ∃ q, q = w.drewN nq := ⟨_, rfl⟩
  rw [← hwq]
  replace c2 : wq.cell? ⟨wb, 2, none⟩ = some (.slice (some ⟨g, 0, none⟩) H.length cap) := by rw [hwq]; exact c2
  replace d0' : wq.cell? ⟨g, 0, none⟩ = some (.int .i64 x) := by rw [hwq]; exact d0'
  replace dl' : wq.cell? ⟨g, last, none⟩ = some (.int .i64 z) := by rw [hwq]; exact dl'
  replace fg : wq.frozen? ⟨g, 0, none⟩ = false := by rw [hwq]; exact fg
  replace H3 : Hid (HwI wq 0 wb (.pointer (some ⟨se, 0, none⟩)) (.pointer (some ⟨sn, 0, none⟩)) (.slice (some ⟨g, 0, none⟩) H.length cap) H) := Lib.hid (by rw [hwq]; exact H3.out)
  replace H4 : Hid (StI wq 0 se me E) := Lib.hid (by rw [hwq]; exact H4.out)
  replace H5 : Hid (StI wq 0 sn mn N) := Lib.hid (by rw [hwq]; exact H5.out)
  have HQ : Hid (Kp ok w wq) := Lib.hid (by rw [hwq]; exact Kp.of_kpt (.of_below (S := []) (below_drewN _ _ _)) (by simp))
  replace hlt : wb < wq.heap.size := by rw [hwq]; exact hlt
  clear hwq fl f2
  go_wp2_with fail
  go_region
  obtain ⟨w1, e1⟩ : ∃ q, q = (wq.setCell ⟨g, 0, none⟩ (.int .i64 z)).drew := ⟨_, rfl⟩
  obtain ⟨w2, e2⟩ : ∃ q, q = w1.setCell ⟨g, last, none⟩ (.int .i64 0) := ⟨_, rfl⟩
  obtain ⟨w3, e3⟩ : ∃ q, q = w2.setCell ⟨wb, 2, none⟩ (.slice (some ⟨g, 0, none⟩) last cap) := ⟨_, rfl⟩
  obtain ⟨⟨m1, ⟨u, m2⟩, m3⟩, ⟨m4, m5⟩, G, g1, g2, g3, g4, g5⟩ := take_end_I H1.out H2.out H3.out H4.out H5.out H6.out H7.out H8.out H9.out EX.out EZ.out HL.out e1 e2 e3
  have hw1 : wb < w1.heap.size := by rw [e1]; simpa using hlt
  have G1 := Lib.hid g1
  have G2 := Lib.hid g2
  have G3 := Lib.hid g3
  have G4 := Lib.hid g4
  have G5 := Lib.hid g5
  rw [← e1]
  clear g1 g2 g3 g4 g5 H1 H2 H3 H4 H5 H6 H7 H8 H9 EX EZ e1 c2 d0' dl' fg hlt
  go_upto_region 7 with fail
  rw [← e2]
  clear m1 m2 m3 e2 hw1
  go_upto_region 8 with fail
  rw [← e3]
  clear m4 m5 e3
  go_wp2_with fail
  refine (sink_I 0 wb _ _ _ G (0 : Int) w3 G4.out G3.out (by rw [G2.out]; omega)).mono ?_
  rintro e w4 ⟨rfl, H', r1, r2, r3, r4⟩
  obtain ⟨q1, q2, q3⟩ := G5.out w4 H' r1 r2 r3 r4
  have hlt4 := r1.cells.1
  have Q2 := Lib.hid q2
  have Q3 := Lib.hid q3
  clear r1 r2 r3 r4 q2 q3 G1 G2 G3 G4 G5
  go_wp2_with fail
  refine (drop_I 0 sn mn N x w4 Q2.out HOK.out).mono ?_
  rintro e w5 ⟨rfl, s1, s2⟩
  obtain ⟨t1, t2⟩ := Q3.out w5 s1 s2
  have T1 := Lib.hid t1
  have T2 := Lib.hid t2
  clear s1 s2 t1 t2 Q2 Q3 q1
  go_wp2
  go_ret2
  exact ⟨x, rfl, HX.out.1, HX.out.2, T1.out, HQ.out.trans T2.out⟩

set_option maxHeartbeats 2000000 in
set_option maxRecDepth 100000 in
theorem newwork_I (v : Value) (xs : List Int) (okr : Nat → Prop) (w : World) (hr : RdC cI okr w v xs) (hx : ∀ x ∈ xs, okI x) (hl : xs.length ≤ 5000) :
    Calls Try.prog 23 #[v] w fun e w' => ∃ wb, e = .returned (.pointer (some ⟨wb, 0, none⟩)) ∧ WqI (fun b => w.heap.size ≤ b) w' wb (onceL xs) (onceL xs) ∧ Below w.heap.size w w' := by
  obtain ⟨p, cap, rfl, h1, h2⟩ := hr.form
  unfold maxLen at h2
  have HR := Lib.hid hr
  clear hr
  go_enter Try.func23, Try.ntmps23
  go_wp2_with fail
  refine (new_I _ [] (fun _ => True) w (RdC.nil _ _) (by simp) (by simp)).mono ?_
  rintro e w1 ⟨se, me, rfl, hs1, hb1⟩
  rw [onceL_nil] at hs1
  have HB1 := Lib.hid hb1
  have HS1 := Lib.hid hs1
  clear hs1 hb1
  go_wp2_with fail
  refine (new_I _ [] (fun _ => True) w1 (RdC.nil _ _) (by simp) (by simp)).mono ?_
  rintro e w2 ⟨sn, mn, rfl, hs2, hb2⟩
  rw [onceL_nil] at hs2
  have HB2 := Lib.hid hb2
  have HS2 := Lib.hid hs2
  clear hs2 hb2
  go_upto_region 2 with fail
  obtain ⟨w3, hw3⟩ : ∃ z, z = w2.alloc (.cells #[.pointer (some ⟨se, 0, none⟩), .pointer (some ⟨sn, 0, none⟩), .slice none 0 0] 70) := ⟨_, rfl⟩
  rw [← hw3]
  have hb3 : Below w2.heap.size w2 w3 := by rw [hw3]; exact (Below.refl _ w2).alloc (Nat.le_refl _) _
  have hbx : w3.heap[w2.heap.size]? = some (.cells #[.pointer (some ⟨se, 0, none⟩), .pointer (some ⟨sn, 0, none⟩), .slice none 0 0] 70 (0, 0)) := by rw [hw3]; exact heap_alloc_new _ _
  have hs1 := (HS1.out.bel HB2.out).bel hb3
  have hs2 := HS2.out.bel hb3
  have hl1 := HS1.out.lt
  have hl2 := HS2.out.lt
  have hp1 := HS1.out.1
  have hp1' := HS1.out.2.1
  have hp2 := HS2.out.1
  have hp2' := HS2.out.2.1
  have hz1 := HB1.out.size
  have hz2 := HB2.out.size
  have W0 : Hid (WqI (fun b => w.heap.size ≤ b) w3 w2.heap.size [] []) := Lib.hid ⟨se, me, sn, mn, _, [], by simp; omega, (fun g e => by cases e), ⟨hbx, OwnC.nil _ _, by simp [Value.ownBlock]⟩, hs1.mono (Nat.zero_le _), hs2.mono (Nat.zero_le _), Hp.nil _ _, List.Perm.refl _, (fun b hb => by
    simp only [List.mem_cons, List.not_mem_nil, or_false] at hb
    show w.heap.size ≤ b
    omega), (fun g e => by cases e)⟩
  have B0 : Hid (Below w.heap.size w w3) := Lib.hid ((HB1.out.trans (HB2.out.mono hz1)).trans (hb3.mono (by omega)))
  obtain ⟨wb, hwb⟩ : ∃ b, b = w2.heap.size := ⟨_, rfl⟩
  rw [← hwb] at W0 ⊢
  clear hw3 hb3 hbx hs1 hs2 hl1 hl2 hp1 hp1' hp2 hp2' hz1 hz2 HS1 HS2 HB1 HB2 hwb
  go_wp2_with fail
  go_loopw [12] (fun v wr => ∃ i : Nat, v = .int .i64 (i : Int) ∧ i ≤ xs.length ∧ Hid (WqI (fun b => w.heap.size ≤ b) wr wb (onceL (xs.take i)) (onceL (xs.take i))) ∧ Hid (Below w.heap.size w wr)) (fun v _ => xs.length - (intOf v).toNat)
  case atStart => exact ⟨0, rfl, by omega, W0, B0⟩
  case round =>
    clear W0 B0
    obtain ⟨i, rfl, hi, H1, HB⟩ := hrel
    by_cases hlt : i < xs.length
    · have hlt' : (i : Int) < (xs.length : Int) := by omega
      have hne : xs ≠ [] := by rintro rfl; simp at hlt
      obtain ⟨b, off, rfl, hb, hbl, hc⟩ := HR.out.at hne
      have ci : wr.cell? ⟨b, off + i, none⟩ = some (.int .i64 xs[i]) := (HB.out.cell hbl).trans (hc i _ (List.getElem?_eq_getElem hlt))
      have hox := hx _ (List.getElem_mem hlt)
      have HT := Lib.hid (once_take hlt)
      obtain ⟨x, hxx⟩ : ∃ x, xs[i] = x := ⟨_, rfl⟩
      rw [hxx] at ci hox HT
      clear hc hxx
      have hol : (onceL (xs.take i)).length ≤ 10000 := by have := onceL_len (xs.take i); rw [List.length_take] at this; omega
      go_wp2_with fail
      refine (put_I _ wb _ _ x wr H1.out hox hol hol (fun b hb => Nat.le_trans HB.out.size hb)).mono ?_
      rintro e w4 ⟨rfl, hs4, hk4⟩
      rw [putN_self] at hs4
      have HS := Lib.hid hs4
      have HK := Lib.hid hk4
      clear hs4 hk4 H1 ci
      go_wp2_with fail
      go_roundw
      case rel => exact ⟨i + 1, by go_num, by omega, by rw [HT.out]; exact HS, Lib.hid (HB.out.trans (HK.out.below (fun b hb => hb) HB.out.size))⟩
      case measure => simp [intOf]; omega
    · obtain rfl : i = xs.length := by omega
      rw [List.take_length] at H1
      clear hlt hi
      go_wp2
      go_ret
      exact ⟨_, rfl, H1.out, HB.out⟩
/-- behind the stores: the Work's heap has lost its first -/
theorem take_end_S {ok : Nat → Prop} {w w1 w2 w3 : World} {wb se me sn mn g cap last : Nat} {E N H : List ByteArray} {x z : ByteArray} (h1 : [wb, se, me, sn, mn].Nodup) (h2 : ∀ k, (Value.slice (some ⟨g, 0, none⟩) H.length cap).ownBlock = some k → k ∉ [wb, se, me, sn, mn])
    (h3 : HwS w 0 wb (.pointer (some ⟨se, 0, none⟩)) (.pointer (some ⟨sn, 0, none⟩)) (.slice (some ⟨g, 0, none⟩) H.length cap) H) (h4 : StS w 0 se me E) (h5 : StS w 0 sn mn N) (h6 : Hp ltS (⟨#[]⟩ : ByteArray) H) (h7 : H.Perm N) (h8 : ∀ b ∈ [wb, se, me, sn, mn], ok b) (h9 : ok g)
    (hx : H[0]? = some x) (hz : H[last]? = some z) (hl : last + 1 = H.length) (e1 : w1 = (w.setCell ⟨g, 0, none⟩ (.string z)).drew) (e2 : w2 = w1.setCell ⟨g, last, none⟩ (.string ⟨#[]⟩)) (e3 : w3 = w2.setCell ⟨wb, 2, none⟩ (.slice (some ⟨g, 0, none⟩) last cap)) :
    (w1.cell? ⟨wb, 2, none⟩ = some (.slice (some ⟨g, 0, none⟩) H.length cap) ∧ (∃ u, w1.cell? ⟨g, last, none⟩ = some u) ∧ w1.frozen? ⟨g, last, none⟩ = false) ∧ (w2.cell? ⟨wb, 2, none⟩ = some (.slice (some ⟨g, 0, none⟩) H.length cap) ∧ w2.frozen? ⟨wb, 2, none⟩ = false) ∧
    ∃ G : List ByteArray, (x :: G).Perm N ∧ G.length = last ∧ SiF ltS (at' (⟨#[]⟩ : ByteArray) G) G.length 0 ∧ HwS w3 0 wb (.pointer (some ⟨se, 0, none⟩)) (.pointer (some ⟨sn, 0, none⟩)) (.slice (some ⟨g, 0, none⟩) last cap) G ∧
    ∀ w4 H', HwS w4 0 wb (.pointer (some ⟨se, 0, none⟩)) (.pointer (some ⟨sn, 0, none⟩)) (.slice (some ⟨g, 0, none⟩) last cap) H' → H'.Perm G → Hp ltS (⟨#[]⟩ : ByteArray) H' → Kpt [g] w3 w4 →
      w4.cell? ⟨wb, 1, none⟩ = some (.pointer (some ⟨sn, 0, none⟩)) ∧ StS w4 0 sn mn N ∧ ∀ w5, StS w5 0 sn mn (delS N x) → Kpt [mn] w4 w5 → WqS ok w5 wb E (delS N x) ∧ Kp ok w w5 := by
  have hgn : g ∉ [wb, se, me, sn, mn] := h2 g rfl
  have hgw : g ≠ wb := fun e => hgn (by rw [e]; simp)
  have k1 : Kpt [g] w w1 := by rw [e1]; exact (Kpt.set [g] w g 0 _ (by simp)).drew
  have k2 : Kpt [g] w1 w2 := by rw [e2]; exact Kpt.set _ _ _ _ _ (by simp)
  have k12 : Kpt [g] w w2 := k1.trans k2 (fun y hy => .inl hy)
  have k3 : Kpt [wb] w2 w3 := by rw [e3]; exact Kpt.set _ _ _ _ _ (by simp)
  have nin : ∀ b ∈ [wb, se, me, sn, mn], b ∉ [g] := fun b hb he => hgn (by rw [List.mem_singleton] at he; rw [← he]; exact hb)
  have nw : ∀ b ∈ [se, me, sn, mn], b ∉ [wb] := by
    intro b hb he
    rw [List.mem_singleton] at he
    subst he
    exact (List.nodup_cons.1 h1).1 hb
  have hne : H ≠ [] := by rintro rfl; simp at hx
  have hH2 : OwnC cS 9 w2 0 (.slice (some ⟨g, 0, none⟩) H.length cap) ((H.set 0 z).set last (⟨#[]⟩ : ByteArray)) := by
    rw [e2, e1]
    exact (h3.2.1.set 0 z).set last (⟨#[]⟩ : ByteArray)
  have hH3 := hH2.front (k := last) (by simp; omega) (by intro h; have := congrArg List.length h; simp at this; exact hne this)
  have hw2 : w2.heap[wb]? = some (.cells #[.pointer (some ⟨se, 0, none⟩), .pointer (some ⟨sn, 0, none⟩), .slice (some ⟨g, 0, none⟩) H.length cap] 72 (0, 0)) := k12.block h3.1 (nin wb (by simp))
  have hw3 : w3.heap[wb]? = some (.cells #[.pointer (some ⟨se, 0, none⟩), .pointer (some ⟨sn, 0, none⟩), .slice (some ⟨g, 0, none⟩) last cap] 72 (0, 0)) := by
    rw [e3, heap_setCell_same w2 wb 2 _ _ _ hw2]; rfl
  have hlast : last = H.length - 1 := by omega
  have hG : (((H.set 0 z).set last (⟨#[]⟩ : ByteArray)).take last).length = last := by simp; omega
  have hw1 : w1.heap[wb]? = some (.cells #[.pointer (some ⟨se, 0, none⟩), .pointer (some ⟨sn, 0, none⟩), .slice (some ⟨g, 0, none⟩) H.length cap] 72 (0, 0)) := k1.block h3.1 (nin wb (by simp))
  have hH1 : OwnC cS 9 w1 0 (.slice (some ⟨g, 0, none⟩) H.length cap) (H.set 0 z) := by
    rw [e1]
    exact h3.2.1.set 0 z
  have hc1 : (∃ u, w1.cell? ⟨g, last, none⟩ = some u) ∧ w1.frozen? ⟨g, last, none⟩ = false := by
    rcases hH1.cells with ⟨e, _⟩ | ⟨g', cap', cur', e, _, _, _, q1, _, _, q2, q3⟩
    · cases e
    · simp only [Value.slice.injEq, Option.some.injEq, Addr.mk.injEq, and_true] at e
      obtain ⟨rfl, _, rfl⟩ := e
      exact ⟨q3 last (by simp at q1; omega), q2 last⟩
  refine ⟨⟨by simp [World.cell?, hw1], hc1.1, hc1.2⟩, ⟨by simp [World.cell?, hw2], by simp [World.frozen?, hw2]⟩, ((H.set 0 z).set last (⟨#[]⟩ : ByteArray)).take last, ?_, hG, ?_, ⟨hw3, hH3.kpt k3 (fun k e hk => ?_), fun e => ?_⟩, fun w4 H' g1 g2 g3 g4 => ?_⟩
  · subst hlast
    exact (perm_pop (⟨#[]⟩ : ByteArray) x z H hx hz).trans h7
  · refine Hp.pop h6 (by rw [hG]; exact hl) (fun k k0 kn => ?_)
    rw [hG] at kn
    rw [List.getElem?_take_of_lt kn, List.getElem?_set_ne (by omega), List.getElem?_set_ne (by omega)]
  · simp only [Value.ownBlock, Option.some.injEq] at e
    exact hgw (by rw [e, List.mem_singleton.1 hk])
  · simp only [Value.ownBlock, Option.some.injEq] at e
    exact hgw e
  · have keep : ∀ {s m : Nat} {L : List ByteArray}, StS w 0 s m L → s ∈ [se, me, sn, mn] → m ∈ [se, me, sn, mn] → StS w4 0 s m L := fun hs m1 m2 =>
      ((hs.kpt k12 (nin _ (List.mem_cons_of_mem _ m1)) (nin _ (List.mem_cons_of_mem _ m2))).kpt k3 (nw _ m1) (nw _ m2)).kpt g4 (nin _ (List.mem_cons_of_mem _ m1)) (nin _ (List.mem_cons_of_mem _ m2))
    refine ⟨g1.cells.2.2.1, keep h5 (by simp) (by simp), fun w5 q1 k5 => ?_⟩
    have hmn : ∀ b ∈ [wb, se, me, sn], b ∉ [mn] := by
      intro b hb he
      rw [List.mem_singleton] at he
      subst he
      have := h1
      simp only [List.nodup_cons, List.mem_cons, List.not_mem_nil, or_false, not_or, List.nodup_nil, and_true, not_false_eq_true] at this
      simp only [List.mem_cons, List.not_mem_nil, or_false] at hb
      obtain ⟨⟨n1, n2, n3, n4⟩, ⟨n5, n6, n7⟩, ⟨n8, n9⟩, n10⟩ := this
      rcases hb with e | e | e | e
      · exact n4 e.symm
      · exact n7 e.symm
      · exact n9 e.symm
      · exact n10 e.symm
    have hgm : g ∉ [mn] := fun he => hgn (by rw [List.mem_singleton] at he; rw [he]; simp)
    have hp1 : (x :: H').Perm N := (List.Perm.cons x g2).trans (by subst hlast; exact (perm_pop (⟨#[]⟩ : ByteArray) x z H hx hz).trans h7)
    refine ⟨⟨se, me, sn, mn, _, H', h1, fun k e => ?_, ⟨k5.block g1.1 (hmn wb (by simp)), g1.2.1.kpt k5 (fun k e => ?_), g1.2.2⟩, (keep h4 (by simp) (by simp)).kpt k5 (hmn se (by simp)) (hmn me (by simp)), q1, g3, delS_perm hp1 h5.2.2.2.nodup, h8, fun k e => ?_⟩, ?_⟩
    · simp only [Value.ownBlock, Option.some.injEq] at e
      rw [← e]; exact hgn
    · simp only [Value.ownBlock, Option.some.injEq] at e
      rw [← e]; exact hgm
    · simp only [Value.ownBlock, Option.some.injEq] at e
      rw [← e]; exact h9
    · exact (((Kp.of_kpt k12 (fun y hy _ => by rw [List.mem_singleton.1 hy]; exact h9)).trans (Kp.of_kpt k3 (fun y hy _ => by rw [List.mem_singleton.1 hy]; exact h8 wb (by simp)))).trans (Kp.of_kpt g4 (fun y hy _ => by rw [List.mem_singleton.1 hy]; exact h9))).trans (Kp.of_kpt k5 (fun y hy _ => by rw [List.mem_singleton.1 hy]; exact h8 mn (by simp)))

set_option maxHeartbeats 400000 in
set_option maxRecDepth 100000 in
theorem take0_S (ok : Nat → Prop) (wb : Nat) (E : List ByteArray) (w : World) (h : WqS ok w wb E []) :
    Calls Try.prog 28 #[.pointer (some ⟨wb, 0, none⟩)] w fun e w' => e = .returned (.tuple #[.string ⟨#[]⟩, .bool false]) ∧ w = w' := by
  obtain ⟨se, me, sn, mn, sl, H, h1, h2, h3, h4, h5, h6, h7, h8, h9⟩ := h
  obtain ⟨hlt, c0, c1, c2, f2⟩ := h3.cells
  have hH := h7.eq_nil
  subst hH
  obtain ⟨a, cp, rfl, hn1, hn2⟩ := h3.2.1.rd.form
  clear h1 h2 h3 h4 h5 h6 h7 h8 h9 c0 c1 f2
  go_enter Try.func28, Try.ntmps28
  go_wp2
  go_ret2
  exact ⟨rfl, rfl⟩

set_option maxHeartbeats 4000000 in
set_option maxRecDepth 100000 in
theorem take_S (ok : Nat → Prop) (wb : Nat) (E N : List ByteArray) (w : World) (h : WqS ok w wb E N) (hn : N ≠ []) (hN : N.length ≤ 10000) :
    Calls Try.prog 28 #[.pointer (some ⟨wb, 0, none⟩)] w fun e w' => ∃ x, e = .returned (.tuple #[.string x, .bool true]) ∧ x ∈ N ∧ (∀ y ∈ N, ltS y x = false) ∧ WqS ok w' wb E (delS N x) ∧ Kp ok w w' := by
  have hok := h.oks
  obtain ⟨se, me, sn, mn, sl, H, h1, h2, h3, h4, h5, h6, h7, h8, h9⟩ := h
  obtain ⟨hlt, c0, c1, c2, f2⟩ := h3.cells
  have hne : H ≠ [] := by
    rintro rfl
    exact hn h7.symm.eq_nil
  have hlen : H.length ≤ 10000 := by rw [h7.length_eq]; exact hN
  have hpos : 0 < H.length := List.length_pos_iff.2 hne
  obtain ⟨last, hlast⟩ : ∃ l, l + 1 = H.length := ⟨H.length - 1, by omega⟩
  rcases h3.2.1.cells with ⟨_, e'⟩ | ⟨g, cap, cur, rfl, hb, hg, _, n1, n2, n3, n4, _⟩
  · exact absurd e' hne
  have ex := List.getElem?_eq_getElem hpos
  have ez := List.getElem?_eq_getElem (show last < H.length by omega)
  have d0 := n3 0 _ ex
  have dl := n3 last _ ez
  obtain ⟨x, hx⟩ : ∃ x, H[0] = x := ⟨_, rfl⟩
  obtain ⟨z, hz⟩ : ∃ z, H[last] = z := ⟨_, rfl⟩
  rw [hx] at d0 ex
  rw [hz] at dl ez
  have d0' : w.cell? ⟨g, 0, none⟩ = some (.string x) := d0
  have dl' : w.cell? ⟨g, last, none⟩ = some (.string z) := dl
  have fg := n4 0
  have fl := n4 last
  have hgw : g ≠ wb := fun e => h2 g rfl (by rw [e]; simp)
  have hwg : wb ≠ g := fun e => hgw e.symm
  have HX := Lib.hid (show x ∈ N ∧ (∀ y ∈ N, ltS y x = false) from ⟨h7.mem_iff.1 (List.mem_of_getElem? ex), fun y hy => h6.least toS ex y (h7.mem_iff.2 hy)⟩)
  have HOK := Lib.hid (hok x HX.out.1)
  have hl1 : (H.length : Int) - 1 = (last : Int) := by omega
  have hli : (last : Int) < (H.length : Int) := by omega
  have hp0 : (0 : Int) < (H.length : Int) := by omega
  have hn0 : ((H.length : Int) == 0) = false := beq_eq_false_iff_ne.2 (by omega)
  have hlc : last ≤ cap := by omega
  have H1 := Lib.hid h1
  have H2 := Lib.hid h2
  have H3 := Lib.hid h3
  have H4 := Lib.hid h4
  have H5 := Lib.hid h5
  have H6 := Lib.hid h6
  have H7 := Lib.hid h7
  have H8 := Lib.hid h8
  have H9 := Lib.hid (h9 g rfl)
  have HL := Lib.hid hlast
  have EX := Lib.hid ex
  have EZ := Lib.hid ez
  clear h1 h2 h3 h4 h5 h6 h7 h8 h9 n3 n4 ex ez d0 dl hx hz hok hb hg c0 c1 hlast
  go_enter Try.func28, Try.ntmps28
  go_wp2_with fail
  go_quiet (fail)
  obtain ⟨wq, hwq⟩ : ∃ q, q = w.drewN nq := ⟨_, rfl⟩
  rw [← hwq]
  replace c2 : wq.cell? ⟨wb, 2, none⟩ = some (.slice (some ⟨g, 0, none⟩) H.length cap) := by rw [hwq]; exact c2
  replace d0' : wq.cell? ⟨g, 0, none⟩ = some (.string x) := by rw [hwq]; exact d0'
  replace dl' : wq.cell? ⟨g, last, none⟩ = some (.string z) := by rw [hwq]; exact dl'
  replace fg : wq.frozen? ⟨g, 0, none⟩ = false := by rw [hwq]; exact fg
  replace H3 : Hid (HwS wq 0 wb (.pointer (some ⟨se, 0, none⟩)) (.pointer (some ⟨sn, 0, none⟩)) (.slice (some ⟨g, 0, none⟩) H.length cap) H) := Lib.hid (by rw [hwq]; exact H3.out)
  replace H4 : Hid (StS wq 0 se me E) := Lib.hid (by rw [hwq]; exact H4.out)
  replace H5 : Hid (StS wq 0 sn mn N) := Lib.hid (by rw [hwq]; exact H5.out)
  have HQ : Hid (Kp ok w wq) := Lib.hid (by rw [hwq]; exact Kp.of_kpt (.of_below (S := []) (below_drewN _ _ _)) (by simp))
  replace hlt : wb < wq.heap.size := by rw [hwq]; exact hlt
  clear hwq fl f2
  go_wp2_with fail
  go_region
  obtain ⟨w1, e1⟩ : ∃ q, q = (wq.setCell ⟨g, 0, none⟩ (.string z)).drew := ⟨_, rfl⟩
  obtain ⟨w2, e2⟩ : ∃ q, q = w1.setCell ⟨g, last, none⟩ (.string ⟨#[]⟩) := ⟨_, rfl⟩
  obtain ⟨w3, e3⟩ : ∃ q, q = w2.setCell ⟨wb, 2, none⟩ (.slice (some ⟨g, 0, none⟩) last cap) := ⟨_, rfl⟩
  obtain ⟨⟨m1, ⟨u, m2⟩, m3⟩, ⟨m4, m5⟩, G, g1, g2, g3, g4, g5⟩ := take_end_S H1.out H2.out H3.out H4.out H5.out H6.out H7.out H8.out H9.out EX.out EZ.out HL.out e1 e2 e3
  have hw1 : wb < w1.heap.size := by rw [e1]; simpa using hlt
  have G1 := Lib.hid g1
  have G2 := Lib.hid g2
  have G3 := Lib.hid g3
  have G4 := Lib.hid g4
  have G5 := Lib.hid g5
  rw [← e1]
  clear g1 g2 g3 g4 g5 H1 H2 H3 H4 H5 H6 H7 H8 H9 EX EZ e1 c2 d0' dl' fg hlt
  go_upto_region 7 with fail
  rw [← e2]
  clear m1 m2 m3 e2 hw1
  go_upto_region 8 with fail
  rw [← e3]
  clear m4 m5 e3
  go_wp2_with fail
  refine (sink_S 0 wb _ _ _ G (⟨#[]⟩ : ByteArray) w3 G4.out G3.out (by rw [G2.out]; omega)).mono ?_
  rintro e w4 ⟨rfl, H', r1, r2, r3, r4⟩
  obtain ⟨q1, q2, q3⟩ := G5.out w4 H' r1 r2 r3 r4
  have hlt4 := r1.cells.1
  have Q2 := Lib.hid q2
  have Q3 := Lib.hid q3
  clear r1 r2 r3 r4 q2 q3 G1 G2 G3 G4 G5
  go_wp2_with fail
  refine (drop_S 0 sn mn N x w4 Q2.out HOK.out).mono ?_
  rintro e w5 ⟨rfl, s1, s2⟩
  obtain ⟨t1, t2⟩ := Q3.out w5 s1 s2
  have T1 := Lib.hid t1
  have T2 := Lib.hid t2
  clear s1 s2 t1 t2 Q2 Q3 q1
  go_wp2
  go_ret2
  exact ⟨x, rfl, HX.out.1, HX.out.2, T1.out, HQ.out.trans T2.out⟩

set_option maxHeartbeats 2000000 in
set_option maxRecDepth 100000 in
theorem newwork_S (v : Value) (xs : List ByteArray) (okr : Nat → Prop) (w : World) (hr : RdC cS okr w v xs) (hx : ∀ x ∈ xs, okS x) (hl : xs.length ≤ 5000) :
    Calls Try.prog 27 #[v] w fun e w' => ∃ wb, e = .returned (.pointer (some ⟨wb, 0, none⟩)) ∧ WqS (fun b => w.heap.size ≤ b) w' wb (onceL xs) (onceL xs) ∧ Below w.heap.size w w' := by
  obtain ⟨p, cap, rfl, h1, h2⟩ := hr.form
  unfold maxLen at h2
  have HR := Lib.hid hr
  clear hr
  go_enter Try.func27, Try.ntmps27
  go_wp2_with fail
  refine (new_S _ [] (fun _ => True) w (RdC.nil _ _) (by simp) (by simp)).mono ?_
  rintro e w1 ⟨se, me, rfl, hs1, hb1⟩
  rw [onceL_nil] at hs1
  have HB1 := Lib.hid hb1
  have HS1 := Lib.hid hs1
  clear hs1 hb1
  go_wp2_with fail
  refine (new_S _ [] (fun _ => True) w1 (RdC.nil _ _) (by simp) (by simp)).mono ?_
  rintro e w2 ⟨sn, mn, rfl, hs2, hb2⟩
  rw [onceL_nil] at hs2
  have HB2 := Lib.hid hb2
  have HS2 := Lib.hid hs2
  clear hs2 hb2
  go_upto_region 2 with fail
  obtain ⟨w3, hw3⟩ : ∃ z, z = w2.alloc (.cells #[.pointer (some ⟨se, 0, none⟩), .pointer (some ⟨sn, 0, none⟩), .slice none 0 0] 72) := ⟨_, rfl⟩
  rw [← hw3]
  have hb3 : Below w2.heap.size w2 w3 := by rw [hw3]; exact (Below.refl _ w2).alloc (Nat.le_refl _) _
  have hbx : w3.heap[w2.heap.size]? = some (.cells #[.pointer (some ⟨se, 0, none⟩), .pointer (some ⟨sn, 0, none⟩), .slice none 0 0] 72 (0, 0)) := by rw [hw3]; exact heap_alloc_new _ _
  have hs1 := (HS1.out.bel HB2.out).bel hb3
  have hs2 := HS2.out.bel hb3
  have hl1 := HS1.out.lt
  have hl2 := HS2.out.lt
  have hp1 := HS1.out.1
  have hp1' := HS1.out.2.1
  have hp2 := HS2.out.1
  have hp2' := HS2.out.2.1
  have hz1 := HB1.out.size
  have hz2 := HB2.out.size
  have W0 : Hid (WqS (fun b => w.heap.size ≤ b) w3 w2.heap.size [] []) := Lib.hid ⟨se, me, sn, mn, _, [], by simp; omega, (fun g e => by cases e), ⟨hbx, OwnC.nil _ _, by simp [Value.ownBlock]⟩, hs1.mono (Nat.zero_le _), hs2.mono (Nat.zero_le _), Hp.nil _ _, List.Perm.refl _, (fun b hb => by
    simp only [List.mem_cons, List.not_mem_nil, or_false] at hb
    show w.heap.size ≤ b
    omega), (fun g e => by cases e)⟩
  have B0 : Hid (Below w.heap.size w w3) := Lib.hid ((HB1.out.trans (HB2.out.mono hz1)).trans (hb3.mono (by omega)))
  obtain ⟨wb, hwb⟩ : ∃ b, b = w2.heap.size := ⟨_, rfl⟩
  rw [← hwb] at W0 ⊢
  clear hw3 hb3 hbx hs1 hs2 hl1 hl2 hp1 hp1' hp2 hp2' hz1 hz2 HS1 HS2 HB1 HB2 hwb
  go_wp2_with fail
  go_loopw [12] (fun v wr => ∃ i : Nat, v = .int .i64 (i : Int) ∧ i ≤ xs.length ∧ Hid (WqS (fun b => w.heap.size ≤ b) wr wb (onceL (xs.take i)) (onceL (xs.take i))) ∧ Hid (Below w.heap.size w wr)) (fun v _ => xs.length - (intOf v).toNat)
  case atStart => exact ⟨0, rfl, by omega, W0, B0⟩
  case round =>
    clear W0 B0
    obtain ⟨i, rfl, hi, H1, HB⟩ := hrel
    by_cases hlt : i < xs.length
    · have hlt' : (i : Int) < (xs.length : Int) := by omega
      have hne : xs ≠ [] := by rintro rfl; simp at hlt
      obtain ⟨b, off, rfl, hb, hbl, hc⟩ := HR.out.at hne
      have ci : wr.cell? ⟨b, off + i, none⟩ = some (.string xs[i]) := (HB.out.cell hbl).trans (hc i _ (List.getElem?_eq_getElem hlt))
      have hox := hx _ (List.getElem_mem hlt)
      have HT := Lib.hid (once_take hlt)
      obtain ⟨x, hxx⟩ : ∃ x, xs[i] = x := ⟨_, rfl⟩
      rw [hxx] at ci hox HT
      clear hc hxx
      have hol : (onceL (xs.take i)).length ≤ 10000 := by have := onceL_len (xs.take i); rw [List.length_take] at this; omega
      go_wp2_with fail
      refine (put_S _ wb _ _ x wr H1.out hox hol hol (fun b hb => Nat.le_trans HB.out.size hb)).mono ?_
      rintro e w4 ⟨rfl, hs4, hk4⟩
      rw [putN_self] at hs4
      have HS := Lib.hid hs4
      have HK := Lib.hid hk4
      clear hs4 hk4 H1 ci
      go_wp2_with fail
      go_roundw
      case rel => exact ⟨i + 1, by go_num, by omega, by rw [HT.out]; exact HS, Lib.hid (HB.out.trans (HK.out.below (fun b hb => hb) HB.out.size))⟩
      case measure => simp [intOf]; omega
    · obtain rfl : i = xs.length := by omega
      rw [List.take_length] at H1
      clear hlt hi
      go_wp2
      go_ret
      exact ⟨_, rfl, H1.out, HB.out⟩
end Go.Proofs.Ytejjmbfbjagifaa.S
