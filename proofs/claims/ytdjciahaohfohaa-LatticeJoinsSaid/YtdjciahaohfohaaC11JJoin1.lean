/- Texts that the proof is made of, joined. No condition. -/
import Derived.Test.YtdjciahaohfohaaC11JJoinF
import Derived.Deep.DeepCutAuto
import Derived.Deep.CutBlock
import Derived.Test.YtdjciahaohfohaaC11H
set_option linter.unusedVariables false
set_option linter.unusedSimpArgs false
set_option maxRecDepth 100000
set_option maxHeartbeats 16000000
namespace Go.Proofs.Ytdjciahaohfohaa.R
open Go.RowKit Go.Proofs.Ytdjciahaohfohaa.D Go.Proofs.Ytdjciahaohfohaa.O Go.Proofs.Ytdjciahaohfohaa.A
set_option maxHeartbeats 8000000 in
set_option maxRecDepth 100000 in
theorem joins_p1 (k0 k1 k2 k3 x y z u : Nat) (w : World) (h0 : k0 < 256) (h1 : k1 < 256) (h2 : k2 < 256) (h3 : k3 < 256) (hx : x < 256) (hy : y < 256) (hz : z < 256) (hu : u < 256) (xo : Nat) (hxo : xo < 256) (hor : bits .or .u8 (x : Int) 1 = (xo : Int)) (na : ((ofJ xo ⟨#[65]⟩).2.toList == [78, 111, 98, 111, 100, 121]) = false) (nb : ((ofJ y ⟨#[65]⟩).2.toList == [78, 111, 98, 111, 100, 121]) = false) (nc : ((ofJ z ⟨#[65]⟩).2.toList == [78, 111, 98, 111, 100, 121]) = false) (nd : ((ofJ u ⟨#[65]⟩).2.toList == [78, 111, 98, 111, 100, 121]) = false) (p7 : ((joinT (tabT (bitS k0 3) (bitS k0 6) (bitS k2 2)) (ofJ xo ⟨#[65]⟩) (ofJ y ⟨#[65]⟩)).1 == 7) = true) (pi : ifB (ofJ u ⟨#[65]⟩) = true) :
    Calls Try.prog 4 #[.agg #[.int .u8 (k0 : Int), .int .u8 (k1 : Int), .int .u8 (k2 : Int), .int .u8 (k3 : Int)], .int .u8 (x : Int), .int .u8 (y : Int), .int .u8 (z : Int), .int .u8 (u : Int)] w fun e w' => e = .returned (.bool true) ∧ Below w.heap.size w w' := by
  obtain ⟨w0, hw0⟩ : ∃ x, x = w.alloc (.cells #[.int .u8 (k0 : Int), .int .u8 (k1 : Int), .int .u8 (k2 : Int), .int .u8 (k3 : Int)] 22) := ⟨_, rfl⟩
  have HB0 : Hid (Below w.heap.size w w0) := Lib.hid (by rw [hw0]; exact below_alR _ _)
  have HX0 : Hid (w0.heap[w.heap.size]? = some (.cells #[.int .u8 (k0 : Int), .int .u8 (k1 : Int), .int .u8 (k2 : Int), .int .u8 (k3 : Int)] 22 (0, 0))) := Lib.hid (by rw [hw0]; exact heap_alloc_new _ _)
  go_enter Try.func4, Try.ntmps4
  try simp only [List.append_eq, List.cons_append, List.nil_append]
  go_wp2_with fail
  rw [← hw0]
  clear hw0
  obtain ⟨kb, hkb⟩ : ∃ x, w.heap.size = x := ⟨_, rfl⟩
  rw [hkb] at HX0 ⊢
  have HKB := Lib.hid hkb
  clear hkb
  refine (known_11 w0).mono ?_
  rintro e w1 ⟨rfl, hb1⟩
  have hX1 := (hb1.block _ (Array.getElem?_eq_some_iff.1 HX0.out).1).trans HX0.out
  have HB1 := Lib.hid (HB0.out.trans (hb1.mono HB0.out.size))
  obtain ⟨xl, xc, -⟩ := boxN hX1
  have x0 := xc 0 _ rfl
  have x1 := xc 1 _ rfl
  have x2 := xc 2 _ rfl
  have x3 := xc 3 _ rfl
  simp only [Nat.zero_add] at x0 x1 x2 x3
  clear hb1 hX1 HX0 HB0 xc
  go_wp2_with fail
  refine (archive_0 k0 k1 k2 k3 w1 h0 h1 h2 h3).mono ?_
  rintro e w2 ⟨p1, n1, c1, rfl, hr1, hb2⟩
  obtain ⟨_, _, e1, -⟩ := hr1.len
  simp only [Value.slice.injEq] at e1
  obtain ⟨rfl, rfl, rfl⟩ := e1
  have HR1 := Lib.hid hr1
  have HB2 := Lib.hid (HB1.out.trans (hb2.mono HB1.out.size))
  clear hr1 hb2 HB1 x0 x1 x2 x3 xl HKB
  go_wp2_with fail
  refine (seat_tree k0 k1 k2 k3 w2 _ _ _ HR1.out).mono ?_
  rintro e w3 ⟨tb, mb, vs, ok, K, rfl, hk3, hs3⟩
  have HS := Lib.hid hs3
  obtain ⟨T, hT⟩ : ∃ t, (tabT (bitS k0 3) (bitS k0 6) (bitS k2 2)) = t := ⟨_, rfl⟩
  rw [hT] at hk3
  have HK := Lib.hid hk3
  clear hk3 hs3 HR1
  obtain ⟨a, ha⟩ : ∃ t, ofJ xo ⟨#[65]⟩ = t := ⟨_, rfl⟩
  have ia := (of_ix (s := ⟨#[65]⟩) (sx := 7) rfl xo).1
  rw [ha] at ia
  obtain ⟨b, hb⟩ : ∃ t, ofJ y ⟨#[65]⟩ = t := ⟨_, rfl⟩
  have ib := (of_ix (s := ⟨#[65]⟩) (sx := 7) rfl y).1
  rw [hb] at ib
  obtain ⟨c, hc⟩ : ∃ t, ofJ z ⟨#[65]⟩ = t := ⟨_, rfl⟩
  have ic := (of_ix (s := ⟨#[65]⟩) (sx := 7) rfl z).1
  rw [hc] at ic
  obtain ⟨d, hd⟩ : ∃ t, ofJ u ⟨#[65]⟩ = t := ⟨_, rfl⟩
  have id := (of_ix (s := ⟨#[65]⟩) (sx := 7) rfl u).1
  rw [hd] at id
  have ZA := Lib.hid (sz_at ia)
  have ZB := Lib.hid (sz_at ib)
  have ZC := Lib.hid (sz_at ic)
  have ZD := Lib.hid (sz_at id)
  rw [ha] at na
  rw [hb] at nb
  rw [hc] at nc
  rw [hd] at nd
  rw [hT, ha, hb] at p7
  rw [hd] at pi
  obtain ⟨j, m, f, f_ab, f_ba, f_jc, f_bc, f_af, f_aa, fit, least, zj, zf⟩ := joins_facts (bitS k0 3) (bitS k0 6) (bitS k2 2) ia ib ic id (no_body ia na) (no_body ib nb) (no_body ic nc) (no_body id nd)
  rw [hT] at f_ab f_ba f_jc f_bc f_af f_aa fit least
  rw [f_ab] at p7
  have j_ab : joinT T (a.1, a.2) (b.1, b.2) = _ := f_ab
  clear f_ab
  have j_ba : joinT T (b.1, b.2) (a.1, a.2) = _ := f_ba
  clear f_ba
  have j_jc : joinT T (j.1, j.2) (c.1, c.2) = _ := f_jc
  clear f_jc
  have j_bc : joinT T (b.1, b.2) (c.1, c.2) = _ := f_bc
  clear f_bc
  have j_af : joinT T (a.1, a.2) (f.1, f.2) = _ := f_af
  clear f_af
  have j_aa : joinT T (a.1, a.2) (a.1, a.2) = _ := f_aa
  clear f_aa
  have ZJ := Lib.hid (sz_small zj)
  have ZF := Lib.hid (sz_small zf)
  have HPI := Lib.hid pi
  have HP7 := Lib.hid p7
  clear ia ib ic id fit least zj zf hT pi p7
  go_upto_region 4 with fail
  go_upto_region 5 with (go_at_call 11; refine (of_y _ ⟨#[65]⟩ _ (by assumption)).mono ?_; (first | rw [ha] | rw [hb] | rw [hc] | rw [hd]); rw [tyv_eta]; rintro e wn ⟨rfl, hbn⟩; replace HS := Lib.hid (HS.out.below hbn); clear hbn)
  obtain ⟨wj, hwj⟩ : ∃ x, x = ((((wn.alloc (.cells #[.int .i64 a.1, .string a.2] 24)).alloc (.cells #[.int .i64 b.1, .string b.2] 24)).alloc (.cells #[.int .i64 c.1, .string c.2] 24)).alloc (.cells #[.int .i64 d.1, .string d.2] 24)) := ⟨_, rfl⟩
  have hsj : StJ w2 wj ok tb mb vs K [(wn.heap.size + 3, d), (wn.heap.size + 2, c), (wn.heap.size + 1, b), (wn.heap.size, a)] := by
    rw [hwj]
    have := ((((HS.out.box a).box b).box c).box d)
    simp only [World.size_alloc] at this
    exact this
  rw [← hwj]
  clear hwj
  obtain ⟨g, hg⟩ : ∃ z, wn.heap.size = z := ⟨_, rfl⟩
  rw [hg] at hsj ⊢
  replace HS := Lib.hid hsj
  clear hg hsj
  obtain ⟨al, a0, a1⟩ := HS.out.cell (g := g) (a := a) (by simp)
  obtain ⟨bl, b0, b1⟩ := HS.out.cell (g := g + 1) (a := b) (by simp)
  obtain ⟨cl, c0, c1⟩ := HS.out.cell (g := g + 2) (a := c) (by simp)
  obtain ⟨dl, d0, d1⟩ := HS.out.cell (g := g + 3) (a := d) (by simp)
  try dsimp only at a0 a1 b0 b1 c0 c1 d0 d1
  go_upto_region 7 with fail
  go_wp2_with fail
  refine (join_c HS.out HK.out (by first | exact ZA.out | exact ZB.out | exact ZC.out | exact ZD.out | exact ZJ.out | exact ZF.out) (by first | exact ZA.out | exact ZB.out | exact ZC.out | exact ZD.out | exact ZJ.out | exact ZF.out)).mono ?_
  rw [j_ab, tyv_eta]
  rintro e wn ⟨rfl, hbn⟩
  replace HS := Lib.hid (HS.out.below hbn)
  clear al a0 a1 bl b0 b1 cl c0 c1 dl d0 d1
  clear hbn na nb nc nd ha hb hc hd hor
  go_upto_region 8 with fail
  obtain ⟨wj, hwj⟩ : ∃ x, x = wn.alloc (.cells #[.int .i64 j.1, .string j.2] 24) := ⟨_, rfl⟩
  have hsj : StJ w2 wj ok tb mb vs K [(wn.heap.size, j), (g + 3, d), (g + 2, c), (g + 1, b), (g, a)] := by rw [hwj]; exact HS.out.box j
  rw [← hwj]
  clear hwj
  obtain ⟨gj, hgj⟩ : ∃ z, wn.heap.size = z := ⟨_, rfl⟩
  rw [hgj] at hsj ⊢
  replace HS := Lib.hid hsj
  clear hsj hgj
  go_cut [17] from 54 to 61 (fun s wx => s = .bool true ∧ Hid (wx = wj))
  case first =>
    obtain ⟨dl, d0, d1⟩ := HS.out.cell (g := g + 3) (a := d) (by simp)
    have hpi := HPI.out
    unfold ifB at hpi
    clear HPI HS HK
    cases e1 : (d.2.toList == [73]) <;> cases e2 : (d.2.toList == [74]) <;> rw [e1, e2] at hpi
    all_goals first
      | exact absurd hpi (by decide)
      | (clear hpi; go_wp2_with fail; go_meet; case rel => exact ⟨rfl, Lib.hid rfl⟩)
  case rest =>
    obtain ⟨rfl, hwc⟩ := hcut
    have ewc := hwc.out.symm
    subst ewc
    clear hwc HPI
    have p7 := HP7.out
    clear HP7
    go_upto_region 9 with fail
    replace HS := Lib.hid (HS.out.below (Below.refl wj.heap.size wj).drew)
    refine wp_region_held_drew (S := fun W => ((g) < W.heap.size ∧ W.cell? ⟨g, 0, none⟩ = some (.int .i64 a.1) ∧ W.cell? ⟨g, 1, none⟩ = some (.string a.2)) ∧ ((g + 1) < W.heap.size ∧ W.cell? ⟨g + 1, 0, none⟩ = some (.int .i64 b.1) ∧ W.cell? ⟨g + 1, 1, none⟩ = some (.string b.2)) ∧ ((g + 2) < W.heap.size ∧ W.cell? ⟨g + 2, 0, none⟩ = some (.int .i64 c.1) ∧ W.cell? ⟨g + 2, 1, none⟩ = some (.string c.2)) ∧ ((g + 3) < W.heap.size ∧ W.cell? ⟨g + 3, 0, none⟩ = some (.int .i64 d.1) ∧ W.cell? ⟨g + 3, 1, none⟩ = some (.string d.2)) ∧ ((gj) < W.heap.size ∧ W.cell? ⟨gj, 0, none⟩ = some (.int .i64 j.1) ∧ W.cell? ⟨gj, 1, none⟩ = some (.string j.2))) (by kernel_rfl) ⟨HS.out.cell (g := g) (a := a) (by simp), HS.out.cell (g := g + 1) (a := b) (by simp), HS.out.cell (g := g + 2) (a := c) (by simp), HS.out.cell (g := g + 3) (a := d) (by simp), HS.out.cell (g := gj) (a := j) (by simp)⟩ (fun hHeld => ?_)
    refine wpAnyH_take (i := 0) (oi := _) (v := ?_) (by simp only [List.getElem?_toArray, List.getElem?_cons_zero]; rfl) (by kernel_rfl) (by kernel_rfl) (by kernel_rfl) (by intro _ _ _ h; exact h) (Or.inl ⟨by rfl, fun W hSw => ?_⟩) hHeld ?_
    rotate_left 1
    · (try dsimp only at hSw); first | (go_simp; done) | (go_simp; with_reducible rfl)
    try go_frame
    refine wpAnyH_take (i := 1) (oi := _) (v := ?_) (by simp only [List.getElem?_toArray, List.getElem?_cons_succ, List.getElem?_cons_zero]; rfl) (by kernel_rfl) (by kernel_rfl) (by kernel_rfl) (by intro _ _ _ h; exact h) (Or.inl ⟨by rfl, fun W hSw => ?_⟩) hHeld ?_
    rotate_left 1
    · (clear hSw; first | (go_simp; done) | (go_simp; with_reducible rfl))
    try go_frame
    refine wpAnyH_take (i := 2) (oi := _) (v := ?_) (by simp only [List.getElem?_toArray, List.getElem?_cons_succ, List.getElem?_cons_zero]; rfl) (by kernel_rfl) (by kernel_rfl) (by kernel_rfl) (by intro _ _ _ h; exact h) (Or.inl ⟨by rfl, fun W hSw => ?_⟩) hHeld ?_
    rotate_left 1
    · (try dsimp only at hSw); first | (go_simp; done) | (go_simp; with_reducible rfl)
    try go_frame
    refine wpAnyH_take (i := 3) (oi := _) (v := ?_) (by simp only [List.getElem?_toArray, List.getElem?_cons_succ, List.getElem?_cons_zero]; rfl) (by kernel_rfl) (by kernel_rfl) (by kernel_rfl) (by intro _ _ _ h; exact h) (Or.inl ⟨by rfl, fun W hSw => ?_⟩) hHeld ?_
    rotate_left 1
    · (try dsimp only at hSw); first | (go_simp; done) | (go_simp; with_reducible rfl)
    try go_frame
    refine wpAnyH_ready (rs := [4]) (by kernel_rfl) (by simp) ?_
    refine AllReadyH.cons (o := _) (by simp only [List.getElem?_toArray, List.getElem?_cons_succ, List.getElem?_cons_zero]; rfl) (fun KX hKX => ?_) AllReadyH.nil
    clear hHeld
    go_simp
    refine (join_c HS.out HK.out (by first | exact ZA.out | exact ZB.out | exact ZC.out | exact ZD.out | exact ZJ.out | exact ZF.out) (by first | exact ZA.out | exact ZB.out | exact ZC.out | exact ZD.out | exact ZJ.out | exact ZF.out)).mono ?_
    (first | rw [j_ba] | rw [j_jc] | rw [j_bc] | rw [j_af] | rw [j_aa]); rw [tyv_eta]
    rintro e wn ⟨rfl, hbn⟩
    replace HS := Lib.hid (HS.out.below hbn)
    clear hbn
    refine hKX.out _ _ ⟨HS.out.cell (g := g) (a := a) (by simp), HS.out.cell (g := g + 1) (a := b) (by simp), HS.out.cell (g := g + 2) (a := c) (by simp), HS.out.cell (g := g + 3) (a := d) (by simp), HS.out.cell (g := gj) (a := j) (by simp)⟩ (fun hHeld => ?_)
    clear hKX KX
    try go_frame
    refine wpAnyH_take (i := 5) (oi := _) (v := ?_) (by simp only [List.getElem?_toArray, List.getElem?_cons_succ, List.getElem?_cons_zero]; rfl) (by kernel_rfl) (by kernel_rfl) (by kernel_rfl) (by intro _ _ _ h; exact h) (Or.inl ⟨by rfl, fun W hSw => ?_⟩) hHeld ?_
    rotate_left 1
    · (clear hSw; first | (go_simp; done) | (go_simp; with_reducible rfl))
    try go_frame
    refine wpAnyH_take (i := 6) (oi := _) (v := ?_) (by simp only [List.getElem?_toArray, List.getElem?_cons_succ, List.getElem?_cons_zero]; rfl) (by kernel_rfl) (by kernel_rfl) (by kernel_rfl) (by intro _ _ _ h; exact h) (Or.inl ⟨by rfl, fun W hSw => ?_⟩) hHeld ?_
    rotate_left 1
    · (clear hSw; first | (go_simp; done) | (go_simp; with_reducible rfl))
    try go_frame
    refine wpAnyH_take (i := 7) (oi := _) (v := ?_) (by simp only [List.getElem?_toArray, List.getElem?_cons_succ, List.getElem?_cons_zero]; rfl) (by kernel_rfl) (by kernel_rfl) (by kernel_rfl) (by intro _ _ _ h; exact h) (Or.inl ⟨by rfl, fun W hSw => ?_⟩) hHeld ?_
    rotate_left 1
    · (clear hSw; first | (go_simp; done) | (go_simp; with_reducible rfl))
    try go_frame
    refine wpAnyH_take (i := 8) (oi := _) (v := ?_) (by simp only [List.getElem?_toArray, List.getElem?_cons_succ, List.getElem?_cons_zero]; rfl) (by kernel_rfl) (by kernel_rfl) (by kernel_rfl) (by intro _ _ _ h; exact h) (Or.inl ⟨by rfl, fun W hSw => ?_⟩) hHeld ?_
    rotate_left 1
    · (try dsimp only at hSw); first | (go_simp; done) | (go_simp; with_reducible rfl)
    try go_frame
    refine wpAnyH_take (i := 9) (oi := _) (v := ?_) (by simp only [List.getElem?_toArray, List.getElem?_cons_succ, List.getElem?_cons_zero]; rfl) (by kernel_rfl) (by kernel_rfl) (by kernel_rfl) (by intro _ _ _ h; exact h) (Or.inl ⟨by rfl, fun W hSw => ?_⟩) hHeld ?_
    rotate_left 1
    · (try dsimp only at hSw); first | (go_simp; done) | (go_simp; with_reducible rfl)
    try go_frame
    refine wpAnyH_take (i := 11) (oi := _) (v := ?_) (by simp only [List.getElem?_toArray, List.getElem?_cons_succ, List.getElem?_cons_zero]; rfl) (by kernel_rfl) (by kernel_rfl) (by kernel_rfl) (by intro _ _ _ h; exact h) (Or.inl ⟨by rfl, fun W hSw => ?_⟩) hHeld ?_
    rotate_left 1
    · (clear hSw; first | (go_simp; done) | (go_simp; with_reducible rfl))
    try go_frame
    refine wpAnyH_take (i := 12) (oi := _) (v := ?_) (by simp only [List.getElem?_toArray, List.getElem?_cons_succ, List.getElem?_cons_zero]; rfl) (by kernel_rfl) (by kernel_rfl) (by kernel_rfl) (by intro _ _ _ h; exact h) (Or.inl ⟨by rfl, fun W hSw => ?_⟩) hHeld ?_
    rotate_left 1
    · (try dsimp only at hSw); first | (go_simp; done) | (go_simp; with_reducible rfl)
    try go_frame
    refine wpAnyH_take (i := 13) (oi := _) (v := ?_) (by simp only [List.getElem?_toArray, List.getElem?_cons_succ, List.getElem?_cons_zero]; rfl) (by kernel_rfl) (by kernel_rfl) (by kernel_rfl) (by intro _ _ _ h; exact h) (Or.inl ⟨by rfl, fun W hSw => ?_⟩) hHeld ?_
    rotate_left 1
    · (clear hSw; first | (go_simp; done) | (go_simp; with_reducible rfl))
    try go_frame
    refine wpAnyH_take (i := 14) (oi := _) (v := ?_) (by simp only [List.getElem?_toArray, List.getElem?_cons_succ, List.getElem?_cons_zero]; rfl) (by kernel_rfl) (by kernel_rfl) (by kernel_rfl) (by intro _ _ _ h; exact h) (Or.inl ⟨by rfl, fun W hSw => ?_⟩) hHeld ?_
    rotate_left 1
    · (try dsimp only at hSw); first | (go_simp; done) | (go_simp; with_reducible rfl)
    try go_frame
    refine wpAnyH_take (i := 15) (oi := _) (v := ?_) (by simp only [List.getElem?_toArray, List.getElem?_cons_succ, List.getElem?_cons_zero]; rfl) (by kernel_rfl) (by kernel_rfl) (by kernel_rfl) (by intro _ _ _ h; exact h) (Or.inl ⟨by rfl, fun W hSw => ?_⟩) hHeld ?_
    rotate_left 1
    · (try dsimp only at hSw); first | (go_simp; done) | (go_simp; with_reducible rfl)
    try go_frame
    refine wpAnyH_ready (rs := [10]) (by kernel_rfl) (by simp) ?_
    refine AllReadyH.cons (o := _) (by simp only [List.getElem?_toArray, List.getElem?_cons_succ, List.getElem?_cons_zero]; rfl) (fun KX hKX => ?_) AllReadyH.nil
    clear hHeld
    go_simp
    refine (join_c HS.out HK.out (by first | exact ZA.out | exact ZB.out | exact ZC.out | exact ZD.out | exact ZJ.out | exact ZF.out) (by first | exact ZA.out | exact ZB.out | exact ZC.out | exact ZD.out | exact ZJ.out | exact ZF.out)).mono ?_
    (first | rw [j_ba] | rw [j_jc] | rw [j_bc] | rw [j_af] | rw [j_aa]); rw [tyv_eta]
    rintro e wn ⟨rfl, hbn⟩
    replace HS := Lib.hid (HS.out.below hbn)
    clear hbn
    refine hKX.out _ _ ⟨HS.out.cell (g := g) (a := a) (by simp), HS.out.cell (g := g + 1) (a := b) (by simp), HS.out.cell (g := g + 2) (a := c) (by simp), HS.out.cell (g := g + 3) (a := d) (by simp), HS.out.cell (g := gj) (a := j) (by simp)⟩ (fun hHeld => ?_)
    clear hKX KX
    try go_frame
    refine wpAnyH_ready (rs := [16]) (by kernel_rfl) (by simp) ?_
    refine AllReadyH.cons (o := _) (by simp only [List.getElem?_toArray, List.getElem?_cons_succ, List.getElem?_cons_zero]; rfl) (fun KX hKX => ?_) AllReadyH.nil
    clear hHeld
    go_simp
    refine (join_c HS.out HK.out (by first | exact ZA.out | exact ZB.out | exact ZC.out | exact ZD.out | exact ZJ.out | exact ZF.out) (by first | exact ZA.out | exact ZB.out | exact ZC.out | exact ZD.out | exact ZJ.out | exact ZF.out)).mono ?_
    (first | rw [j_ba] | rw [j_jc] | rw [j_bc] | rw [j_af] | rw [j_aa]); rw [tyv_eta]
    rintro e wn ⟨rfl, hbn⟩
    replace HS := Lib.hid (HS.out.below hbn)
    clear hbn
    refine hKX.out _ _ ⟨HS.out.cell (g := g) (a := a) (by simp), HS.out.cell (g := g + 1) (a := b) (by simp), HS.out.cell (g := g + 2) (a := c) (by simp), HS.out.cell (g := g + 3) (a := d) (by simp), HS.out.cell (g := gj) (a := j) (by simp)⟩ (fun hHeld => ?_)
    clear hKX KX
    try go_frame
    refine wpAnyH_ready (rs := [17]) (by kernel_rfl) (by simp) ?_
    refine AllReadyH.cons (o := _) (by simp only [List.getElem?_toArray, List.getElem?_cons_succ, List.getElem?_cons_zero]; rfl) (fun KX hKX => ?_) AllReadyH.nil
    clear hHeld
    go_simp
    refine (join_c HS.out HK.out (by first | exact ZA.out | exact ZB.out | exact ZC.out | exact ZD.out | exact ZJ.out | exact ZF.out) (by first | exact ZA.out | exact ZB.out | exact ZC.out | exact ZD.out | exact ZJ.out | exact ZF.out)).mono ?_
    (first | rw [j_ba] | rw [j_jc] | rw [j_bc] | rw [j_af] | rw [j_aa]); rw [tyv_eta]
    rintro e wn ⟨rfl, hbn⟩
    replace HS := Lib.hid (HS.out.below hbn)
    clear hbn
    refine hKX.out _ _ ⟨HS.out.cell (g := g) (a := a) (by simp), HS.out.cell (g := g + 1) (a := b) (by simp), HS.out.cell (g := g + 2) (a := c) (by simp), HS.out.cell (g := g + 3) (a := d) (by simp), HS.out.cell (g := gj) (a := j) (by simp)⟩ (fun hHeld => ?_)
    clear hKX KX
    try go_frame
    refine wpAnyH_take (i := 18) (oi := _) (v := ?_) (by simp only [List.getElem?_toArray, List.getElem?_cons_succ, List.getElem?_cons_zero]; rfl) (by kernel_rfl) (by kernel_rfl) (by kernel_rfl) (by intro _ _ _ h; exact h) (Or.inl ⟨by rfl, fun W hSw => ?_⟩) hHeld ?_
    rotate_left 1
    · (clear hSw; first | (go_simp; done) | (go_simp; with_reducible rfl))
    try go_frame
    refine wpAnyH_take (i := 19) (oi := _) (v := ?_) (by simp only [List.getElem?_toArray, List.getElem?_cons_succ, List.getElem?_cons_zero]; rfl) (by kernel_rfl) (by kernel_rfl) (by kernel_rfl) (by intro _ _ _ h; exact h) (Or.inl ⟨by rfl, fun W hSw => ?_⟩) hHeld ?_
    rotate_left 1
    · (clear hSw; first | (go_simp; done) | (go_simp; with_reducible rfl))
    try go_frame
    refine wpAnyH_take (i := 20) (oi := _) (v := ?_) (by simp only [List.getElem?_toArray, List.getElem?_cons_succ, List.getElem?_cons_zero]; rfl) (by kernel_rfl) (by kernel_rfl) (by kernel_rfl) (by intro _ _ _ h; exact h) (Or.inl ⟨by rfl, fun W hSw => ?_⟩) hHeld ?_
    rotate_left 1
    · (clear hSw; first | (go_simp; done) | (go_simp; with_reducible rfl))
    try go_frame
    refine wpAnyH_take (i := 21) (oi := _) (v := ?_) (by simp only [List.getElem?_toArray, List.getElem?_cons_succ, List.getElem?_cons_zero]; rfl) (by kernel_rfl) (by kernel_rfl) (by kernel_rfl) (by intro _ _ _ h; exact h) (Or.inl ⟨by rfl, fun W hSw => ?_⟩) hHeld ?_
    rotate_left 1
    · (clear hSw; first | (go_simp; done) | (go_simp; with_reducible rfl))
    try go_frame
    refine wpAnyH_take (i := 22) (oi := _) (v := ?_) (by simp only [List.getElem?_toArray, List.getElem?_cons_succ, List.getElem?_cons_zero]; rfl) (by kernel_rfl) (by kernel_rfl) (by kernel_rfl) (by intro _ _ _ h; exact h) (Or.inl ⟨by rfl, fun W hSw => ?_⟩) hHeld ?_
    rotate_left 1
    · (try dsimp only at hSw); first | (go_simp; done) | (go_simp; with_reducible rfl)
    try go_frame
    refine wpAnyH_take (i := 23) (oi := _) (v := ?_) (by simp only [List.getElem?_toArray, List.getElem?_cons_succ, List.getElem?_cons_zero]; rfl) (by kernel_rfl) (by kernel_rfl) (by kernel_rfl) (by intro _ _ _ h; exact h) (Or.inl ⟨by rfl, fun W hSw => ?_⟩) hHeld ?_
    rotate_left 1
    · (try dsimp only at hSw); first | (go_simp; done) | (go_simp; with_reducible rfl)
    try go_frame
    refine wpAnyH_take (i := 25) (oi := _) (v := ?_) (by simp only [List.getElem?_toArray, List.getElem?_cons_succ, List.getElem?_cons_zero]; rfl) (by kernel_rfl) (by kernel_rfl) (by kernel_rfl) (by intro _ _ _ h; exact h) (Or.inl ⟨by rfl, fun W hSw => ?_⟩) hHeld ?_
    rotate_left 1
    · (try dsimp only at hSw); first | (go_simp; done) | (go_simp; with_reducible rfl)
    try go_frame
    refine wpAnyH_ready (rs := [24]) (by kernel_rfl) (by simp) ?_
    refine AllReadyH.cons (o := _) (by simp only [List.getElem?_toArray, List.getElem?_cons_succ, List.getElem?_cons_zero]; rfl) (fun KX hKX => ?_) AllReadyH.nil
    clear hHeld
    go_simp
    refine (join_c HS.out HK.out (by first | exact ZA.out | exact ZB.out | exact ZC.out | exact ZD.out | exact ZJ.out | exact ZF.out) (by first | exact ZA.out | exact ZB.out | exact ZC.out | exact ZD.out | exact ZJ.out | exact ZF.out)).mono ?_
    (first | rw [j_ba] | rw [j_jc] | rw [j_bc] | rw [j_af] | rw [j_aa]); rw [tyv_eta]
    rintro e wn ⟨rfl, hbn⟩
    replace HS := Lib.hid (HS.out.below hbn)
    clear hbn
    refine hKX.out _ _ ⟨HS.out.cell (g := g) (a := a) (by simp), HS.out.cell (g := g + 1) (a := b) (by simp), HS.out.cell (g := g + 2) (a := c) (by simp), HS.out.cell (g := g + 3) (a := d) (by simp), HS.out.cell (g := gj) (a := j) (by simp)⟩ (fun hHeld => ?_)
    clear hKX KX
    try go_frame
    refine wpAnyH_take (i := 26) (oi := _) (v := ?_) (by simp only [List.getElem?_toArray, List.getElem?_cons_succ, List.getElem?_cons_zero]; rfl) (by kernel_rfl) (by kernel_rfl) (by kernel_rfl) (by intro _ _ _ h; exact h) (Or.inl ⟨by rfl, fun W hSw => ?_⟩) hHeld ?_
    rotate_left 1
    · (clear hSw; first | (go_simp; done) | (go_simp; with_reducible rfl))
    try go_frame
    refine wpAnyH_take (i := 27) (oi := _) (v := ?_) (by simp only [List.getElem?_toArray, List.getElem?_cons_succ, List.getElem?_cons_zero]; rfl) (by kernel_rfl) (by kernel_rfl) (by kernel_rfl) (by intro _ _ _ h; exact h) (Or.inl ⟨by rfl, fun W hSw => ?_⟩) hHeld ?_
    rotate_left 1
    · (clear hSw; first | (go_simp; done) | (go_simp; with_reducible rfl))
    try go_frame
    refine wpAnyH_take (i := 28) (oi := _) (v := ?_) (by simp only [List.getElem?_toArray, List.getElem?_cons_succ, List.getElem?_cons_zero]; rfl) (by kernel_rfl) (by kernel_rfl) (by kernel_rfl) (by intro _ _ _ h; exact h) (Or.inl ⟨by rfl, fun W hSw => ?_⟩) hHeld ?_
    rotate_left 1
    · (clear hSw; first | (go_simp; done) | (go_simp; with_reducible rfl))
    try go_frame
    refine wpAnyH_take (i := 29) (oi := _) (v := ?_) (by simp only [List.getElem?_toArray, List.getElem?_cons_succ, List.getElem?_cons_zero]; rfl) (by kernel_rfl) (by kernel_rfl) (by kernel_rfl) (by intro _ _ _ h; exact h) (Or.inl ⟨by rfl, fun W hSw => ?_⟩) hHeld ?_
    rotate_left 1
    · (clear hSw; first | (go_simp; done) | (go_simp; with_reducible rfl))
    try go_frame
    refine wpAnyH_take (i := 30) (oi := _) (v := ?_) (by simp only [List.getElem?_toArray, List.getElem?_cons_succ, List.getElem?_cons_zero]; rfl) (by kernel_rfl) (by kernel_rfl) (by kernel_rfl) (by intro _ _ _ h; exact h) (Or.inl ⟨by rfl, fun W hSw => ?_⟩) hHeld ?_
    rotate_left 1
    · (try dsimp only at hSw); first | (go_simp; done) | (go_simp; with_reducible rfl)
    try go_frame
    refine wpAnyH_take (i := 31) (oi := _) (v := ?_) (by simp only [List.getElem?_toArray, List.getElem?_cons_succ, List.getElem?_cons_zero]; rfl) (by kernel_rfl) (by kernel_rfl) (by kernel_rfl) (by intro _ _ _ h; exact h) (Or.inl ⟨by rfl, fun W hSw => ?_⟩) hHeld ?_
    rotate_left 1
    · (clear hSw; first | (go_simp; done) | (go_simp; with_reducible rfl))
    try go_frame
    refine wpAnyH_take (i := 32) (oi := _) (v := ?_) (by simp only [List.getElem?_toArray, List.getElem?_cons_succ, List.getElem?_cons_zero]; rfl) (by kernel_rfl) (by kernel_rfl) (by kernel_rfl) (by intro _ _ _ h; exact h) (Or.inl ⟨by rfl, fun W hSw => ?_⟩) hHeld ?_
    rotate_left 1
    · (clear hSw; first | (go_simp; done) | (go_simp; with_reducible rfl))
    try go_frame
    refine wpAnyH_take (i := 33) (oi := _) (v := undef) (by simp only [List.getElem?_toArray, List.getElem?_cons_succ, List.getElem?_cons_zero]; rfl) (by kernel_rfl) (by kernel_rfl) (by kernel_rfl) (by intro _ _ _ h; exact h) (Or.inr ⟨by rfl, rfl⟩) hHeld ?_
    try go_frame
    refine wpAnyH_take (i := 34) (oi := _) (v := undef) (by simp only [List.getElem?_toArray, List.getElem?_cons_succ, List.getElem?_cons_zero]; rfl) (by kernel_rfl) (by kernel_rfl) (by kernel_rfl) (by intro _ _ _ h; exact h) (Or.inr ⟨by rfl, rfl⟩) hHeld ?_
    try go_frame
    refine wpAnyH_take (i := 35) (oi := _) (v := undef) (by simp only [List.getElem?_toArray, List.getElem?_cons_succ, List.getElem?_cons_zero]; rfl) (by kernel_rfl) (by kernel_rfl) (by kernel_rfl) (by intro _ _ _ h; exact h) (Or.inr ⟨by rfl, rfl⟩) hHeld ?_
    try go_frame
    refine wpAnyH_take (i := 36) (oi := _) (v := undef) (by simp only [List.getElem?_toArray, List.getElem?_cons_succ, List.getElem?_cons_zero]; rfl) (by kernel_rfl) (by kernel_rfl) (by kernel_rfl) (by intro _ _ _ h; exact h) (Or.inr ⟨by rfl, rfl⟩) hHeld ?_
    try go_frame
    refine wpAnyH_take (i := 37) (oi := _) (v := undef) (by simp only [List.getElem?_toArray, List.getElem?_cons_succ, List.getElem?_cons_zero]; rfl) (by kernel_rfl) (by kernel_rfl) (by kernel_rfl) (by intro _ _ _ h; exact h) (Or.inr ⟨by rfl, rfl⟩) hHeld ?_
    try go_frame
    refine wpAnyH_take (i := 38) (oi := _) (v := undef) (by simp only [List.getElem?_toArray, List.getElem?_cons_succ, List.getElem?_cons_zero]; rfl) (by kernel_rfl) (by kernel_rfl) (by kernel_rfl) (by intro _ _ _ h; exact h) (Or.inr ⟨by rfl, rfl⟩) hHeld ?_
    try go_frame
    refine wpAnyH_take (i := 39) (oi := _) (v := undef) (by simp only [List.getElem?_toArray, List.getElem?_cons_succ, List.getElem?_cons_zero]; rfl) (by kernel_rfl) (by kernel_rfl) (by kernel_rfl) (by intro _ _ _ h; exact h) (Or.inr ⟨by rfl, rfl⟩) hHeld ?_
    try go_frame
    refine wpAnyH_take (i := 40) (oi := _) (v := undef) (by simp only [List.getElem?_toArray, List.getElem?_cons_succ, List.getElem?_cons_zero]; rfl) (by kernel_rfl) (by kernel_rfl) (by kernel_rfl) (by intro _ _ _ h; exact h) (Or.inr ⟨by rfl, rfl⟩) hHeld ?_
    try go_frame
    refine wpAnyH_take (i := 41) (oi := _) (v := undef) (by simp only [List.getElem?_toArray, List.getElem?_cons_succ, List.getElem?_cons_zero]; rfl) (by kernel_rfl) (by kernel_rfl) (by kernel_rfl) (by intro _ _ _ h; exact h) (Or.inr ⟨by rfl, rfl⟩) hHeld ?_
    try go_frame
    refine wpAnyH_take (i := 42) (oi := _) (v := undef) (by simp only [List.getElem?_toArray, List.getElem?_cons_succ, List.getElem?_cons_zero]; rfl) (by kernel_rfl) (by kernel_rfl) (by kernel_rfl) (by intro _ _ _ h; exact h) (Or.inr ⟨by rfl, rfl⟩) hHeld ?_
    try go_frame
    refine wpAnyH_take (i := 43) (oi := _) (v := ?_) (by simp only [List.getElem?_toArray, List.getElem?_cons_succ, List.getElem?_cons_zero]; rfl) (by kernel_rfl) (by kernel_rfl) (by kernel_rfl) (by intro _ _ _ h; exact h) (Or.inl ⟨by rfl, fun W hSw => ?_⟩) hHeld ?_
    rotate_left 1
    · (clear hSw; first | (go_simp; done) | (go_simp; with_reducible rfl))
    try go_frame
    refine wpAnyH_take (i := 44) (oi := _) (v := ?_) (by simp only [List.getElem?_toArray, List.getElem?_cons_succ, List.getElem?_cons_zero]; rfl) (by kernel_rfl) (by kernel_rfl) (by kernel_rfl) (by intro _ _ _ h; exact h) (Or.inl ⟨by rfl, fun W hSw => ?_⟩) hHeld ?_
    rotate_left 1
    · (clear hSw; first | (go_simp; done) | (go_simp; with_reducible rfl))
    try go_frame
    refine wpAnyH_take (i := 45) (oi := _) (v := ?_) (by simp only [List.getElem?_toArray, List.getElem?_cons_succ, List.getElem?_cons_zero]; rfl) (by kernel_rfl) (by kernel_rfl) (by kernel_rfl) (by intro _ _ _ h; exact h) (Or.inl ⟨by rfl, fun W hSw => ?_⟩) hHeld ?_
    rotate_left 1
    · (clear hSw; first | (go_simp; done) | (go_simp; with_reducible rfl))
    try go_frame
    refine wpAnyH_take (i := 46) (oi := _) (v := ?_) (by simp only [List.getElem?_toArray, List.getElem?_cons_succ, List.getElem?_cons_zero]; rfl) (by kernel_rfl) (by kernel_rfl) (by kernel_rfl) (by intro _ _ _ h; exact h) (Or.inl ⟨by rfl, fun W hSw => ?_⟩) hHeld ?_
    rotate_left 1
    · (clear hSw; first | (go_simp; done) | (go_simp; with_reducible rfl))
    try go_frame
    refine wpAnyH_take (i := 47) (oi := _) (v := ?_) (by simp only [List.getElem?_toArray, List.getElem?_cons_succ, List.getElem?_cons_zero]; rfl) (by kernel_rfl) (by kernel_rfl) (by kernel_rfl) (by intro _ _ _ h; exact h) (Or.inl ⟨by rfl, fun W hSw => ?_⟩) hHeld ?_
    rotate_left 1
    · (clear hSw; first | (go_simp; done) | (go_simp; with_reducible rfl))
    try go_frame
    refine wpAnyH_take (i := 48) (oi := _) (v := undef) (by simp only [List.getElem?_toArray, List.getElem?_cons_succ, List.getElem?_cons_zero]; rfl) (by kernel_rfl) (by kernel_rfl) (by kernel_rfl) (by intro _ _ _ h; exact h) (Or.inr ⟨by rfl, rfl⟩) hHeld ?_
    try go_frame
    refine wpAnyH_take (i := 49) (oi := _) (v := undef) (by simp only [List.getElem?_toArray, List.getElem?_cons_succ, List.getElem?_cons_zero]; rfl) (by kernel_rfl) (by kernel_rfl) (by kernel_rfl) (by intro _ _ _ h; exact h) (Or.inr ⟨by rfl, rfl⟩) hHeld ?_
    try go_frame
    refine wpAnyH_take (i := 50) (oi := _) (v := undef) (by simp only [List.getElem?_toArray, List.getElem?_cons_succ, List.getElem?_cons_zero]; rfl) (by kernel_rfl) (by kernel_rfl) (by kernel_rfl) (by intro _ _ _ h; exact h) (Or.inr ⟨by rfl, rfl⟩) hHeld ?_
    try go_frame
    refine wpAnyH_take (i := 51) (oi := _) (v := undef) (by simp only [List.getElem?_toArray, List.getElem?_cons_succ, List.getElem?_cons_zero]; rfl) (by kernel_rfl) (by kernel_rfl) (by kernel_rfl) (by intro _ _ _ h; exact h) (Or.inr ⟨by rfl, rfl⟩) hHeld ?_
    try go_frame
    refine wpAnyH_take (i := 52) (oi := _) (v := undef) (by simp only [List.getElem?_toArray, List.getElem?_cons_succ, List.getElem?_cons_zero]; rfl) (by kernel_rfl) (by kernel_rfl) (by kernel_rfl) (by intro _ _ _ h; exact h) (Or.inr ⟨by rfl, rfl⟩) hHeld ?_
    try go_frame
    refine wpAnyH_take (i := 53) (oi := _) (v := ?_) (by simp only [List.getElem?_toArray, List.getElem?_cons_succ, List.getElem?_cons_zero]; rfl) (by kernel_rfl) (by kernel_rfl) (by kernel_rfl) (by intro _ _ _ h; exact h) (Or.inl ⟨by rfl, fun W hSw => ?_⟩) hHeld ?_
    rotate_left 1
    · (clear hSw; first | (go_simp; done) | (go_simp; with_reducible rfl))
    try go_frame
    refine wpAnyH_take (i := 54) (oi := _) (v := ?_) (by simp only [List.getElem?_toArray, List.getElem?_cons_succ, List.getElem?_cons_zero]; rfl) (by kernel_rfl) (by kernel_rfl) (by kernel_rfl) (by intro _ _ _ h; exact h) (Or.inl ⟨by rfl, fun W hSw => ?_⟩) hHeld ?_
    rotate_left 1
    · (clear hSw; first | (go_simp; done) | (go_simp; with_reducible rfl))
    try go_frame
    refine wpAnyH_take (i := 55) (oi := _) (v := undef) (by simp only [List.getElem?_toArray, List.getElem?_cons_succ, List.getElem?_cons_zero]; rfl) (by kernel_rfl) (by kernel_rfl) (by kernel_rfl) (by intro _ _ _ h; exact h) (Or.inr ⟨by rfl, rfl⟩) hHeld ?_
    try go_frame
    refine wpAnyH_take (i := 56) (oi := _) (v := undef) (by simp only [List.getElem?_toArray, List.getElem?_cons_succ, List.getElem?_cons_zero]; rfl) (by kernel_rfl) (by kernel_rfl) (by kernel_rfl) (by intro _ _ _ h; exact h) (Or.inr ⟨by rfl, rfl⟩) hHeld ?_
    try go_frame
    refine wpAnyH_take (i := 57) (oi := _) (v := undef) (by simp only [List.getElem?_toArray, List.getElem?_cons_succ, List.getElem?_cons_zero]; rfl) (by kernel_rfl) (by kernel_rfl) (by kernel_rfl) (by intro _ _ _ h; exact h) (Or.inr ⟨by rfl, rfl⟩) hHeld ?_
    try go_frame
    refine wpAnyH_take (i := 58) (oi := _) (v := undef) (by simp only [List.getElem?_toArray, List.getElem?_cons_succ, List.getElem?_cons_zero]; rfl) (by kernel_rfl) (by kernel_rfl) (by kernel_rfl) (by intro _ _ _ h; exact h) (Or.inr ⟨by rfl, rfl⟩) hHeld ?_
    try go_frame
    refine wpAnyH_take (i := 59) (oi := _) (v := undef) (by simp only [List.getElem?_toArray, List.getElem?_cons_succ, List.getElem?_cons_zero]; rfl) (by kernel_rfl) (by kernel_rfl) (by kernel_rfl) (by intro _ _ _ h; exact h) (Or.inr ⟨by rfl, rfl⟩) hHeld ?_
    try go_frame
    refine wpAnyH_take (i := 60) (oi := _) (v := ?_) (by simp only [List.getElem?_toArray, List.getElem?_cons_succ, List.getElem?_cons_zero]; rfl) (by kernel_rfl) (by kernel_rfl) (by kernel_rfl) (by intro _ _ _ h; exact h) (Or.inl ⟨by rfl, fun W hSw => ?_⟩) hHeld ?_
    rotate_left 1
    · (clear hSw; first | (go_simp; done) | (go_simp; with_reducible rfl))
    try go_frame
    refine wpAnyH_take (i := 61) (oi := _) (v := ?_) (by simp only [List.getElem?_toArray, List.getElem?_cons_succ, List.getElem?_cons_zero]; rfl) (by kernel_rfl) (by kernel_rfl) (by kernel_rfl) (by intro _ _ _ h; exact h) (Or.inl ⟨by rfl, fun W hSw => ?_⟩) hHeld ?_
    rotate_left 1
    · (clear hSw; first | (go_simp; done) | (go_simp; with_reducible rfl))
    try go_frame
    refine wpAnyH_take (i := 62) (oi := _) (v := undef) (by simp only [List.getElem?_toArray, List.getElem?_cons_succ, List.getElem?_cons_zero]; rfl) (by kernel_rfl) (by kernel_rfl) (by kernel_rfl) (by intro _ _ _ h; exact h) (Or.inr ⟨by rfl, rfl⟩) hHeld ?_
    try go_frame
    refine wpAnyH_take (i := 63) (oi := _) (v := undef) (by simp only [List.getElem?_toArray, List.getElem?_cons_succ, List.getElem?_cons_zero]; rfl) (by kernel_rfl) (by kernel_rfl) (by kernel_rfl) (by intro _ _ _ h; exact h) (Or.inr ⟨by rfl, rfl⟩) hHeld ?_
    try go_frame
    refine wpAnyH_take (i := 64) (oi := _) (v := undef) (by simp only [List.getElem?_toArray, List.getElem?_cons_succ, List.getElem?_cons_zero]; rfl) (by kernel_rfl) (by kernel_rfl) (by kernel_rfl) (by intro _ _ _ h; exact h) (Or.inr ⟨by rfl, rfl⟩) hHeld ?_
    try go_frame
    refine wpAnyH_take (i := 65) (oi := _) (v := undef) (by simp only [List.getElem?_toArray, List.getElem?_cons_succ, List.getElem?_cons_zero]; rfl) (by kernel_rfl) (by kernel_rfl) (by kernel_rfl) (by intro _ _ _ h; exact h) (Or.inr ⟨by rfl, rfl⟩) hHeld ?_
    try go_frame
    refine wpAnyH_take (i := 66) (oi := _) (v := ?_) (by simp only [List.getElem?_toArray, List.getElem?_cons_succ, List.getElem?_cons_zero]; rfl) (by kernel_rfl) (by kernel_rfl) (by kernel_rfl) (by intro _ _ _ h; exact h) (Or.inl ⟨by rfl, fun W hSw => ?_⟩) hHeld ?_
    rotate_left 1
    · (clear hSw; first | (go_simp; done) | (go_simp; with_reducible rfl))
    try go_frame
    refine wpAnyH_take (i := 67) (oi := _) (v := ?_) (by simp only [List.getElem?_toArray, List.getElem?_cons_succ, List.getElem?_cons_zero]; rfl) (by kernel_rfl) (by kernel_rfl) (by kernel_rfl) (by intro _ _ _ h; exact h) (Or.inl ⟨by rfl, fun W hSw => ?_⟩) hHeld ?_
    rotate_left 1
    · (clear hSw; first | (go_simp; done) | (go_simp; with_reducible rfl))
    try go_frame
    refine wpAnyH_take (i := 68) (oi := _) (v := ?_) (by simp only [List.getElem?_toArray, List.getElem?_cons_succ, List.getElem?_cons_zero]; rfl) (by kernel_rfl) (by kernel_rfl) (by kernel_rfl) (by intro _ _ _ h; exact h) (Or.inl ⟨by rfl, fun W hSw => ?_⟩) hHeld ?_
    rotate_left 1
    · (clear hSw; first | (go_simp; done) | (go_simp; with_reducible rfl))
    try go_frame
    refine wpAnyH_done (by kernel_rfl) ?_ _
    go_wp2_with fail
    go_ret
    exact ⟨rfl, HB2.out.trans (HS.out.2.2.mono HB2.out.size)⟩
end Go.Proofs.Ytdjciahaohfohaa.R
