/- Texts that the proof is made of, joined. No condition. -/
import Derived.Test.YtdjciahaohfohaaC11JFitsF
import Derived.Deep.DeepCutAuto
import Derived.Deep.CutBlock
import Derived.Test.YtdjciahaohfohaaC11H
set_option linter.unusedVariables false
set_option linter.unusedSimpArgs false
set_option maxRecDepth 100000
set_option maxHeartbeats 16000000
namespace Go.Proofs.Ytdjciahaohfohaa.R
open Go.RowKit Go.Proofs.Ytdjciahaohfohaa.D Go.Proofs.Ytdjciahaohfohaa.O Go.Proofs.Ytdjciahaohfohaa.A
set_option maxHeartbeats 8000000 in
set_option maxRecDepth 100000 in
theorem fits_p7 (k0 k1 k2 k3 x y z : Nat) (w : World) (h0 : k0 < 256) (h1 : k1 < 256) (h2 : k2 < 256) (h3 : k3 < 256) (hx : x < 256) (hy : y < 256) (hz : z < 256) (p_ab : fitsT (tabT (bitS k0 3) (bitS k0 6) (bitS k2 2)) (ofJ x ⟨#[65]⟩) (ofJ y ⟨#[65]⟩) = true) (p_bc : fitsT (tabT (bitS k0 3) (bitS k0 6) (bitS k2 2)) (ofJ y ⟨#[65]⟩) (ofJ z ⟨#[65]⟩) = true) (p_ac : fitsT (tabT (bitS k0 3) (bitS k0 6) (bitS k2 2)) (ofJ x ⟨#[65]⟩) (ofJ z ⟨#[65]⟩) = true) (p_ra : refB (ofJ x ⟨#[65]⟩) = false) :
    Calls Try.prog 7 #[.agg #[.int .u8 (k0 : Int), .int .u8 (k1 : Int), .int .u8 (k2 : Int), .int .u8 (k3 : Int)], .int .u8 (x : Int), .int .u8 (y : Int), .int .u8 (z : Int)] w fun e w' => e = .returned (.bool true) ∧ Below w.heap.size w w' := by
  obtain ⟨w0, hw0⟩ : ∃ x, x = w.alloc (.cells #[.int .u8 (k0 : Int), .int .u8 (k1 : Int), .int .u8 (k2 : Int), .int .u8 (k3 : Int)] 22) := ⟨_, rfl⟩
  have HB0 : Hid (Below w.heap.size w w0) := Lib.hid (by rw [hw0]; exact below_alR _ _)
  have HX0 : Hid (w0.heap[w.heap.size]? = some (.cells #[.int .u8 (k0 : Int), .int .u8 (k1 : Int), .int .u8 (k2 : Int), .int .u8 (k3 : Int)] 22 (0, 0))) := Lib.hid (by rw [hw0]; exact heap_alloc_new _ _)
  go_enter Try.func7, Try.ntmps7
  try simp only [List.append_eq, List.cons_append, List.nil_append]
  go_wp2_with fail
  rw [← hw0]
  clear hw0
  obtain ⟨kb, hkb⟩ : ∃ x, w.heap.size = x := ⟨_, rfl⟩
  rw [hkb] at HX0 ⊢
  have HKB := Lib.hid hkb
  clear hkb
  refine (known_11 w0).mono ?_
  rintro e w1 ⟨rfl, hb1⟩
  have hX1 := (hb1.block _ (Array.getElem?_eq_some_iff.1 HX0.out).1).trans HX0.out
  have HB1 := Lib.hid (HB0.out.trans (hb1.mono HB0.out.size))
  obtain ⟨xl, xc, -⟩ := boxN hX1
  have x0 := xc 0 _ rfl
  have x1 := xc 1 _ rfl
  have x2 := xc 2 _ rfl
  have x3 := xc 3 _ rfl
  simp only [Nat.zero_add] at x0 x1 x2 x3
  clear hb1 hX1 HX0 HB0 xc
  go_wp2_with fail
  refine (archive_0 k0 k1 k2 k3 w1 h0 h1 h2 h3).mono ?_
  rintro e w2 ⟨p1, n1, c1, rfl, hr1, hb2⟩
  obtain ⟨_, _, e1, -⟩ := hr1.len
  simp only [Value.slice.injEq] at e1
  obtain ⟨rfl, rfl, rfl⟩ := e1
  have HR1 := Lib.hid hr1
  have HB2 := Lib.hid (HB1.out.trans (hb2.mono HB1.out.size))
  clear hr1 hb2 HB1 x0 x1 x2 x3 xl HKB
  go_wp2_with fail
  refine (seat_tree k0 k1 k2 k3 w2 _ _ _ HR1.out).mono ?_
  rintro e w3 ⟨tb, mb, vs, ok, K, rfl, hk3, hs3⟩
  have HS := Lib.hid hs3
  obtain ⟨T, hT⟩ : ∃ t, (tabT (bitS k0 3) (bitS k0 6) (bitS k2 2)) = t := ⟨_, rfl⟩
  rw [hT] at hk3
  have HK := Lib.hid hk3
  clear hk3 hs3 HR1
  obtain ⟨a, ha⟩ : ∃ t, ofJ x ⟨#[65]⟩ = t := ⟨_, rfl⟩
  have ia := (of_ix (s := ⟨#[65]⟩) (sx := 7) rfl x).1
  rw [ha] at ia
  obtain ⟨b, hb⟩ : ∃ t, ofJ y ⟨#[65]⟩ = t := ⟨_, rfl⟩
  have ib := (of_ix (s := ⟨#[65]⟩) (sx := 7) rfl y).1
  rw [hb] at ib
  obtain ⟨c, hc⟩ : ∃ t, ofJ z ⟨#[65]⟩ = t := ⟨_, rfl⟩
  have ic := (of_ix (s := ⟨#[65]⟩) (sx := 7) rfl z).1
  rw [hc] at ic
  have ZA := Lib.hid (sz_at ia)
  have ZB := Lib.hid (sz_at ib)
  have ZC := Lib.hid (sz_at ic)
  have hv := fits_facts (bitS k0 3) (bitS k0 6) (bitS k2 2) ia ib ic
  rw [hT] at hv
  rw [hT, ha, hb] at p_ab
  have s_ab : fitsT T (a.1, a.2) (b.1, b.2) = _ := p_ab
  clear p_ab
  rw [hT, hb, hc] at p_bc
  have s_bc : fitsT T (b.1, b.2) (c.1, c.2) = _ := p_bc
  clear p_bc
  rw [hT, ha, hc] at p_ac
  have s_ac : fitsT T (a.1, a.2) (c.1, c.2) = _ := p_ac
  clear p_ac
  rw [ha] at p_ra
  have r_a : refB (a.1, a.2) = _ := p_ra
  clear p_ra
  obtain ⟨-, f_aa, f_at, f_ta, f_j, -, htop⟩ := hv
  obtain ⟨ta, hta⟩ : ∃ r, decide (a ≠ topT) = r := ⟨_, rfl⟩
  rw [hta] at f_aa
  have s_aa : fitsT T (a.1, a.2) (a.1, a.2) = ta := f_aa
  have s_at : fitsT T (a.1, a.2) (7, ⟨#[]⟩) = false := f_at
  have s_ta : fitsT T (7, ⟨#[]⟩) (a.1, a.2) = false := f_ta
  have j_at : joinT T (a.1, a.2) (7, ⟨#[]⟩) = (7, ⟨#[]⟩) := f_j
  have hIF : ∀ W : World, (if a.1 = 7 then if a.2.toList = [] then Result.ok (Next.value (Value.bool false)) W else Result.ok (Next.value (Value.bool true)) W else Result.ok (Next.value (Value.bool true)) W) = Result.ok (Next.value (Value.bool ta)) W := fun W => by
    rw [← hta]
    by_cases h : a = topT
    · rw [if_pos (by rw [h]; rfl), if_pos (by rw [h]; decide +kernel), decide_eq_false (fun k => k h)]
    · have h7 : ¬ a.1 = 7 := by have := htop.resolve_left h; simpa using this
      rw [if_neg h7, decide_eq_true h]
  have HIF := Lib.hid hIF
  clear ia ib ic f_aa f_at f_ta f_j htop hta hT hIF
  go_upto_region 4 with fail
  go_upto_region 6 with (go_at_call 11; refine (of_y _ ⟨#[65]⟩ _ (by assumption)).mono ?_; (first | rw [ha] | rw [hb] | rw [hc]); rw [tyv_eta]; rintro e wn ⟨rfl, hbn⟩; replace HS := Lib.hid (HS.out.below hbn); clear hbn)
  obtain ⟨wj, hwj⟩ : ∃ x, x = ((((wn.alloc (.cells #[.int .i64 a.1, .string a.2] 24)).alloc (.cells #[.int .i64 b.1, .string b.2] 24)).alloc (.cells #[.int .i64 c.1, .string c.2] 24)).alloc (.cells #[.int .i64 7, .string ⟨#[]⟩] 24)) := ⟨_, rfl⟩
  have hsj : StJ w2 wj ok tb mb vs K [(wn.heap.size + 3, (7, ⟨#[]⟩)), (wn.heap.size + 2, c), (wn.heap.size + 1, b), (wn.heap.size, a)] := by
    rw [hwj]
    have := ((((HS.out.box a).box b).box c).box (7, ⟨#[]⟩))
    simp only [World.size_alloc] at this
    exact this
  rw [← hwj]
  clear hwj
  obtain ⟨g, hg⟩ : ∃ z, wn.heap.size = z := ⟨_, rfl⟩
  rw [hg] at hsj ⊢
  replace HS := Lib.hid hsj
  clear hg hsj
  replace HS := Lib.hid (HS.out.below (Below.refl wj.heap.size wj).drew)
  clear ha hb hc
  refine wp_region_held_drew (S := fun W => ((g) < W.heap.size ∧ W.cell? ⟨g, 0, none⟩ = some (.int .i64 a.1) ∧ W.cell? ⟨g, 1, none⟩ = some (.string a.2)) ∧ ((g + 1) < W.heap.size ∧ W.cell? ⟨g + 1, 0, none⟩ = some (.int .i64 b.1) ∧ W.cell? ⟨g + 1, 1, none⟩ = some (.string b.2)) ∧ ((g + 2) < W.heap.size ∧ W.cell? ⟨g + 2, 0, none⟩ = some (.int .i64 c.1) ∧ W.cell? ⟨g + 2, 1, none⟩ = some (.string c.2)) ∧ ((g + 3) < W.heap.size ∧ W.cell? ⟨g + 3, 0, none⟩ = some (.int .i64 7) ∧ W.cell? ⟨g + 3, 1, none⟩ = some (.string ⟨#[]⟩))) (by kernel_rfl) ⟨HS.out.cell (g := g) (a := a) (by simp), HS.out.cell (g := g + 1) (a := b) (by simp), HS.out.cell (g := g + 2) (a := c) (by simp), HS.out.cell (g := g + 3) (a := (7, ⟨#[]⟩)) (by simp)⟩ (fun hHeld => ?_)
  refine wpAnyH_take (i := 0) (oi := _) (v := ?_) (by simp only [List.getElem?_toArray, List.getElem?_cons_zero]; rfl) (by kernel_rfl) (by kernel_rfl) (by kernel_rfl) (by intro _ _ _ h; exact h) (Or.inl ⟨by rfl, fun W hSw => ?_⟩) hHeld ?_
  rotate_left 1
  · (clear hSw; first | (go_simp; done) | (go_simp; with_reducible rfl) | (go_simp; exact HIF.out W))
  try go_frame
  refine wpAnyH_take (i := 1) (oi := _) (v := ?_) (by simp only [List.getElem?_toArray, List.getElem?_cons_succ, List.getElem?_cons_zero]; rfl) (by kernel_rfl) (by kernel_rfl) (by kernel_rfl) (by intro _ _ _ h; exact h) (Or.inl ⟨by rfl, fun W hSw => ?_⟩) hHeld ?_
  rotate_left 1
  · (try dsimp only at hSw); first | (go_simp; done) | (go_simp; with_reducible rfl)
  try go_frame
  refine wpAnyH_take (i := 2) (oi := _) (v := ?_) (by simp only [List.getElem?_toArray, List.getElem?_cons_succ, List.getElem?_cons_zero]; rfl) (by kernel_rfl) (by kernel_rfl) (by kernel_rfl) (by intro _ _ _ h; exact h) (Or.inl ⟨by rfl, fun W hSw => ?_⟩) hHeld ?_
  rotate_left 1
  · (try dsimp only at hSw); first | (go_simp; done) | (go_simp; with_reducible rfl)
  try go_frame
  refine wpAnyH_ready (rs := [3]) (by kernel_rfl) (by simp) ?_
  refine AllReadyH.cons (o := _) (by simp only [List.getElem?_toArray, List.getElem?_cons_succ, List.getElem?_cons_zero]; rfl) (fun KX hKX => ?_) AllReadyH.nil
  clear hHeld
  go_simp
  refine (fits_c HS.out HK.out (by first | exact ZA.out | exact ZB.out | exact ZC.out | exact sz_small (by decide)) (by first | exact ZA.out | exact ZB.out | exact ZC.out | exact sz_small (by decide))).mono ?_
  (first | rw [s_ab] | rw [s_bc] | rw [s_ac] | rw [s_aa] | rw [s_at] | rw [s_ta])
  rintro e wn ⟨rfl, hbn⟩
  replace HS := Lib.hid (HS.out.below hbn)
  clear hbn
  refine hKX.out _ _ ⟨HS.out.cell (g := g) (a := a) (by simp), HS.out.cell (g := g + 1) (a := b) (by simp), HS.out.cell (g := g + 2) (a := c) (by simp), HS.out.cell (g := g + 3) (a := (7, ⟨#[]⟩)) (by simp)⟩ (fun hHeld => ?_)
  clear hKX KX
  try go_frame
  refine wpAnyH_take (i := 4) (oi := _) (v := ?_) (by simp only [List.getElem?_toArray, List.getElem?_cons_succ, List.getElem?_cons_zero]; rfl) (by kernel_rfl) (by kernel_rfl) (by kernel_rfl) (by intro _ _ _ h; exact h) (Or.inl ⟨by rfl, fun W hSw => ?_⟩) hHeld ?_
  rotate_left 1
  · (clear hSw; first | (go_simp; done) | (go_simp; with_reducible rfl) | (go_simp; exact HIF.out W))
  try go_frame
  refine wpAnyH_take (i := 5) (oi := _) (v := ?_) (by simp only [List.getElem?_toArray, List.getElem?_cons_succ, List.getElem?_cons_zero]; rfl) (by kernel_rfl) (by kernel_rfl) (by kernel_rfl) (by intro _ _ _ h; exact h) (Or.inl ⟨by rfl, fun W hSw => ?_⟩) hHeld ?_
  rotate_left 1
  · (clear hSw; first | (go_simp; done) | (go_simp; with_reducible rfl) | (go_simp; exact HIF.out W))
  try go_frame
  refine wpAnyH_take (i := 6) (oi := _) (v := ?_) (by simp only [List.getElem?_toArray, List.getElem?_cons_succ, List.getElem?_cons_zero]; rfl) (by kernel_rfl) (by kernel_rfl) (by kernel_rfl) (by intro _ _ _ h; exact h) (Or.inl ⟨by rfl, fun W hSw => ?_⟩) hHeld ?_
  rotate_left 1
  · (clear hSw; first | (go_simp; done) | (go_simp; with_reducible rfl) | (go_simp; exact HIF.out W))
  try go_frame
  refine wpAnyH_take (i := 7) (oi := _) (v := ?_) (by simp only [List.getElem?_toArray, List.getElem?_cons_succ, List.getElem?_cons_zero]; rfl) (by kernel_rfl) (by kernel_rfl) (by kernel_rfl) (by intro _ _ _ h; exact h) (Or.inl ⟨by rfl, fun W hSw => ?_⟩) hHeld ?_
  rotate_left 1
  · (try dsimp only at hSw); first | (go_simp; done) | (go_simp; with_reducible rfl)
  try go_frame
  refine wpAnyH_take (i := 8) (oi := _) (v := ?_) (by simp only [List.getElem?_toArray, List.getElem?_cons_succ, List.getElem?_cons_zero]; rfl) (by kernel_rfl) (by kernel_rfl) (by kernel_rfl) (by intro _ _ _ h; exact h) (Or.inl ⟨by rfl, fun W hSw => ?_⟩) hHeld ?_
  rotate_left 1
  · (try dsimp only at hSw); first | (go_simp; done) | (go_simp; with_reducible rfl)
  try go_frame
  refine wpAnyH_ready (rs := [9]) (by kernel_rfl) (by simp) ?_
  refine AllReadyH.cons (o := _) (by simp only [List.getElem?_toArray, List.getElem?_cons_succ, List.getElem?_cons_zero]; rfl) (fun KX hKX => ?_) AllReadyH.nil
  clear hHeld
  go_simp
  refine (fits_c HS.out HK.out (by first | exact ZA.out | exact ZB.out | exact ZC.out | exact sz_small (by decide)) (by first | exact ZA.out | exact ZB.out | exact ZC.out | exact sz_small (by decide))).mono ?_
  (first | rw [s_ab] | rw [s_bc] | rw [s_ac] | rw [s_aa] | rw [s_at] | rw [s_ta])
  rintro e wn ⟨rfl, hbn⟩
  replace HS := Lib.hid (HS.out.below hbn)
  clear hbn
  refine hKX.out _ _ ⟨HS.out.cell (g := g) (a := a) (by simp), HS.out.cell (g := g + 1) (a := b) (by simp), HS.out.cell (g := g + 2) (a := c) (by simp), HS.out.cell (g := g + 3) (a := (7, ⟨#[]⟩)) (by simp)⟩ (fun hHeld => ?_)
  clear hKX KX
  try go_frame
  refine wpAnyH_take (i := 10) (oi := _) (v := ?_) (by simp only [List.getElem?_toArray, List.getElem?_cons_succ, List.getElem?_cons_zero]; rfl) (by kernel_rfl) (by kernel_rfl) (by kernel_rfl) (by intro _ _ _ h; exact h) (Or.inl ⟨by rfl, fun W hSw => ?_⟩) hHeld ?_
  rotate_left 1
  · (clear hSw; first | (go_simp; done) | (go_simp; with_reducible rfl) | (go_simp; exact HIF.out W))
  try go_frame
  refine wpAnyH_take (i := 11) (oi := _) (v := ?_) (by simp only [List.getElem?_toArray, List.getElem?_cons_succ, List.getElem?_cons_zero]; rfl) (by kernel_rfl) (by kernel_rfl) (by kernel_rfl) (by intro _ _ _ h; exact h) (Or.inl ⟨by rfl, fun W hSw => ?_⟩) hHeld ?_
  rotate_left 1
  · (clear hSw; first | (go_simp; done) | (go_simp; with_reducible rfl) | (go_simp; exact HIF.out W))
  try go_frame
  refine wpAnyH_take (i := 12) (oi := _) (v := ?_) (by simp only [List.getElem?_toArray, List.getElem?_cons_succ, List.getElem?_cons_zero]; rfl) (by kernel_rfl) (by kernel_rfl) (by kernel_rfl) (by intro _ _ _ h; exact h) (Or.inl ⟨by rfl, fun W hSw => ?_⟩) hHeld ?_
  rotate_left 1
  · (clear hSw; first | (go_simp; done) | (go_simp; with_reducible rfl) | (go_simp; exact HIF.out W))
  try go_frame
  refine wpAnyH_take (i := 13) (oi := _) (v := ?_) (by simp only [List.getElem?_toArray, List.getElem?_cons_succ, List.getElem?_cons_zero]; rfl) (by kernel_rfl) (by kernel_rfl) (by kernel_rfl) (by intro _ _ _ h; exact h) (Or.inl ⟨by rfl, fun W hSw => ?_⟩) hHeld ?_
  rotate_left 1
  · (clear hSw; first | (go_simp; done) | (go_simp; with_reducible rfl) | (go_simp; exact HIF.out W))
  try go_frame
  refine wpAnyH_take (i := 14) (oi := _) (v := ?_) (by simp only [List.getElem?_toArray, List.getElem?_cons_succ, List.getElem?_cons_zero]; rfl) (by kernel_rfl) (by kernel_rfl) (by kernel_rfl) (by intro _ _ _ h; exact h) (Or.inl ⟨by rfl, fun W hSw => ?_⟩) hHeld ?_
  rotate_left 1
  · (try dsimp only at hSw); first | (go_simp; done) | (go_simp; with_reducible rfl)
  try go_frame
  refine wpAnyH_take (i := 15) (oi := _) (v := ?_) (by simp only [List.getElem?_toArray, List.getElem?_cons_succ, List.getElem?_cons_zero]; rfl) (by kernel_rfl) (by kernel_rfl) (by kernel_rfl) (by intro _ _ _ h; exact h) (Or.inl ⟨by rfl, fun W hSw => ?_⟩) hHeld ?_
  rotate_left 1
  · (try dsimp only at hSw); first | (go_simp; done) | (go_simp; with_reducible rfl)
  try go_frame
  refine wpAnyH_ready (rs := [16]) (by kernel_rfl) (by simp) ?_
  refine AllReadyH.cons (o := _) (by simp only [List.getElem?_toArray, List.getElem?_cons_succ, List.getElem?_cons_zero]; rfl) (fun KX hKX => ?_) AllReadyH.nil
  clear hHeld
  go_simp
  refine (fits_c HS.out HK.out (by first | exact ZA.out | exact ZB.out | exact ZC.out | exact sz_small (by decide)) (by first | exact ZA.out | exact ZB.out | exact ZC.out | exact sz_small (by decide))).mono ?_
  (first | rw [s_ab] | rw [s_bc] | rw [s_ac] | rw [s_aa] | rw [s_at] | rw [s_ta])
  rintro e wn ⟨rfl, hbn⟩
  replace HS := Lib.hid (HS.out.below hbn)
  clear hbn
  refine hKX.out _ _ ⟨HS.out.cell (g := g) (a := a) (by simp), HS.out.cell (g := g + 1) (a := b) (by simp), HS.out.cell (g := g + 2) (a := c) (by simp), HS.out.cell (g := g + 3) (a := (7, ⟨#[]⟩)) (by simp)⟩ (fun hHeld => ?_)
  clear hKX KX
  try go_frame
  refine wpAnyH_take (i := 17) (oi := _) (v := ?_) (by simp only [List.getElem?_toArray, List.getElem?_cons_succ, List.getElem?_cons_zero]; rfl) (by kernel_rfl) (by kernel_rfl) (by kernel_rfl) (by intro _ _ _ h; exact h) (Or.inl ⟨by rfl, fun W hSw => ?_⟩) hHeld ?_
  rotate_left 1
  · (clear hSw; first | (go_simp; done) | (go_simp; with_reducible rfl) | (go_simp; exact HIF.out W))
  try go_frame
  refine wpAnyH_take (i := 18) (oi := _) (v := ?_) (by simp only [List.getElem?_toArray, List.getElem?_cons_succ, List.getElem?_cons_zero]; rfl) (by kernel_rfl) (by kernel_rfl) (by kernel_rfl) (by intro _ _ _ h; exact h) (Or.inl ⟨by rfl, fun W hSw => ?_⟩) hHeld ?_
  rotate_left 1
  · (clear hSw; first | (go_simp; done) | (go_simp; with_reducible rfl) | (go_simp; exact HIF.out W))
  try go_frame
  refine wpAnyH_take (i := 19) (oi := _) (v := ?_) (by simp only [List.getElem?_toArray, List.getElem?_cons_succ, List.getElem?_cons_zero]; rfl) (by kernel_rfl) (by kernel_rfl) (by kernel_rfl) (by intro _ _ _ h; exact h) (Or.inl ⟨by rfl, fun W hSw => ?_⟩) hHeld ?_
  rotate_left 1
  · (clear hSw; first | (go_simp; done) | (go_simp; with_reducible rfl) | (go_simp; exact HIF.out W))
  try go_frame
  refine wpAnyH_take (i := 20) (oi := _) (v := ?_) (by simp only [List.getElem?_toArray, List.getElem?_cons_succ, List.getElem?_cons_zero]; rfl) (by kernel_rfl) (by kernel_rfl) (by kernel_rfl) (by intro _ _ _ h; exact h) (Or.inl ⟨by rfl, fun W hSw => ?_⟩) hHeld ?_
  rotate_left 1
  · (try dsimp only at hSw); first | (go_simp; done) | (go_simp; with_reducible rfl)
  try go_frame
  refine wpAnyH_take (i := 21) (oi := _) (v := ?_) (by simp only [List.getElem?_toArray, List.getElem?_cons_succ, List.getElem?_cons_zero]; rfl) (by kernel_rfl) (by kernel_rfl) (by kernel_rfl) (by intro _ _ _ h; exact h) (Or.inl ⟨by rfl, fun W hSw => ?_⟩) hHeld ?_
  rotate_left 1
  · (try dsimp only at hSw); first | (go_simp; done) | (go_simp; with_reducible rfl)
  try go_frame
  refine wpAnyH_take (i := 23) (oi := _) (v := ?_) (by simp only [List.getElem?_toArray, List.getElem?_cons_succ, List.getElem?_cons_zero]; rfl) (by kernel_rfl) (by kernel_rfl) (by kernel_rfl) (by intro _ _ _ h; exact h) (Or.inl ⟨by rfl, fun W hSw => ?_⟩) hHeld ?_
  rotate_left 1
  · (try dsimp only at hSw); first | (go_simp; done) | (go_simp; with_reducible rfl)
  try go_frame
  refine wpAnyH_take (i := 24) (oi := _) (v := ?_) (by simp only [List.getElem?_toArray, List.getElem?_cons_succ, List.getElem?_cons_zero]; rfl) (by kernel_rfl) (by kernel_rfl) (by kernel_rfl) (by intro _ _ _ h; exact h) (Or.inl ⟨by rfl, fun W hSw => ?_⟩) hHeld ?_
  rotate_left 1
  · (try dsimp only at hSw); first | (go_simp; done) | (go_simp; with_reducible rfl)
  try go_frame
  refine wpAnyH_take (i := 25) (oi := _) (v := ?_) (by simp only [List.getElem?_toArray, List.getElem?_cons_succ, List.getElem?_cons_zero]; rfl) (by kernel_rfl) (by kernel_rfl) (by kernel_rfl) (by intro _ _ _ h; exact h) (Or.inl ⟨by rfl, fun W hSw => ?_⟩) hHeld ?_
  rotate_left 1
  · (clear hSw; first | (go_simp; done) | (go_simp; with_reducible rfl) | (go_simp; exact HIF.out W))
  try go_frame
  refine wpAnyH_ready (rs := [22]) (by kernel_rfl) (by simp) ?_
  refine AllReadyH.cons (o := _) (by simp only [List.getElem?_toArray, List.getElem?_cons_succ, List.getElem?_cons_zero]; rfl) (fun KX hKX => ?_) AllReadyH.nil
  clear hHeld
  go_simp
  refine (fits_c HS.out HK.out (by first | exact ZA.out | exact ZB.out | exact ZC.out | exact sz_small (by decide)) (by first | exact ZA.out | exact ZB.out | exact ZC.out | exact sz_small (by decide))).mono ?_
  (first | rw [s_ab] | rw [s_bc] | rw [s_ac] | rw [s_aa] | rw [s_at] | rw [s_ta])
  rintro e wn ⟨rfl, hbn⟩
  replace HS := Lib.hid (HS.out.below hbn)
  clear hbn
  refine hKX.out _ _ ⟨HS.out.cell (g := g) (a := a) (by simp), HS.out.cell (g := g + 1) (a := b) (by simp), HS.out.cell (g := g + 2) (a := c) (by simp), HS.out.cell (g := g + 3) (a := (7, ⟨#[]⟩)) (by simp)⟩ (fun hHeld => ?_)
  clear hKX KX
  try go_frame
  refine wpAnyH_take (i := 26) (oi := _) (v := ?_) (by simp only [List.getElem?_toArray, List.getElem?_cons_succ, List.getElem?_cons_zero]; rfl) (by kernel_rfl) (by kernel_rfl) (by kernel_rfl) (by intro _ _ _ h; exact h) (Or.inl ⟨by rfl, fun W hSw => ?_⟩) hHeld ?_
  rotate_left 1
  · (clear hSw; first | (go_simp; done) | (go_simp; with_reducible rfl) | (go_simp; exact HIF.out W))
  try go_frame
  refine wpAnyH_take (i := 27) (oi := _) (v := ?_) (by simp only [List.getElem?_toArray, List.getElem?_cons_succ, List.getElem?_cons_zero]; rfl) (by kernel_rfl) (by kernel_rfl) (by kernel_rfl) (by intro _ _ _ h; exact h) (Or.inl ⟨by rfl, fun W hSw => ?_⟩) hHeld ?_
  rotate_left 1
  · (clear hSw; first | (go_simp; done) | (go_simp; with_reducible rfl) | (go_simp; exact HIF.out W))
  try go_frame
  refine wpAnyH_take (i := 28) (oi := _) (v := ?_) (by simp only [List.getElem?_toArray, List.getElem?_cons_succ, List.getElem?_cons_zero]; rfl) (by kernel_rfl) (by kernel_rfl) (by kernel_rfl) (by intro _ _ _ h; exact h) (Or.inl ⟨by rfl, fun W hSw => ?_⟩) hHeld ?_
  rotate_left 1
  · (clear hSw; first | (go_simp; done) | (go_simp; with_reducible rfl) | (go_simp; exact HIF.out W))
  try go_frame
  refine wpAnyH_take (i := 29) (oi := _) (v := ?_) (by simp only [List.getElem?_toArray, List.getElem?_cons_succ, List.getElem?_cons_zero]; rfl) (by kernel_rfl) (by kernel_rfl) (by kernel_rfl) (by intro _ _ _ h; exact h) (Or.inl ⟨by rfl, fun W hSw => ?_⟩) hHeld ?_
  rotate_left 1
  · (clear hSw; first | (go_simp; done) | (go_simp; with_reducible rfl) | (go_simp; exact HIF.out W))
  try go_frame
  refine wpAnyH_take (i := 30) (oi := _) (v := ?_) (by simp only [List.getElem?_toArray, List.getElem?_cons_succ, List.getElem?_cons_zero]; rfl) (by kernel_rfl) (by kernel_rfl) (by kernel_rfl) (by intro _ _ _ h; exact h) (Or.inl ⟨by rfl, fun W hSw => ?_⟩) hHeld ?_
  rotate_left 1
  · (try dsimp only at hSw); first | (go_simp; done) | (go_simp; with_reducible rfl)
  try go_frame
  refine wpAnyH_take (i := 31) (oi := _) (v := ?_) (by simp only [List.getElem?_toArray, List.getElem?_cons_succ, List.getElem?_cons_zero]; rfl) (by kernel_rfl) (by kernel_rfl) (by kernel_rfl) (by intro _ _ _ h; exact h) (Or.inl ⟨by rfl, fun W hSw => ?_⟩) hHeld ?_
  rotate_left 1
  · (try dsimp only at hSw); first | (go_simp; done) | (go_simp; with_reducible rfl)
  try go_frame
  refine wpAnyH_ready (rs := [32]) (by kernel_rfl) (by simp) ?_
  refine AllReadyH.cons (o := _) (by simp only [List.getElem?_toArray, List.getElem?_cons_succ, List.getElem?_cons_zero]; rfl) (fun KX hKX => ?_) AllReadyH.nil
  clear hHeld
  go_simp
  refine (fits_c HS.out HK.out (by first | exact ZA.out | exact ZB.out | exact ZC.out | exact sz_small (by decide)) (by first | exact ZA.out | exact ZB.out | exact ZC.out | exact sz_small (by decide))).mono ?_
  (first | rw [s_ab] | rw [s_bc] | rw [s_ac] | rw [s_aa] | rw [s_at] | rw [s_ta])
  rintro e wn ⟨rfl, hbn⟩
  replace HS := Lib.hid (HS.out.below hbn)
  clear hbn
  refine hKX.out _ _ ⟨HS.out.cell (g := g) (a := a) (by simp), HS.out.cell (g := g + 1) (a := b) (by simp), HS.out.cell (g := g + 2) (a := c) (by simp), HS.out.cell (g := g + 3) (a := (7, ⟨#[]⟩)) (by simp)⟩ (fun hHeld => ?_)
  clear hKX KX
  try go_frame
  refine wpAnyH_take (i := 33) (oi := _) (v := ?_) (by simp only [List.getElem?_toArray, List.getElem?_cons_succ, List.getElem?_cons_zero]; rfl) (by kernel_rfl) (by kernel_rfl) (by kernel_rfl) (by intro _ _ _ h; exact h) (Or.inl ⟨by rfl, fun W hSw => ?_⟩) hHeld ?_
  rotate_left 1
  · (clear hSw; first | (go_simp; done) | (go_simp; with_reducible rfl) | (go_simp; exact HIF.out W))
  try go_frame
  refine wpAnyH_take (i := 34) (oi := _) (v := ?_) (by simp only [List.getElem?_toArray, List.getElem?_cons_succ, List.getElem?_cons_zero]; rfl) (by kernel_rfl) (by kernel_rfl) (by kernel_rfl) (by intro _ _ _ h; exact h) (Or.inl ⟨by rfl, fun W hSw => ?_⟩) hHeld ?_
  rotate_left 1
  · (clear hSw; first | (go_simp; done) | (go_simp; with_reducible rfl) | (go_simp; exact HIF.out W))
  try go_frame
  refine wpAnyH_take (i := 35) (oi := _) (v := ?_) (by simp only [List.getElem?_toArray, List.getElem?_cons_succ, List.getElem?_cons_zero]; rfl) (by kernel_rfl) (by kernel_rfl) (by kernel_rfl) (by intro _ _ _ h; exact h) (Or.inl ⟨by rfl, fun W hSw => ?_⟩) hHeld ?_
  rotate_left 1
  · (clear hSw; first | (go_simp; done) | (go_simp; with_reducible rfl) | (go_simp; exact HIF.out W))
  try go_frame
  refine wpAnyH_take (i := 36) (oi := _) (v := ?_) (by simp only [List.getElem?_toArray, List.getElem?_cons_succ, List.getElem?_cons_zero]; rfl) (by kernel_rfl) (by kernel_rfl) (by kernel_rfl) (by intro _ _ _ h; exact h) (Or.inl ⟨by rfl, fun W hSw => ?_⟩) hHeld ?_
  rotate_left 1
  · (clear hSw; first | (go_simp; done) | (go_simp; with_reducible rfl) | (go_simp; exact HIF.out W))
  try go_frame
  refine wpAnyH_take (i := 37) (oi := _) (v := ?_) (by simp only [List.getElem?_toArray, List.getElem?_cons_succ, List.getElem?_cons_zero]; rfl) (by kernel_rfl) (by kernel_rfl) (by kernel_rfl) (by intro _ _ _ h; exact h) (Or.inl ⟨by rfl, fun W hSw => ?_⟩) hHeld ?_
  rotate_left 1
  · (try dsimp only at hSw); first | (go_simp; done) | (go_simp; with_reducible rfl)
  try go_frame
  refine wpAnyH_take (i := 38) (oi := _) (v := ?_) (by simp only [List.getElem?_toArray, List.getElem?_cons_succ, List.getElem?_cons_zero]; rfl) (by kernel_rfl) (by kernel_rfl) (by kernel_rfl) (by intro _ _ _ h; exact h) (Or.inl ⟨by rfl, fun W hSw => ?_⟩) hHeld ?_
  rotate_left 1
  · (try dsimp only at hSw); first | (go_simp; done) | (go_simp; with_reducible rfl)
  try go_frame
  refine wpAnyH_ready (rs := [39]) (by kernel_rfl) (by simp) ?_
  refine AllReadyH.cons (o := _) (by simp only [List.getElem?_toArray, List.getElem?_cons_succ, List.getElem?_cons_zero]; rfl) (fun KX hKX => ?_) AllReadyH.nil
  clear hHeld
  go_simp
  refine (fits_c HS.out HK.out (by first | exact ZA.out | exact ZB.out | exact ZC.out | exact sz_small (by decide)) (by first | exact ZA.out | exact ZB.out | exact ZC.out | exact sz_small (by decide))).mono ?_
  (first | rw [s_ab] | rw [s_bc] | rw [s_ac] | rw [s_aa] | rw [s_at] | rw [s_ta])
  rintro e wn ⟨rfl, hbn⟩
  replace HS := Lib.hid (HS.out.below hbn)
  clear hbn
  refine hKX.out _ _ ⟨HS.out.cell (g := g) (a := a) (by simp), HS.out.cell (g := g + 1) (a := b) (by simp), HS.out.cell (g := g + 2) (a := c) (by simp), HS.out.cell (g := g + 3) (a := (7, ⟨#[]⟩)) (by simp)⟩ (fun hHeld => ?_)
  clear hKX KX
  try go_frame
  refine wpAnyH_take (i := 40) (oi := _) (v := ?_) (by simp only [List.getElem?_toArray, List.getElem?_cons_succ, List.getElem?_cons_zero]; rfl) (by kernel_rfl) (by kernel_rfl) (by kernel_rfl) (by intro _ _ _ h; exact h) (Or.inl ⟨by rfl, fun W hSw => ?_⟩) hHeld ?_
  rotate_left 1
  · (clear hSw; first | (go_simp; done) | (go_simp; with_reducible rfl) | (go_simp; exact HIF.out W))
  try go_frame
  refine wpAnyH_take (i := 41) (oi := _) (v := ?_) (by simp only [List.getElem?_toArray, List.getElem?_cons_succ, List.getElem?_cons_zero]; rfl) (by kernel_rfl) (by kernel_rfl) (by kernel_rfl) (by intro _ _ _ h; exact h) (Or.inl ⟨by rfl, fun W hSw => ?_⟩) hHeld ?_
  rotate_left 1
  · (clear hSw; first | (go_simp; done) | (go_simp; with_reducible rfl) | (go_simp; exact HIF.out W))
  try go_frame
  refine wpAnyH_take (i := 42) (oi := _) (v := ?_) (by simp only [List.getElem?_toArray, List.getElem?_cons_succ, List.getElem?_cons_zero]; rfl) (by kernel_rfl) (by kernel_rfl) (by kernel_rfl) (by intro _ _ _ h; exact h) (Or.inl ⟨by rfl, fun W hSw => ?_⟩) hHeld ?_
  rotate_left 1
  · (clear hSw; first | (go_simp; done) | (go_simp; with_reducible rfl) | (go_simp; exact HIF.out W))
  try go_frame
  refine wpAnyH_take (i := 43) (oi := _) (v := ?_) (by simp only [List.getElem?_toArray, List.getElem?_cons_succ, List.getElem?_cons_zero]; rfl) (by kernel_rfl) (by kernel_rfl) (by kernel_rfl) (by intro _ _ _ h; exact h) (Or.inl ⟨by rfl, fun W hSw => ?_⟩) hHeld ?_
  rotate_left 1
  · (try dsimp only at hSw); first | (go_simp; done) | (go_simp; with_reducible rfl)
  try go_frame
  refine wpAnyH_ready (rs := [44]) (by kernel_rfl) (by simp) ?_
  refine AllReadyH.cons (o := _) (by simp only [List.getElem?_toArray, List.getElem?_cons_succ, List.getElem?_cons_zero]; rfl) (fun KX hKX => ?_) AllReadyH.nil
  clear hHeld
  go_simp
  refine refers_c.mono ?_
  (first | rw [r_a])
  rintro e wn ⟨rfl, hbn⟩
  replace HS := Lib.hid (HS.out.below hbn)
  clear hbn
  refine hKX.out _ _ ⟨HS.out.cell (g := g) (a := a) (by simp), HS.out.cell (g := g + 1) (a := b) (by simp), HS.out.cell (g := g + 2) (a := c) (by simp), HS.out.cell (g := g + 3) (a := (7, ⟨#[]⟩)) (by simp)⟩ (fun hHeld => ?_)
  clear hKX KX
  try go_frame
  refine wpAnyH_take (i := 45) (oi := _) (v := ?_) (by simp only [List.getElem?_toArray, List.getElem?_cons_succ, List.getElem?_cons_zero]; rfl) (by kernel_rfl) (by kernel_rfl) (by kernel_rfl) (by intro _ _ _ h; exact h) (Or.inl ⟨by rfl, fun W hSw => ?_⟩) hHeld ?_
  rotate_left 1
  · (clear hSw; first | (go_simp; done) | (go_simp; with_reducible rfl) | (go_simp; exact HIF.out W))
  try go_frame
  refine wpAnyH_take (i := 46) (oi := _) (v := ?_) (by simp only [List.getElem?_toArray, List.getElem?_cons_succ, List.getElem?_cons_zero]; rfl) (by kernel_rfl) (by kernel_rfl) (by kernel_rfl) (by intro _ _ _ h; exact h) (Or.inl ⟨by rfl, fun W hSw => ?_⟩) hHeld ?_
  rotate_left 1
  · (clear hSw; first | (go_simp; done) | (go_simp; with_reducible rfl) | (go_simp; exact HIF.out W))
  try go_frame
  refine wpAnyH_take (i := 47) (oi := _) (v := undef) (by simp only [List.getElem?_toArray, List.getElem?_cons_succ, List.getElem?_cons_zero]; rfl) (by kernel_rfl) (by kernel_rfl) (by kernel_rfl) (by intro _ _ _ h; exact h) (Or.inr ⟨by rfl, rfl⟩) hHeld ?_
  try go_frame
  refine wpAnyH_take (i := 48) (oi := _) (v := undef) (by simp only [List.getElem?_toArray, List.getElem?_cons_succ, List.getElem?_cons_zero]; rfl) (by kernel_rfl) (by kernel_rfl) (by kernel_rfl) (by intro _ _ _ h; exact h) (Or.inr ⟨by rfl, rfl⟩) hHeld ?_
  try go_frame
  refine wpAnyH_take (i := 49) (oi := _) (v := undef) (by simp only [List.getElem?_toArray, List.getElem?_cons_succ, List.getElem?_cons_zero]; rfl) (by kernel_rfl) (by kernel_rfl) (by kernel_rfl) (by intro _ _ _ h; exact h) (Or.inr ⟨by rfl, rfl⟩) hHeld ?_
  try go_frame
  refine wpAnyH_take (i := 50) (oi := _) (v := undef) (by simp only [List.getElem?_toArray, List.getElem?_cons_succ, List.getElem?_cons_zero]; rfl) (by kernel_rfl) (by kernel_rfl) (by kernel_rfl) (by intro _ _ _ h; exact h) (Or.inr ⟨by rfl, rfl⟩) hHeld ?_
  try go_frame
  refine wpAnyH_take (i := 51) (oi := _) (v := undef) (by simp only [List.getElem?_toArray, List.getElem?_cons_succ, List.getElem?_cons_zero]; rfl) (by kernel_rfl) (by kernel_rfl) (by kernel_rfl) (by intro _ _ _ h; exact h) (Or.inr ⟨by rfl, rfl⟩) hHeld ?_
  try go_frame
  refine wpAnyH_take (i := 52) (oi := _) (v := ?_) (by simp only [List.getElem?_toArray, List.getElem?_cons_succ, List.getElem?_cons_zero]; rfl) (by kernel_rfl) (by kernel_rfl) (by kernel_rfl) (by intro _ _ _ h; exact h) (Or.inl ⟨by rfl, fun W hSw => ?_⟩) hHeld ?_
  rotate_left 1
  · (clear hSw; first | (go_simp; done) | (go_simp; with_reducible rfl) | (go_simp; exact HIF.out W))
  try go_frame
  refine wpAnyH_take (i := 53) (oi := _) (v := ?_) (by simp only [List.getElem?_toArray, List.getElem?_cons_succ, List.getElem?_cons_zero]; rfl) (by kernel_rfl) (by kernel_rfl) (by kernel_rfl) (by intro _ _ _ h; exact h) (Or.inl ⟨by rfl, fun W hSw => ?_⟩) hHeld ?_
  rotate_left 1
  · (clear hSw; first | (go_simp; done) | (go_simp; with_reducible rfl) | (go_simp; exact HIF.out W))
  try go_frame
  refine wpAnyH_take (i := 54) (oi := _) (v := undef) (by simp only [List.getElem?_toArray, List.getElem?_cons_succ, List.getElem?_cons_zero]; rfl) (by kernel_rfl) (by kernel_rfl) (by kernel_rfl) (by intro _ _ _ h; exact h) (Or.inr ⟨by rfl, rfl⟩) hHeld ?_
  try go_frame
  refine wpAnyH_take (i := 55) (oi := _) (v := undef) (by simp only [List.getElem?_toArray, List.getElem?_cons_succ, List.getElem?_cons_zero]; rfl) (by kernel_rfl) (by kernel_rfl) (by kernel_rfl) (by intro _ _ _ h; exact h) (Or.inr ⟨by rfl, rfl⟩) hHeld ?_
  try go_frame
  refine wpAnyH_take (i := 56) (oi := _) (v := ?_) (by simp only [List.getElem?_toArray, List.getElem?_cons_succ, List.getElem?_cons_zero]; rfl) (by kernel_rfl) (by kernel_rfl) (by kernel_rfl) (by intro _ _ _ h; exact h) (Or.inl ⟨by rfl, fun W hSw => ?_⟩) hHeld ?_
  rotate_left 1
  · (clear hSw; first | (go_simp; done) | (go_simp; with_reducible rfl) | (go_simp; exact HIF.out W))
  try go_frame
  refine wpAnyH_take (i := 57) (oi := _) (v := ?_) (by simp only [List.getElem?_toArray, List.getElem?_cons_succ, List.getElem?_cons_zero]; rfl) (by kernel_rfl) (by kernel_rfl) (by kernel_rfl) (by intro _ _ _ h; exact h) (Or.inl ⟨by rfl, fun W hSw => ?_⟩) hHeld ?_
  rotate_left 1
  · (clear hSw; first | (go_simp; done) | (go_simp; with_reducible rfl) | (go_simp; exact HIF.out W))
  try go_frame
  refine wpAnyH_take (i := 58) (oi := _) (v := ?_) (by simp only [List.getElem?_toArray, List.getElem?_cons_succ, List.getElem?_cons_zero]; rfl) (by kernel_rfl) (by kernel_rfl) (by kernel_rfl) (by intro _ _ _ h; exact h) (Or.inl ⟨by rfl, fun W hSw => ?_⟩) hHeld ?_
  rotate_left 1
  · (clear hSw; first | (go_simp; done) | (go_simp; with_reducible rfl) | (go_simp; exact HIF.out W))
  try go_frame
  refine wpAnyH_take (i := 59) (oi := _) (v := ?_) (by simp only [List.getElem?_toArray, List.getElem?_cons_succ, List.getElem?_cons_zero]; rfl) (by kernel_rfl) (by kernel_rfl) (by kernel_rfl) (by intro _ _ _ h; exact h) (Or.inl ⟨by rfl, fun W hSw => ?_⟩) hHeld ?_
  rotate_left 1
  · (clear hSw; first | (go_simp; done) | (go_simp; with_reducible rfl) | (go_simp; exact HIF.out W))
  try go_frame
  refine wpAnyH_take (i := 60) (oi := _) (v := ?_) (by simp only [List.getElem?_toArray, List.getElem?_cons_succ, List.getElem?_cons_zero]; rfl) (by kernel_rfl) (by kernel_rfl) (by kernel_rfl) (by intro _ _ _ h; exact h) (Or.inl ⟨by rfl, fun W hSw => ?_⟩) hHeld ?_
  rotate_left 1
  · (try dsimp only at hSw); first | (go_simp; done) | (go_simp; with_reducible rfl)
  try go_frame
  refine wpAnyH_take (i := 61) (oi := _) (v := ?_) (by simp only [List.getElem?_toArray, List.getElem?_cons_succ, List.getElem?_cons_zero]; rfl) (by kernel_rfl) (by kernel_rfl) (by kernel_rfl) (by intro _ _ _ h; exact h) (Or.inl ⟨by rfl, fun W hSw => ?_⟩) hHeld ?_
  rotate_left 1
  · (try dsimp only at hSw); first | (go_simp; done) | (go_simp; with_reducible rfl)
  try go_frame
  refine wpAnyH_take (i := 63) (oi := _) (v := ?_) (by simp only [List.getElem?_toArray, List.getElem?_cons_succ, List.getElem?_cons_zero]; rfl) (by kernel_rfl) (by kernel_rfl) (by kernel_rfl) (by intro _ _ _ h; exact h) (Or.inl ⟨by rfl, fun W hSw => ?_⟩) hHeld ?_
  rotate_left 1
  · (try dsimp only at hSw); first | (go_simp; done) | (go_simp; with_reducible rfl)
  try go_frame
  refine wpAnyH_ready (rs := [62]) (by kernel_rfl) (by simp) ?_
  refine AllReadyH.cons (o := _) (by simp only [List.getElem?_toArray, List.getElem?_cons_succ, List.getElem?_cons_zero]; rfl) (fun KX hKX => ?_) AllReadyH.nil
  clear hHeld
  go_simp
  refine (join_c HS.out HK.out (by first | exact ZA.out | exact ZB.out | exact ZC.out | exact sz_small (by decide)) (by first | exact ZA.out | exact ZB.out | exact ZC.out | exact sz_small (by decide))).mono ?_
  (first | rw [j_at]); rw [tyv_eta]
  rintro e wn ⟨rfl, hbn⟩
  replace HS := Lib.hid (HS.out.below hbn)
  clear hbn
  refine hKX.out _ _ ⟨HS.out.cell (g := g) (a := a) (by simp), HS.out.cell (g := g + 1) (a := b) (by simp), HS.out.cell (g := g + 2) (a := c) (by simp), HS.out.cell (g := g + 3) (a := (7, ⟨#[]⟩)) (by simp)⟩ (fun hHeld => ?_)
  clear hKX KX
  try go_frame
  refine wpAnyH_take (i := 64) (oi := _) (v := ?_) (by simp only [List.getElem?_toArray, List.getElem?_cons_succ, List.getElem?_cons_zero]; rfl) (by kernel_rfl) (by kernel_rfl) (by kernel_rfl) (by intro _ _ _ h; exact h) (Or.inl ⟨by rfl, fun W hSw => ?_⟩) hHeld ?_
  rotate_left 1
  · (clear hSw; first | (go_simp; done) | (go_simp; with_reducible rfl) | (go_simp; exact HIF.out W))
  try go_frame
  refine wpAnyH_take (i := 65) (oi := _) (v := ?_) (by simp only [List.getElem?_toArray, List.getElem?_cons_succ, List.getElem?_cons_zero]; rfl) (by kernel_rfl) (by kernel_rfl) (by kernel_rfl) (by intro _ _ _ h; exact h) (Or.inl ⟨by rfl, fun W hSw => ?_⟩) hHeld ?_
  rotate_left 1
  · (clear hSw; first | (go_simp; done) | (go_simp; with_reducible rfl) | (go_simp; exact HIF.out W))
  try go_frame
  refine wpAnyH_take (i := 66) (oi := _) (v := ?_) (by simp only [List.getElem?_toArray, List.getElem?_cons_succ, List.getElem?_cons_zero]; rfl) (by kernel_rfl) (by kernel_rfl) (by kernel_rfl) (by intro _ _ _ h; exact h) (Or.inl ⟨by rfl, fun W hSw => ?_⟩) hHeld ?_
  rotate_left 1
  · (clear hSw; first | (go_simp; done) | (go_simp; with_reducible rfl) | (go_simp; exact HIF.out W))
  try go_frame
  refine wpAnyH_done (by kernel_rfl) ?_ _
  go_wp2_with fail
  go_ret
  exact ⟨rfl, HB2.out.trans (HS.out.2.2.mono HB2.out.size)⟩
set_option maxHeartbeats 8000000 in
set_option maxRecDepth 100000 in
theorem fits_p8 (k0 k1 k2 k3 x y z : Nat) (w : World) (h0 : k0 < 256) (h1 : k1 < 256) (h2 : k2 < 256) (h3 : k3 < 256) (hx : x < 256) (hy : y < 256) (hz : z < 256) (p_ab : fitsT (tabT (bitS k0 3) (bitS k0 6) (bitS k2 2)) (ofJ x ⟨#[65]⟩) (ofJ y ⟨#[65]⟩) = true) (p_bc : fitsT (tabT (bitS k0 3) (bitS k0 6) (bitS k2 2)) (ofJ y ⟨#[65]⟩) (ofJ z ⟨#[65]⟩) = true) (p_ac : fitsT (tabT (bitS k0 3) (bitS k0 6) (bitS k2 2)) (ofJ x ⟨#[65]⟩) (ofJ z ⟨#[65]⟩) = true) (p_ra : refB (ofJ x ⟨#[65]⟩) = true) (p_ba : fitsT (tabT (bitS k0 3) (bitS k0 6) (bitS k2 2)) (ofJ y ⟨#[65]⟩) (ofJ x ⟨#[65]⟩) = false) :
    Calls Try.prog 7 #[.agg #[.int .u8 (k0 : Int), .int .u8 (k1 : Int), .int .u8 (k2 : Int), .int .u8 (k3 : Int)], .int .u8 (x : Int), .int .u8 (y : Int), .int .u8 (z : Int)] w fun e w' => e = .returned (.bool true) ∧ Below w.heap.size w w' := by
  obtain ⟨w0, hw0⟩ : ∃ x, x = w.alloc (.cells #[.int .u8 (k0 : Int), .int .u8 (k1 : Int), .int .u8 (k2 : Int), .int .u8 (k3 : Int)] 22) := ⟨_, rfl⟩
  have HB0 : Hid (Below w.heap.size w w0) := Lib.hid (by rw [hw0]; exact below_alR _ _)
  have HX0 : Hid (w0.heap[w.heap.size]? = some (.cells #[.int .u8 (k0 : Int), .int .u8 (k1 : Int), .int .u8 (k2 : Int), .int .u8 (k3 : Int)] 22 (0, 0))) := Lib.hid (by rw [hw0]; exact heap_alloc_new _ _)
  go_enter Try.func7, Try.ntmps7
  try simp only [List.append_eq, List.cons_append, List.nil_append]
  go_wp2_with fail
  rw [← hw0]
  clear hw0
  obtain ⟨kb, hkb⟩ : ∃ x, w.heap.size = x := ⟨_, rfl⟩
  rw [hkb] at HX0 ⊢
  have HKB := Lib.hid hkb
  clear hkb
  refine (known_11 w0).mono ?_
  rintro e w1 ⟨rfl, hb1⟩
  have hX1 := (hb1.block _ (Array.getElem?_eq_some_iff.1 HX0.out).1).trans HX0.out
  have HB1 := Lib.hid (HB0.out.trans (hb1.mono HB0.out.size))
  obtain ⟨xl, xc, -⟩ := boxN hX1
  have x0 := xc 0 _ rfl
  have x1 := xc 1 _ rfl
  have x2 := xc 2 _ rfl
  have x3 := xc 3 _ rfl
  simp only [Nat.zero_add] at x0 x1 x2 x3
  clear hb1 hX1 HX0 HB0 xc
  go_wp2_with fail
  refine (archive_0 k0 k1 k2 k3 w1 h0 h1 h2 h3).mono ?_
  rintro e w2 ⟨p1, n1, c1, rfl, hr1, hb2⟩
  obtain ⟨_, _, e1, -⟩ := hr1.len
  simp only [Value.slice.injEq] at e1
  obtain ⟨rfl, rfl, rfl⟩ := e1
  have HR1 := Lib.hid hr1
  have HB2 := Lib.hid (HB1.out.trans (hb2.mono HB1.out.size))
  clear hr1 hb2 HB1 x0 x1 x2 x3 xl HKB
  go_wp2_with fail
  refine (seat_tree k0 k1 k2 k3 w2 _ _ _ HR1.out).mono ?_
  rintro e w3 ⟨tb, mb, vs, ok, K, rfl, hk3, hs3⟩
  have HS := Lib.hid hs3
  obtain ⟨T, hT⟩ : ∃ t, (tabT (bitS k0 3) (bitS k0 6) (bitS k2 2)) = t := ⟨_, rfl⟩
  rw [hT] at hk3
  have HK := Lib.hid hk3
  clear hk3 hs3 HR1
  obtain ⟨a, ha⟩ : ∃ t, ofJ x ⟨#[65]⟩ = t := ⟨_, rfl⟩
  have ia := (of_ix (s := ⟨#[65]⟩) (sx := 7) rfl x).1
  rw [ha] at ia
  obtain ⟨b, hb⟩ : ∃ t, ofJ y ⟨#[65]⟩ = t := ⟨_, rfl⟩
  have ib := (of_ix (s := ⟨#[65]⟩) (sx := 7) rfl y).1
  rw [hb] at ib
  obtain ⟨c, hc⟩ : ∃ t, ofJ z ⟨#[65]⟩ = t := ⟨_, rfl⟩
  have ic := (of_ix (s := ⟨#[65]⟩) (sx := 7) rfl z).1
  rw [hc] at ic
  have ZA := Lib.hid (sz_at ia)
  have ZB := Lib.hid (sz_at ib)
  have ZC := Lib.hid (sz_at ic)
  have hv := fits_facts (bitS k0 3) (bitS k0 6) (bitS k2 2) ia ib ic
  rw [hT] at hv
  rw [hT, ha, hb] at p_ab
  have s_ab : fitsT T (a.1, a.2) (b.1, b.2) = _ := p_ab
  clear p_ab
  rw [hT, hb, hc] at p_bc
  have s_bc : fitsT T (b.1, b.2) (c.1, c.2) = _ := p_bc
  clear p_bc
  rw [hT, ha, hc] at p_ac
  have s_ac : fitsT T (a.1, a.2) (c.1, c.2) = _ := p_ac
  clear p_ac
  rw [hT, hb, ha] at p_ba
  have s_ba : fitsT T (b.1, b.2) (a.1, a.2) = _ := p_ba
  clear p_ba
  rw [ha] at p_ra
  have r_a : refB (a.1, a.2) = _ := p_ra
  clear p_ra
  obtain ⟨-, f_aa, f_at, f_ta, f_j, -, htop⟩ := hv
  obtain ⟨ta, hta⟩ : ∃ r, decide (a ≠ topT) = r := ⟨_, rfl⟩
  rw [hta] at f_aa
  have s_aa : fitsT T (a.1, a.2) (a.1, a.2) = ta := f_aa
  have s_at : fitsT T (a.1, a.2) (7, ⟨#[]⟩) = false := f_at
  have s_ta : fitsT T (7, ⟨#[]⟩) (a.1, a.2) = false := f_ta
  have j_at : joinT T (a.1, a.2) (7, ⟨#[]⟩) = (7, ⟨#[]⟩) := f_j
  have hIF : ∀ W : World, (if a.1 = 7 then if a.2.toList = [] then Result.ok (Next.value (Value.bool false)) W else Result.ok (Next.value (Value.bool true)) W else Result.ok (Next.value (Value.bool true)) W) = Result.ok (Next.value (Value.bool ta)) W := fun W => by
    rw [← hta]
    by_cases h : a = topT
    · rw [if_pos (by rw [h]; rfl), if_pos (by rw [h]; decide +kernel), decide_eq_false (fun k => k h)]
    · have h7 : ¬ a.1 = 7 := by have := htop.resolve_left h; simpa using this
      rw [if_neg h7, decide_eq_true h]
  have HIF := Lib.hid hIF
  clear ia ib ic f_aa f_at f_ta f_j htop hta hT hIF
  go_upto_region 4 with fail
  go_upto_region 6 with (go_at_call 11; refine (of_y _ ⟨#[65]⟩ _ (by assumption)).mono ?_; (first | rw [ha] | rw [hb] | rw [hc]); rw [tyv_eta]; rintro e wn ⟨rfl, hbn⟩; replace HS := Lib.hid (HS.out.below hbn); clear hbn)
  obtain ⟨wj, hwj⟩ : ∃ x, x = ((((wn.alloc (.cells #[.int .i64 a.1, .string a.2] 24)).alloc (.cells #[.int .i64 b.1, .string b.2] 24)).alloc (.cells #[.int .i64 c.1, .string c.2] 24)).alloc (.cells #[.int .i64 7, .string ⟨#[]⟩] 24)) := ⟨_, rfl⟩
  have hsj : StJ w2 wj ok tb mb vs K [(wn.heap.size + 3, (7, ⟨#[]⟩)), (wn.heap.size + 2, c), (wn.heap.size + 1, b), (wn.heap.size, a)] := by
    rw [hwj]
    have := ((((HS.out.box a).box b).box c).box (7, ⟨#[]⟩))
    simp only [World.size_alloc] at this
    exact this
  rw [← hwj]
  clear hwj
  obtain ⟨g, hg⟩ : ∃ z, wn.heap.size = z := ⟨_, rfl⟩
  rw [hg] at hsj ⊢
  replace HS := Lib.hid hsj
  clear hg hsj
  replace HS := Lib.hid (HS.out.below (Below.refl wj.heap.size wj).drew)
  clear ha hb hc
  refine wp_region_held_drew (S := fun W => ((g) < W.heap.size ∧ W.cell? ⟨g, 0, none⟩ = some (.int .i64 a.1) ∧ W.cell? ⟨g, 1, none⟩ = some (.string a.2)) ∧ ((g + 1) < W.heap.size ∧ W.cell? ⟨g + 1, 0, none⟩ = some (.int .i64 b.1) ∧ W.cell? ⟨g + 1, 1, none⟩ = some (.string b.2)) ∧ ((g + 2) < W.heap.size ∧ W.cell? ⟨g + 2, 0, none⟩ = some (.int .i64 c.1) ∧ W.cell? ⟨g + 2, 1, none⟩ = some (.string c.2)) ∧ ((g + 3) < W.heap.size ∧ W.cell? ⟨g + 3, 0, none⟩ = some (.int .i64 7) ∧ W.cell? ⟨g + 3, 1, none⟩ = some (.string ⟨#[]⟩))) (by kernel_rfl) ⟨HS.out.cell (g := g) (a := a) (by simp), HS.out.cell (g := g + 1) (a := b) (by simp), HS.out.cell (g := g + 2) (a := c) (by simp), HS.out.cell (g := g + 3) (a := (7, ⟨#[]⟩)) (by simp)⟩ (fun hHeld => ?_)
  refine wpAnyH_take (i := 0) (oi := _) (v := ?_) (by simp only [List.getElem?_toArray, List.getElem?_cons_zero]; rfl) (by kernel_rfl) (by kernel_rfl) (by kernel_rfl) (by intro _ _ _ h; exact h) (Or.inl ⟨by rfl, fun W hSw => ?_⟩) hHeld ?_
  rotate_left 1
  · (clear hSw; first | (go_simp; done) | (go_simp; with_reducible rfl) | (go_simp; exact HIF.out W))
  try go_frame
  refine wpAnyH_take (i := 1) (oi := _) (v := ?_) (by simp only [List.getElem?_toArray, List.getElem?_cons_succ, List.getElem?_cons_zero]; rfl) (by kernel_rfl) (by kernel_rfl) (by kernel_rfl) (by intro _ _ _ h; exact h) (Or.inl ⟨by rfl, fun W hSw => ?_⟩) hHeld ?_
  rotate_left 1
  · (try dsimp only at hSw); first | (go_simp; done) | (go_simp; with_reducible rfl)
  try go_frame
  refine wpAnyH_take (i := 2) (oi := _) (v := ?_) (by simp only [List.getElem?_toArray, List.getElem?_cons_succ, List.getElem?_cons_zero]; rfl) (by kernel_rfl) (by kernel_rfl) (by kernel_rfl) (by intro _ _ _ h; exact h) (Or.inl ⟨by rfl, fun W hSw => ?_⟩) hHeld ?_
  rotate_left 1
  · (try dsimp only at hSw); first | (go_simp; done) | (go_simp; with_reducible rfl)
  try go_frame
  refine wpAnyH_ready (rs := [3]) (by kernel_rfl) (by simp) ?_
  refine AllReadyH.cons (o := _) (by simp only [List.getElem?_toArray, List.getElem?_cons_succ, List.getElem?_cons_zero]; rfl) (fun KX hKX => ?_) AllReadyH.nil
  clear hHeld
  go_simp
  refine (fits_c HS.out HK.out (by first | exact ZA.out | exact ZB.out | exact ZC.out | exact sz_small (by decide)) (by first | exact ZA.out | exact ZB.out | exact ZC.out | exact sz_small (by decide))).mono ?_
  (first | rw [s_ab] | rw [s_bc] | rw [s_ac] | rw [s_ba] | rw [s_aa] | rw [s_at] | rw [s_ta])
  rintro e wn ⟨rfl, hbn⟩
  replace HS := Lib.hid (HS.out.below hbn)
  clear hbn
  refine hKX.out _ _ ⟨HS.out.cell (g := g) (a := a) (by simp), HS.out.cell (g := g + 1) (a := b) (by simp), HS.out.cell (g := g + 2) (a := c) (by simp), HS.out.cell (g := g + 3) (a := (7, ⟨#[]⟩)) (by simp)⟩ (fun hHeld => ?_)
  clear hKX KX
  try go_frame
  refine wpAnyH_take (i := 4) (oi := _) (v := ?_) (by simp only [List.getElem?_toArray, List.getElem?_cons_succ, List.getElem?_cons_zero]; rfl) (by kernel_rfl) (by kernel_rfl) (by kernel_rfl) (by intro _ _ _ h; exact h) (Or.inl ⟨by rfl, fun W hSw => ?_⟩) hHeld ?_
  rotate_left 1
  · (clear hSw; first | (go_simp; done) | (go_simp; with_reducible rfl) | (go_simp; exact HIF.out W))
  try go_frame
  refine wpAnyH_take (i := 5) (oi := _) (v := ?_) (by simp only [List.getElem?_toArray, List.getElem?_cons_succ, List.getElem?_cons_zero]; rfl) (by kernel_rfl) (by kernel_rfl) (by kernel_rfl) (by intro _ _ _ h; exact h) (Or.inl ⟨by rfl, fun W hSw => ?_⟩) hHeld ?_
  rotate_left 1
  · (clear hSw; first | (go_simp; done) | (go_simp; with_reducible rfl) | (go_simp; exact HIF.out W))
  try go_frame
  refine wpAnyH_take (i := 6) (oi := _) (v := ?_) (by simp only [List.getElem?_toArray, List.getElem?_cons_succ, List.getElem?_cons_zero]; rfl) (by kernel_rfl) (by kernel_rfl) (by kernel_rfl) (by intro _ _ _ h; exact h) (Or.inl ⟨by rfl, fun W hSw => ?_⟩) hHeld ?_
  rotate_left 1
  · (clear hSw; first | (go_simp; done) | (go_simp; with_reducible rfl) | (go_simp; exact HIF.out W))
  try go_frame
  refine wpAnyH_take (i := 7) (oi := _) (v := ?_) (by simp only [List.getElem?_toArray, List.getElem?_cons_succ, List.getElem?_cons_zero]; rfl) (by kernel_rfl) (by kernel_rfl) (by kernel_rfl) (by intro _ _ _ h; exact h) (Or.inl ⟨by rfl, fun W hSw => ?_⟩) hHeld ?_
  rotate_left 1
  · (try dsimp only at hSw); first | (go_simp; done) | (go_simp; with_reducible rfl)
  try go_frame
  refine wpAnyH_take (i := 8) (oi := _) (v := ?_) (by simp only [List.getElem?_toArray, List.getElem?_cons_succ, List.getElem?_cons_zero]; rfl) (by kernel_rfl) (by kernel_rfl) (by kernel_rfl) (by intro _ _ _ h; exact h) (Or.inl ⟨by rfl, fun W hSw => ?_⟩) hHeld ?_
  rotate_left 1
  · (try dsimp only at hSw); first | (go_simp; done) | (go_simp; with_reducible rfl)
  try go_frame
  refine wpAnyH_ready (rs := [9]) (by kernel_rfl) (by simp) ?_
  refine AllReadyH.cons (o := _) (by simp only [List.getElem?_toArray, List.getElem?_cons_succ, List.getElem?_cons_zero]; rfl) (fun KX hKX => ?_) AllReadyH.nil
  clear hHeld
  go_simp
  refine (fits_c HS.out HK.out (by first | exact ZA.out | exact ZB.out | exact ZC.out | exact sz_small (by decide)) (by first | exact ZA.out | exact ZB.out | exact ZC.out | exact sz_small (by decide))).mono ?_
  (first | rw [s_ab] | rw [s_bc] | rw [s_ac] | rw [s_ba] | rw [s_aa] | rw [s_at] | rw [s_ta])
  rintro e wn ⟨rfl, hbn⟩
  replace HS := Lib.hid (HS.out.below hbn)
  clear hbn
  refine hKX.out _ _ ⟨HS.out.cell (g := g) (a := a) (by simp), HS.out.cell (g := g + 1) (a := b) (by simp), HS.out.cell (g := g + 2) (a := c) (by simp), HS.out.cell (g := g + 3) (a := (7, ⟨#[]⟩)) (by simp)⟩ (fun hHeld => ?_)
  clear hKX KX
  try go_frame
  refine wpAnyH_take (i := 10) (oi := _) (v := ?_) (by simp only [List.getElem?_toArray, List.getElem?_cons_succ, List.getElem?_cons_zero]; rfl) (by kernel_rfl) (by kernel_rfl) (by kernel_rfl) (by intro _ _ _ h; exact h) (Or.inl ⟨by rfl, fun W hSw => ?_⟩) hHeld ?_
  rotate_left 1
  · (clear hSw; first | (go_simp; done) | (go_simp; with_reducible rfl) | (go_simp; exact HIF.out W))
  try go_frame
  refine wpAnyH_take (i := 11) (oi := _) (v := ?_) (by simp only [List.getElem?_toArray, List.getElem?_cons_succ, List.getElem?_cons_zero]; rfl) (by kernel_rfl) (by kernel_rfl) (by kernel_rfl) (by intro _ _ _ h; exact h) (Or.inl ⟨by rfl, fun W hSw => ?_⟩) hHeld ?_
  rotate_left 1
  · (clear hSw; first | (go_simp; done) | (go_simp; with_reducible rfl) | (go_simp; exact HIF.out W))
  try go_frame
  refine wpAnyH_take (i := 12) (oi := _) (v := ?_) (by simp only [List.getElem?_toArray, List.getElem?_cons_succ, List.getElem?_cons_zero]; rfl) (by kernel_rfl) (by kernel_rfl) (by kernel_rfl) (by intro _ _ _ h; exact h) (Or.inl ⟨by rfl, fun W hSw => ?_⟩) hHeld ?_
  rotate_left 1
  · (clear hSw; first | (go_simp; done) | (go_simp; with_reducible rfl) | (go_simp; exact HIF.out W))
  try go_frame
  refine wpAnyH_take (i := 13) (oi := _) (v := ?_) (by simp only [List.getElem?_toArray, List.getElem?_cons_succ, List.getElem?_cons_zero]; rfl) (by kernel_rfl) (by kernel_rfl) (by kernel_rfl) (by intro _ _ _ h; exact h) (Or.inl ⟨by rfl, fun W hSw => ?_⟩) hHeld ?_
  rotate_left 1
  · (clear hSw; first | (go_simp; done) | (go_simp; with_reducible rfl) | (go_simp; exact HIF.out W))
  try go_frame
  refine wpAnyH_take (i := 14) (oi := _) (v := ?_) (by simp only [List.getElem?_toArray, List.getElem?_cons_succ, List.getElem?_cons_zero]; rfl) (by kernel_rfl) (by kernel_rfl) (by kernel_rfl) (by intro _ _ _ h; exact h) (Or.inl ⟨by rfl, fun W hSw => ?_⟩) hHeld ?_
  rotate_left 1
  · (try dsimp only at hSw); first | (go_simp; done) | (go_simp; with_reducible rfl)
  try go_frame
  refine wpAnyH_take (i := 15) (oi := _) (v := ?_) (by simp only [List.getElem?_toArray, List.getElem?_cons_succ, List.getElem?_cons_zero]; rfl) (by kernel_rfl) (by kernel_rfl) (by kernel_rfl) (by intro _ _ _ h; exact h) (Or.inl ⟨by rfl, fun W hSw => ?_⟩) hHeld ?_
  rotate_left 1
  · (try dsimp only at hSw); first | (go_simp; done) | (go_simp; with_reducible rfl)
  try go_frame
  refine wpAnyH_ready (rs := [16]) (by kernel_rfl) (by simp) ?_
  refine AllReadyH.cons (o := _) (by simp only [List.getElem?_toArray, List.getElem?_cons_succ, List.getElem?_cons_zero]; rfl) (fun KX hKX => ?_) AllReadyH.nil
  clear hHeld
  go_simp
  refine (fits_c HS.out HK.out (by first | exact ZA.out | exact ZB.out | exact ZC.out | exact sz_small (by decide)) (by first | exact ZA.out | exact ZB.out | exact ZC.out | exact sz_small (by decide))).mono ?_
  (first | rw [s_ab] | rw [s_bc] | rw [s_ac] | rw [s_ba] | rw [s_aa] | rw [s_at] | rw [s_ta])
  rintro e wn ⟨rfl, hbn⟩
  replace HS := Lib.hid (HS.out.below hbn)
  clear hbn
  refine hKX.out _ _ ⟨HS.out.cell (g := g) (a := a) (by simp), HS.out.cell (g := g + 1) (a := b) (by simp), HS.out.cell (g := g + 2) (a := c) (by simp), HS.out.cell (g := g + 3) (a := (7, ⟨#[]⟩)) (by simp)⟩ (fun hHeld => ?_)
  clear hKX KX
  try go_frame
  refine wpAnyH_take (i := 17) (oi := _) (v := ?_) (by simp only [List.getElem?_toArray, List.getElem?_cons_succ, List.getElem?_cons_zero]; rfl) (by kernel_rfl) (by kernel_rfl) (by kernel_rfl) (by intro _ _ _ h; exact h) (Or.inl ⟨by rfl, fun W hSw => ?_⟩) hHeld ?_
  rotate_left 1
  · (clear hSw; first | (go_simp; done) | (go_simp; with_reducible rfl) | (go_simp; exact HIF.out W))
  try go_frame
  refine wpAnyH_take (i := 18) (oi := _) (v := ?_) (by simp only [List.getElem?_toArray, List.getElem?_cons_succ, List.getElem?_cons_zero]; rfl) (by kernel_rfl) (by kernel_rfl) (by kernel_rfl) (by intro _ _ _ h; exact h) (Or.inl ⟨by rfl, fun W hSw => ?_⟩) hHeld ?_
  rotate_left 1
  · (clear hSw; first | (go_simp; done) | (go_simp; with_reducible rfl) | (go_simp; exact HIF.out W))
  try go_frame
  refine wpAnyH_take (i := 19) (oi := _) (v := ?_) (by simp only [List.getElem?_toArray, List.getElem?_cons_succ, List.getElem?_cons_zero]; rfl) (by kernel_rfl) (by kernel_rfl) (by kernel_rfl) (by intro _ _ _ h; exact h) (Or.inl ⟨by rfl, fun W hSw => ?_⟩) hHeld ?_
  rotate_left 1
  · (clear hSw; first | (go_simp; done) | (go_simp; with_reducible rfl) | (go_simp; exact HIF.out W))
  try go_frame
  refine wpAnyH_take (i := 20) (oi := _) (v := ?_) (by simp only [List.getElem?_toArray, List.getElem?_cons_succ, List.getElem?_cons_zero]; rfl) (by kernel_rfl) (by kernel_rfl) (by kernel_rfl) (by intro _ _ _ h; exact h) (Or.inl ⟨by rfl, fun W hSw => ?_⟩) hHeld ?_
  rotate_left 1
  · (try dsimp only at hSw); first | (go_simp; done) | (go_simp; with_reducible rfl)
  try go_frame
  refine wpAnyH_take (i := 21) (oi := _) (v := ?_) (by simp only [List.getElem?_toArray, List.getElem?_cons_succ, List.getElem?_cons_zero]; rfl) (by kernel_rfl) (by kernel_rfl) (by kernel_rfl) (by intro _ _ _ h; exact h) (Or.inl ⟨by rfl, fun W hSw => ?_⟩) hHeld ?_
  rotate_left 1
  · (try dsimp only at hSw); first | (go_simp; done) | (go_simp; with_reducible rfl)
  try go_frame
  refine wpAnyH_take (i := 23) (oi := _) (v := ?_) (by simp only [List.getElem?_toArray, List.getElem?_cons_succ, List.getElem?_cons_zero]; rfl) (by kernel_rfl) (by kernel_rfl) (by kernel_rfl) (by intro _ _ _ h; exact h) (Or.inl ⟨by rfl, fun W hSw => ?_⟩) hHeld ?_
  rotate_left 1
  · (try dsimp only at hSw); first | (go_simp; done) | (go_simp; with_reducible rfl)
  try go_frame
  refine wpAnyH_take (i := 24) (oi := _) (v := ?_) (by simp only [List.getElem?_toArray, List.getElem?_cons_succ, List.getElem?_cons_zero]; rfl) (by kernel_rfl) (by kernel_rfl) (by kernel_rfl) (by intro _ _ _ h; exact h) (Or.inl ⟨by rfl, fun W hSw => ?_⟩) hHeld ?_
  rotate_left 1
  · (try dsimp only at hSw); first | (go_simp; done) | (go_simp; with_reducible rfl)
  try go_frame
  refine wpAnyH_take (i := 25) (oi := _) (v := ?_) (by simp only [List.getElem?_toArray, List.getElem?_cons_succ, List.getElem?_cons_zero]; rfl) (by kernel_rfl) (by kernel_rfl) (by kernel_rfl) (by intro _ _ _ h; exact h) (Or.inl ⟨by rfl, fun W hSw => ?_⟩) hHeld ?_
  rotate_left 1
  · (clear hSw; first | (go_simp; done) | (go_simp; with_reducible rfl) | (go_simp; exact HIF.out W))
  try go_frame
  refine wpAnyH_ready (rs := [22]) (by kernel_rfl) (by simp) ?_
  refine AllReadyH.cons (o := _) (by simp only [List.getElem?_toArray, List.getElem?_cons_succ, List.getElem?_cons_zero]; rfl) (fun KX hKX => ?_) AllReadyH.nil
  clear hHeld
  go_simp
  refine (fits_c HS.out HK.out (by first | exact ZA.out | exact ZB.out | exact ZC.out | exact sz_small (by decide)) (by first | exact ZA.out | exact ZB.out | exact ZC.out | exact sz_small (by decide))).mono ?_
  (first | rw [s_ab] | rw [s_bc] | rw [s_ac] | rw [s_ba] | rw [s_aa] | rw [s_at] | rw [s_ta])
  rintro e wn ⟨rfl, hbn⟩
  replace HS := Lib.hid (HS.out.below hbn)
  clear hbn
  refine hKX.out _ _ ⟨HS.out.cell (g := g) (a := a) (by simp), HS.out.cell (g := g + 1) (a := b) (by simp), HS.out.cell (g := g + 2) (a := c) (by simp), HS.out.cell (g := g + 3) (a := (7, ⟨#[]⟩)) (by simp)⟩ (fun hHeld => ?_)
  clear hKX KX
  try go_frame
  refine wpAnyH_take (i := 26) (oi := _) (v := ?_) (by simp only [List.getElem?_toArray, List.getElem?_cons_succ, List.getElem?_cons_zero]; rfl) (by kernel_rfl) (by kernel_rfl) (by kernel_rfl) (by intro _ _ _ h; exact h) (Or.inl ⟨by rfl, fun W hSw => ?_⟩) hHeld ?_
  rotate_left 1
  · (clear hSw; first | (go_simp; done) | (go_simp; with_reducible rfl) | (go_simp; exact HIF.out W))
  try go_frame
  refine wpAnyH_take (i := 27) (oi := _) (v := ?_) (by simp only [List.getElem?_toArray, List.getElem?_cons_succ, List.getElem?_cons_zero]; rfl) (by kernel_rfl) (by kernel_rfl) (by kernel_rfl) (by intro _ _ _ h; exact h) (Or.inl ⟨by rfl, fun W hSw => ?_⟩) hHeld ?_
  rotate_left 1
  · (clear hSw; first | (go_simp; done) | (go_simp; with_reducible rfl) | (go_simp; exact HIF.out W))
  try go_frame
  refine wpAnyH_take (i := 28) (oi := _) (v := ?_) (by simp only [List.getElem?_toArray, List.getElem?_cons_succ, List.getElem?_cons_zero]; rfl) (by kernel_rfl) (by kernel_rfl) (by kernel_rfl) (by intro _ _ _ h; exact h) (Or.inl ⟨by rfl, fun W hSw => ?_⟩) hHeld ?_
  rotate_left 1
  · (clear hSw; first | (go_simp; done) | (go_simp; with_reducible rfl) | (go_simp; exact HIF.out W))
  try go_frame
  refine wpAnyH_take (i := 29) (oi := _) (v := ?_) (by simp only [List.getElem?_toArray, List.getElem?_cons_succ, List.getElem?_cons_zero]; rfl) (by kernel_rfl) (by kernel_rfl) (by kernel_rfl) (by intro _ _ _ h; exact h) (Or.inl ⟨by rfl, fun W hSw => ?_⟩) hHeld ?_
  rotate_left 1
  · (clear hSw; first | (go_simp; done) | (go_simp; with_reducible rfl) | (go_simp; exact HIF.out W))
  try go_frame
  refine wpAnyH_take (i := 30) (oi := _) (v := ?_) (by simp only [List.getElem?_toArray, List.getElem?_cons_succ, List.getElem?_cons_zero]; rfl) (by kernel_rfl) (by kernel_rfl) (by kernel_rfl) (by intro _ _ _ h; exact h) (Or.inl ⟨by rfl, fun W hSw => ?_⟩) hHeld ?_
  rotate_left 1
  · (try dsimp only at hSw); first | (go_simp; done) | (go_simp; with_reducible rfl)
  try go_frame
  refine wpAnyH_take (i := 31) (oi := _) (v := ?_) (by simp only [List.getElem?_toArray, List.getElem?_cons_succ, List.getElem?_cons_zero]; rfl) (by kernel_rfl) (by kernel_rfl) (by kernel_rfl) (by intro _ _ _ h; exact h) (Or.inl ⟨by rfl, fun W hSw => ?_⟩) hHeld ?_
  rotate_left 1
  · (try dsimp only at hSw); first | (go_simp; done) | (go_simp; with_reducible rfl)
  try go_frame
  refine wpAnyH_ready (rs := [32]) (by kernel_rfl) (by simp) ?_
  refine AllReadyH.cons (o := _) (by simp only [List.getElem?_toArray, List.getElem?_cons_succ, List.getElem?_cons_zero]; rfl) (fun KX hKX => ?_) AllReadyH.nil
  clear hHeld
  go_simp
  refine (fits_c HS.out HK.out (by first | exact ZA.out | exact ZB.out | exact ZC.out | exact sz_small (by decide)) (by first | exact ZA.out | exact ZB.out | exact ZC.out | exact sz_small (by decide))).mono ?_
  (first | rw [s_ab] | rw [s_bc] | rw [s_ac] | rw [s_ba] | rw [s_aa] | rw [s_at] | rw [s_ta])
  rintro e wn ⟨rfl, hbn⟩
  replace HS := Lib.hid (HS.out.below hbn)
  clear hbn
  refine hKX.out _ _ ⟨HS.out.cell (g := g) (a := a) (by simp), HS.out.cell (g := g + 1) (a := b) (by simp), HS.out.cell (g := g + 2) (a := c) (by simp), HS.out.cell (g := g + 3) (a := (7, ⟨#[]⟩)) (by simp)⟩ (fun hHeld => ?_)
  clear hKX KX
  try go_frame
  refine wpAnyH_take (i := 33) (oi := _) (v := ?_) (by simp only [List.getElem?_toArray, List.getElem?_cons_succ, List.getElem?_cons_zero]; rfl) (by kernel_rfl) (by kernel_rfl) (by kernel_rfl) (by intro _ _ _ h; exact h) (Or.inl ⟨by rfl, fun W hSw => ?_⟩) hHeld ?_
  rotate_left 1
  · (clear hSw; first | (go_simp; done) | (go_simp; with_reducible rfl) | (go_simp; exact HIF.out W))
  try go_frame
  refine wpAnyH_take (i := 34) (oi := _) (v := ?_) (by simp only [List.getElem?_toArray, List.getElem?_cons_succ, List.getElem?_cons_zero]; rfl) (by kernel_rfl) (by kernel_rfl) (by kernel_rfl) (by intro _ _ _ h; exact h) (Or.inl ⟨by rfl, fun W hSw => ?_⟩) hHeld ?_
  rotate_left 1
  · (clear hSw; first | (go_simp; done) | (go_simp; with_reducible rfl) | (go_simp; exact HIF.out W))
  try go_frame
  refine wpAnyH_take (i := 35) (oi := _) (v := ?_) (by simp only [List.getElem?_toArray, List.getElem?_cons_succ, List.getElem?_cons_zero]; rfl) (by kernel_rfl) (by kernel_rfl) (by kernel_rfl) (by intro _ _ _ h; exact h) (Or.inl ⟨by rfl, fun W hSw => ?_⟩) hHeld ?_
  rotate_left 1
  · (clear hSw; first | (go_simp; done) | (go_simp; with_reducible rfl) | (go_simp; exact HIF.out W))
  try go_frame
  refine wpAnyH_take (i := 36) (oi := _) (v := ?_) (by simp only [List.getElem?_toArray, List.getElem?_cons_succ, List.getElem?_cons_zero]; rfl) (by kernel_rfl) (by kernel_rfl) (by kernel_rfl) (by intro _ _ _ h; exact h) (Or.inl ⟨by rfl, fun W hSw => ?_⟩) hHeld ?_
  rotate_left 1
  · (clear hSw; first | (go_simp; done) | (go_simp; with_reducible rfl) | (go_simp; exact HIF.out W))
  try go_frame
  refine wpAnyH_take (i := 37) (oi := _) (v := ?_) (by simp only [List.getElem?_toArray, List.getElem?_cons_succ, List.getElem?_cons_zero]; rfl) (by kernel_rfl) (by kernel_rfl) (by kernel_rfl) (by intro _ _ _ h; exact h) (Or.inl ⟨by rfl, fun W hSw => ?_⟩) hHeld ?_
  rotate_left 1
  · (try dsimp only at hSw); first | (go_simp; done) | (go_simp; with_reducible rfl)
  try go_frame
  refine wpAnyH_take (i := 38) (oi := _) (v := ?_) (by simp only [List.getElem?_toArray, List.getElem?_cons_succ, List.getElem?_cons_zero]; rfl) (by kernel_rfl) (by kernel_rfl) (by kernel_rfl) (by intro _ _ _ h; exact h) (Or.inl ⟨by rfl, fun W hSw => ?_⟩) hHeld ?_
  rotate_left 1
  · (try dsimp only at hSw); first | (go_simp; done) | (go_simp; with_reducible rfl)
  try go_frame
  refine wpAnyH_ready (rs := [39]) (by kernel_rfl) (by simp) ?_
  refine AllReadyH.cons (o := _) (by simp only [List.getElem?_toArray, List.getElem?_cons_succ, List.getElem?_cons_zero]; rfl) (fun KX hKX => ?_) AllReadyH.nil
  clear hHeld
  go_simp
  refine (fits_c HS.out HK.out (by first | exact ZA.out | exact ZB.out | exact ZC.out | exact sz_small (by decide)) (by first | exact ZA.out | exact ZB.out | exact ZC.out | exact sz_small (by decide))).mono ?_
  (first | rw [s_ab] | rw [s_bc] | rw [s_ac] | rw [s_ba] | rw [s_aa] | rw [s_at] | rw [s_ta])
  rintro e wn ⟨rfl, hbn⟩
  replace HS := Lib.hid (HS.out.below hbn)
  clear hbn
  refine hKX.out _ _ ⟨HS.out.cell (g := g) (a := a) (by simp), HS.out.cell (g := g + 1) (a := b) (by simp), HS.out.cell (g := g + 2) (a := c) (by simp), HS.out.cell (g := g + 3) (a := (7, ⟨#[]⟩)) (by simp)⟩ (fun hHeld => ?_)
  clear hKX KX
  try go_frame
  refine wpAnyH_take (i := 40) (oi := _) (v := ?_) (by simp only [List.getElem?_toArray, List.getElem?_cons_succ, List.getElem?_cons_zero]; rfl) (by kernel_rfl) (by kernel_rfl) (by kernel_rfl) (by intro _ _ _ h; exact h) (Or.inl ⟨by rfl, fun W hSw => ?_⟩) hHeld ?_
  rotate_left 1
  · (clear hSw; first | (go_simp; done) | (go_simp; with_reducible rfl) | (go_simp; exact HIF.out W))
  try go_frame
  refine wpAnyH_take (i := 41) (oi := _) (v := ?_) (by simp only [List.getElem?_toArray, List.getElem?_cons_succ, List.getElem?_cons_zero]; rfl) (by kernel_rfl) (by kernel_rfl) (by kernel_rfl) (by intro _ _ _ h; exact h) (Or.inl ⟨by rfl, fun W hSw => ?_⟩) hHeld ?_
  rotate_left 1
  · (clear hSw; first | (go_simp; done) | (go_simp; with_reducible rfl) | (go_simp; exact HIF.out W))
  try go_frame
  refine wpAnyH_take (i := 42) (oi := _) (v := ?_) (by simp only [List.getElem?_toArray, List.getElem?_cons_succ, List.getElem?_cons_zero]; rfl) (by kernel_rfl) (by kernel_rfl) (by kernel_rfl) (by intro _ _ _ h; exact h) (Or.inl ⟨by rfl, fun W hSw => ?_⟩) hHeld ?_
  rotate_left 1
  · (clear hSw; first | (go_simp; done) | (go_simp; with_reducible rfl) | (go_simp; exact HIF.out W))
  try go_frame
  refine wpAnyH_take (i := 43) (oi := _) (v := ?_) (by simp only [List.getElem?_toArray, List.getElem?_cons_succ, List.getElem?_cons_zero]; rfl) (by kernel_rfl) (by kernel_rfl) (by kernel_rfl) (by intro _ _ _ h; exact h) (Or.inl ⟨by rfl, fun W hSw => ?_⟩) hHeld ?_
  rotate_left 1
  · (try dsimp only at hSw); first | (go_simp; done) | (go_simp; with_reducible rfl)
  try go_frame
  refine wpAnyH_ready (rs := [44]) (by kernel_rfl) (by simp) ?_
  refine AllReadyH.cons (o := _) (by simp only [List.getElem?_toArray, List.getElem?_cons_succ, List.getElem?_cons_zero]; rfl) (fun KX hKX => ?_) AllReadyH.nil
  clear hHeld
  go_simp
  refine refers_c.mono ?_
  (first | rw [r_a])
  rintro e wn ⟨rfl, hbn⟩
  replace HS := Lib.hid (HS.out.below hbn)
  clear hbn
  refine hKX.out _ _ ⟨HS.out.cell (g := g) (a := a) (by simp), HS.out.cell (g := g + 1) (a := b) (by simp), HS.out.cell (g := g + 2) (a := c) (by simp), HS.out.cell (g := g + 3) (a := (7, ⟨#[]⟩)) (by simp)⟩ (fun hHeld => ?_)
  clear hKX KX
  try go_frame
  refine wpAnyH_take (i := 45) (oi := _) (v := ?_) (by simp only [List.getElem?_toArray, List.getElem?_cons_succ, List.getElem?_cons_zero]; rfl) (by kernel_rfl) (by kernel_rfl) (by kernel_rfl) (by intro _ _ _ h; exact h) (Or.inl ⟨by rfl, fun W hSw => ?_⟩) hHeld ?_
  rotate_left 1
  · (clear hSw; first | (go_simp; done) | (go_simp; with_reducible rfl) | (go_simp; exact HIF.out W))
  try go_frame
  refine wpAnyH_take (i := 46) (oi := _) (v := ?_) (by simp only [List.getElem?_toArray, List.getElem?_cons_succ, List.getElem?_cons_zero]; rfl) (by kernel_rfl) (by kernel_rfl) (by kernel_rfl) (by intro _ _ _ h; exact h) (Or.inl ⟨by rfl, fun W hSw => ?_⟩) hHeld ?_
  rotate_left 1
  · (clear hSw; first | (go_simp; done) | (go_simp; with_reducible rfl) | (go_simp; exact HIF.out W))
  try go_frame
  refine wpAnyH_take (i := 47) (oi := _) (v := ?_) (by simp only [List.getElem?_toArray, List.getElem?_cons_succ, List.getElem?_cons_zero]; rfl) (by kernel_rfl) (by kernel_rfl) (by kernel_rfl) (by intro _ _ _ h; exact h) (Or.inl ⟨by rfl, fun W hSw => ?_⟩) hHeld ?_
  rotate_left 1
  · (clear hSw; first | (go_simp; done) | (go_simp; with_reducible rfl) | (go_simp; exact HIF.out W))
  try go_frame
  refine wpAnyH_take (i := 48) (oi := _) (v := ?_) (by simp only [List.getElem?_toArray, List.getElem?_cons_succ, List.getElem?_cons_zero]; rfl) (by kernel_rfl) (by kernel_rfl) (by kernel_rfl) (by intro _ _ _ h; exact h) (Or.inl ⟨by rfl, fun W hSw => ?_⟩) hHeld ?_
  rotate_left 1
  · (try dsimp only at hSw); first | (go_simp; done) | (go_simp; with_reducible rfl)
  try go_frame
  refine wpAnyH_take (i := 49) (oi := _) (v := ?_) (by simp only [List.getElem?_toArray, List.getElem?_cons_succ, List.getElem?_cons_zero]; rfl) (by kernel_rfl) (by kernel_rfl) (by kernel_rfl) (by intro _ _ _ h; exact h) (Or.inl ⟨by rfl, fun W hSw => ?_⟩) hHeld ?_
  rotate_left 1
  · (try dsimp only at hSw); first | (go_simp; done) | (go_simp; with_reducible rfl)
  try go_frame
  refine wpAnyH_ready (rs := [50]) (by kernel_rfl) (by simp) ?_
  refine AllReadyH.cons (o := _) (by simp only [List.getElem?_toArray, List.getElem?_cons_succ, List.getElem?_cons_zero]; rfl) (fun KX hKX => ?_) AllReadyH.nil
  clear hHeld
  go_simp
  refine (fits_c HS.out HK.out (by first | exact ZA.out | exact ZB.out | exact ZC.out | exact sz_small (by decide)) (by first | exact ZA.out | exact ZB.out | exact ZC.out | exact sz_small (by decide))).mono ?_
  (first | rw [s_ab] | rw [s_bc] | rw [s_ac] | rw [s_ba] | rw [s_aa] | rw [s_at] | rw [s_ta])
  rintro e wn ⟨rfl, hbn⟩
  replace HS := Lib.hid (HS.out.below hbn)
  clear hbn
  refine hKX.out _ _ ⟨HS.out.cell (g := g) (a := a) (by simp), HS.out.cell (g := g + 1) (a := b) (by simp), HS.out.cell (g := g + 2) (a := c) (by simp), HS.out.cell (g := g + 3) (a := (7, ⟨#[]⟩)) (by simp)⟩ (fun hHeld => ?_)
  clear hKX KX
  try go_frame
  refine wpAnyH_take (i := 51) (oi := _) (v := ?_) (by simp only [List.getElem?_toArray, List.getElem?_cons_succ, List.getElem?_cons_zero]; rfl) (by kernel_rfl) (by kernel_rfl) (by kernel_rfl) (by intro _ _ _ h; exact h) (Or.inl ⟨by rfl, fun W hSw => ?_⟩) hHeld ?_
  rotate_left 1
  · (clear hSw; first | (go_simp; done) | (go_simp; with_reducible rfl) | (go_simp; exact HIF.out W))
  try go_frame
  refine wpAnyH_take (i := 52) (oi := _) (v := ?_) (by simp only [List.getElem?_toArray, List.getElem?_cons_succ, List.getElem?_cons_zero]; rfl) (by kernel_rfl) (by kernel_rfl) (by kernel_rfl) (by intro _ _ _ h; exact h) (Or.inl ⟨by rfl, fun W hSw => ?_⟩) hHeld ?_
  rotate_left 1
  · (clear hSw; first | (go_simp; done) | (go_simp; with_reducible rfl) | (go_simp; exact HIF.out W))
  try go_frame
  refine wpAnyH_take (i := 53) (oi := _) (v := ?_) (by simp only [List.getElem?_toArray, List.getElem?_cons_succ, List.getElem?_cons_zero]; rfl) (by kernel_rfl) (by kernel_rfl) (by kernel_rfl) (by intro _ _ _ h; exact h) (Or.inl ⟨by rfl, fun W hSw => ?_⟩) hHeld ?_
  rotate_left 1
  · (clear hSw; first | (go_simp; done) | (go_simp; with_reducible rfl) | (go_simp; exact HIF.out W))
  try go_frame
  refine wpAnyH_take (i := 54) (oi := _) (v := undef) (by simp only [List.getElem?_toArray, List.getElem?_cons_succ, List.getElem?_cons_zero]; rfl) (by kernel_rfl) (by kernel_rfl) (by kernel_rfl) (by intro _ _ _ h; exact h) (Or.inr ⟨by rfl, rfl⟩) hHeld ?_
  try go_frame
  refine wpAnyH_take (i := 55) (oi := _) (v := undef) (by simp only [List.getElem?_toArray, List.getElem?_cons_succ, List.getElem?_cons_zero]; rfl) (by kernel_rfl) (by kernel_rfl) (by kernel_rfl) (by intro _ _ _ h; exact h) (Or.inr ⟨by rfl, rfl⟩) hHeld ?_
  try go_frame
  refine wpAnyH_take (i := 56) (oi := _) (v := ?_) (by simp only [List.getElem?_toArray, List.getElem?_cons_succ, List.getElem?_cons_zero]; rfl) (by kernel_rfl) (by kernel_rfl) (by kernel_rfl) (by intro _ _ _ h; exact h) (Or.inl ⟨by rfl, fun W hSw => ?_⟩) hHeld ?_
  rotate_left 1
  · (clear hSw; first | (go_simp; done) | (go_simp; with_reducible rfl) | (go_simp; exact HIF.out W))
  try go_frame
  refine wpAnyH_take (i := 57) (oi := _) (v := ?_) (by simp only [List.getElem?_toArray, List.getElem?_cons_succ, List.getElem?_cons_zero]; rfl) (by kernel_rfl) (by kernel_rfl) (by kernel_rfl) (by intro _ _ _ h; exact h) (Or.inl ⟨by rfl, fun W hSw => ?_⟩) hHeld ?_
  rotate_left 1
  · (clear hSw; first | (go_simp; done) | (go_simp; with_reducible rfl) | (go_simp; exact HIF.out W))
  try go_frame
  refine wpAnyH_take (i := 58) (oi := _) (v := ?_) (by simp only [List.getElem?_toArray, List.getElem?_cons_succ, List.getElem?_cons_zero]; rfl) (by kernel_rfl) (by kernel_rfl) (by kernel_rfl) (by intro _ _ _ h; exact h) (Or.inl ⟨by rfl, fun W hSw => ?_⟩) hHeld ?_
  rotate_left 1
  · (clear hSw; first | (go_simp; done) | (go_simp; with_reducible rfl) | (go_simp; exact HIF.out W))
  try go_frame
  refine wpAnyH_take (i := 59) (oi := _) (v := ?_) (by simp only [List.getElem?_toArray, List.getElem?_cons_succ, List.getElem?_cons_zero]; rfl) (by kernel_rfl) (by kernel_rfl) (by kernel_rfl) (by intro _ _ _ h; exact h) (Or.inl ⟨by rfl, fun W hSw => ?_⟩) hHeld ?_
  rotate_left 1
  · (clear hSw; first | (go_simp; done) | (go_simp; with_reducible rfl) | (go_simp; exact HIF.out W))
  try go_frame
  refine wpAnyH_take (i := 60) (oi := _) (v := ?_) (by simp only [List.getElem?_toArray, List.getElem?_cons_succ, List.getElem?_cons_zero]; rfl) (by kernel_rfl) (by kernel_rfl) (by kernel_rfl) (by intro _ _ _ h; exact h) (Or.inl ⟨by rfl, fun W hSw => ?_⟩) hHeld ?_
  rotate_left 1
  · (try dsimp only at hSw); first | (go_simp; done) | (go_simp; with_reducible rfl)
  try go_frame
  refine wpAnyH_take (i := 61) (oi := _) (v := ?_) (by simp only [List.getElem?_toArray, List.getElem?_cons_succ, List.getElem?_cons_zero]; rfl) (by kernel_rfl) (by kernel_rfl) (by kernel_rfl) (by intro _ _ _ h; exact h) (Or.inl ⟨by rfl, fun W hSw => ?_⟩) hHeld ?_
  rotate_left 1
  · (try dsimp only at hSw); first | (go_simp; done) | (go_simp; with_reducible rfl)
  try go_frame
  refine wpAnyH_take (i := 63) (oi := _) (v := ?_) (by simp only [List.getElem?_toArray, List.getElem?_cons_succ, List.getElem?_cons_zero]; rfl) (by kernel_rfl) (by kernel_rfl) (by kernel_rfl) (by intro _ _ _ h; exact h) (Or.inl ⟨by rfl, fun W hSw => ?_⟩) hHeld ?_
  rotate_left 1
  · (try dsimp only at hSw); first | (go_simp; done) | (go_simp; with_reducible rfl)
  try go_frame
  refine wpAnyH_ready (rs := [62]) (by kernel_rfl) (by simp) ?_
  refine AllReadyH.cons (o := _) (by simp only [List.getElem?_toArray, List.getElem?_cons_succ, List.getElem?_cons_zero]; rfl) (fun KX hKX => ?_) AllReadyH.nil
  clear hHeld
  go_simp
  refine (join_c HS.out HK.out (by first | exact ZA.out | exact ZB.out | exact ZC.out | exact sz_small (by decide)) (by first | exact ZA.out | exact ZB.out | exact ZC.out | exact sz_small (by decide))).mono ?_
  (first | rw [j_at]); rw [tyv_eta]
  rintro e wn ⟨rfl, hbn⟩
  replace HS := Lib.hid (HS.out.below hbn)
  clear hbn
  refine hKX.out _ _ ⟨HS.out.cell (g := g) (a := a) (by simp), HS.out.cell (g := g + 1) (a := b) (by simp), HS.out.cell (g := g + 2) (a := c) (by simp), HS.out.cell (g := g + 3) (a := (7, ⟨#[]⟩)) (by simp)⟩ (fun hHeld => ?_)
  clear hKX KX
  try go_frame
  refine wpAnyH_take (i := 64) (oi := _) (v := ?_) (by simp only [List.getElem?_toArray, List.getElem?_cons_succ, List.getElem?_cons_zero]; rfl) (by kernel_rfl) (by kernel_rfl) (by kernel_rfl) (by intro _ _ _ h; exact h) (Or.inl ⟨by rfl, fun W hSw => ?_⟩) hHeld ?_
  rotate_left 1
  · (clear hSw; first | (go_simp; done) | (go_simp; with_reducible rfl) | (go_simp; exact HIF.out W))
  try go_frame
  refine wpAnyH_take (i := 65) (oi := _) (v := ?_) (by simp only [List.getElem?_toArray, List.getElem?_cons_succ, List.getElem?_cons_zero]; rfl) (by kernel_rfl) (by kernel_rfl) (by kernel_rfl) (by intro _ _ _ h; exact h) (Or.inl ⟨by rfl, fun W hSw => ?_⟩) hHeld ?_
  rotate_left 1
  · (clear hSw; first | (go_simp; done) | (go_simp; with_reducible rfl) | (go_simp; exact HIF.out W))
  try go_frame
  refine wpAnyH_take (i := 66) (oi := _) (v := ?_) (by simp only [List.getElem?_toArray, List.getElem?_cons_succ, List.getElem?_cons_zero]; rfl) (by kernel_rfl) (by kernel_rfl) (by kernel_rfl) (by intro _ _ _ h; exact h) (Or.inl ⟨by rfl, fun W hSw => ?_⟩) hHeld ?_
  rotate_left 1
  · (clear hSw; first | (go_simp; done) | (go_simp; with_reducible rfl) | (go_simp; exact HIF.out W))
  try go_frame
  refine wpAnyH_done (by kernel_rfl) ?_ _
  go_wp2_with fail
  go_ret
  exact ⟨rfl, HB2.out.trans (HS.out.2.2.mono HB2.out.size)⟩
set_option maxHeartbeats 8000000 in
set_option maxRecDepth 100000 in
theorem fits_p9 (k0 k1 k2 k3 x y z : Nat) (w : World) (h0 : k0 < 256) (h1 : k1 < 256) (h2 : k2 < 256) (h3 : k3 < 256) (hx : x < 256) (hy : y < 256) (hz : z < 256) (p_ab : fitsT (tabT (bitS k0 3) (bitS k0 6) (bitS k2 2)) (ofJ x ⟨#[65]⟩) (ofJ y ⟨#[65]⟩) = true) (p_bc : fitsT (tabT (bitS k0 3) (bitS k0 6) (bitS k2 2)) (ofJ y ⟨#[65]⟩) (ofJ z ⟨#[65]⟩) = true) (p_ac : fitsT (tabT (bitS k0 3) (bitS k0 6) (bitS k2 2)) (ofJ x ⟨#[65]⟩) (ofJ z ⟨#[65]⟩) = true) (p_ra : refB (ofJ x ⟨#[65]⟩) = true) (p_ba : fitsT (tabT (bitS k0 3) (bitS k0 6) (bitS k2 2)) (ofJ y ⟨#[65]⟩) (ofJ x ⟨#[65]⟩) = true) (p_rb : refB (ofJ y ⟨#[65]⟩) = true) :
    Calls Try.prog 7 #[.agg #[.int .u8 (k0 : Int), .int .u8 (k1 : Int), .int .u8 (k2 : Int), .int .u8 (k3 : Int)], .int .u8 (x : Int), .int .u8 (y : Int), .int .u8 (z : Int)] w fun e w' => e = .returned (.bool true) ∧ Below w.heap.size w w' := by
  obtain ⟨w0, hw0⟩ : ∃ x, x = w.alloc (.cells #[.int .u8 (k0 : Int), .int .u8 (k1 : Int), .int .u8 (k2 : Int), .int .u8 (k3 : Int)] 22) := ⟨_, rfl⟩
  have HB0 : Hid (Below w.heap.size w w0) := Lib.hid (by rw [hw0]; exact below_alR _ _)
  have HX0 : Hid (w0.heap[w.heap.size]? = some (.cells #[.int .u8 (k0 : Int), .int .u8 (k1 : Int), .int .u8 (k2 : Int), .int .u8 (k3 : Int)] 22 (0, 0))) := Lib.hid (by rw [hw0]; exact heap_alloc_new _ _)
  go_enter Try.func7, Try.ntmps7
  try simp only [List.append_eq, List.cons_append, List.nil_append]
  go_wp2_with fail
  rw [← hw0]
  clear hw0
  obtain ⟨kb, hkb⟩ : ∃ x, w.heap.size = x := ⟨_, rfl⟩
  rw [hkb] at HX0 ⊢
  have HKB := Lib.hid hkb
  clear hkb
  refine (known_11 w0).mono ?_
  rintro e w1 ⟨rfl, hb1⟩
  have hX1 := (hb1.block _ (Array.getElem?_eq_some_iff.1 HX0.out).1).trans HX0.out
  have HB1 := Lib.hid (HB0.out.trans (hb1.mono HB0.out.size))
  obtain ⟨xl, xc, -⟩ := boxN hX1
  have x0 := xc 0 _ rfl
  have x1 := xc 1 _ rfl
  have x2 := xc 2 _ rfl
  have x3 := xc 3 _ rfl
  simp only [Nat.zero_add] at x0 x1 x2 x3
  clear hb1 hX1 HX0 HB0 xc
  go_wp2_with fail
  refine (archive_0 k0 k1 k2 k3 w1 h0 h1 h2 h3).mono ?_
  rintro e w2 ⟨p1, n1, c1, rfl, hr1, hb2⟩
  obtain ⟨_, _, e1, -⟩ := hr1.len
  simp only [Value.slice.injEq] at e1
  obtain ⟨rfl, rfl, rfl⟩ := e1
  have HR1 := Lib.hid hr1
  have HB2 := Lib.hid (HB1.out.trans (hb2.mono HB1.out.size))
  clear hr1 hb2 HB1 x0 x1 x2 x3 xl HKB
  go_wp2_with fail
  refine (seat_tree k0 k1 k2 k3 w2 _ _ _ HR1.out).mono ?_
  rintro e w3 ⟨tb, mb, vs, ok, K, rfl, hk3, hs3⟩
  have HS := Lib.hid hs3
  obtain ⟨T, hT⟩ : ∃ t, (tabT (bitS k0 3) (bitS k0 6) (bitS k2 2)) = t := ⟨_, rfl⟩
  rw [hT] at hk3
  have HK := Lib.hid hk3
  clear hk3 hs3 HR1
  obtain ⟨a, ha⟩ : ∃ t, ofJ x ⟨#[65]⟩ = t := ⟨_, rfl⟩
  have ia := (of_ix (s := ⟨#[65]⟩) (sx := 7) rfl x).1
  rw [ha] at ia
  obtain ⟨b, hb⟩ : ∃ t, ofJ y ⟨#[65]⟩ = t := ⟨_, rfl⟩
  have ib := (of_ix (s := ⟨#[65]⟩) (sx := 7) rfl y).1
  rw [hb] at ib
  obtain ⟨c, hc⟩ : ∃ t, ofJ z ⟨#[65]⟩ = t := ⟨_, rfl⟩
  have ic := (of_ix (s := ⟨#[65]⟩) (sx := 7) rfl z).1
  rw [hc] at ic
  have ZA := Lib.hid (sz_at ia)
  have ZB := Lib.hid (sz_at ib)
  have ZC := Lib.hid (sz_at ic)
  have hv := fits_facts (bitS k0 3) (bitS k0 6) (bitS k2 2) ia ib ic
  rw [hT] at hv
  rw [hT, ha, hb] at p_ab
  have s_ab : fitsT T (a.1, a.2) (b.1, b.2) = _ := p_ab
  clear p_ab
  rw [hT, hb, hc] at p_bc
  have s_bc : fitsT T (b.1, b.2) (c.1, c.2) = _ := p_bc
  clear p_bc
  rw [hT, ha, hc] at p_ac
  have s_ac : fitsT T (a.1, a.2) (c.1, c.2) = _ := p_ac
  clear p_ac
  rw [hT, hb, ha] at p_ba
  have s_ba : fitsT T (b.1, b.2) (a.1, a.2) = _ := p_ba
  clear p_ba
  rw [ha] at p_ra
  have r_a : refB (a.1, a.2) = _ := p_ra
  clear p_ra
  rw [hb] at p_rb
  have r_b : refB (b.1, b.2) = _ := p_rb
  clear p_rb
  obtain ⟨-, f_aa, f_at, f_ta, f_j, -, htop⟩ := hv
  obtain ⟨ta, hta⟩ : ∃ r, decide (a ≠ topT) = r := ⟨_, rfl⟩
  rw [hta] at f_aa
  have s_aa : fitsT T (a.1, a.2) (a.1, a.2) = ta := f_aa
  have s_at : fitsT T (a.1, a.2) (7, ⟨#[]⟩) = false := f_at
  have s_ta : fitsT T (7, ⟨#[]⟩) (a.1, a.2) = false := f_ta
  have j_at : joinT T (a.1, a.2) (7, ⟨#[]⟩) = (7, ⟨#[]⟩) := f_j
  have hIF : ∀ W : World, (if a.1 = 7 then if a.2.toList = [] then Result.ok (Next.value (Value.bool false)) W else Result.ok (Next.value (Value.bool true)) W else Result.ok (Next.value (Value.bool true)) W) = Result.ok (Next.value (Value.bool ta)) W := fun W => by
    rw [← hta]
    by_cases h : a = topT
    · rw [if_pos (by rw [h]; rfl), if_pos (by rw [h]; decide +kernel), decide_eq_false (fun k => k h)]
    · have h7 : ¬ a.1 = 7 := by have := htop.resolve_left h; simpa using this
      rw [if_neg h7, decide_eq_true h]
  have HIF := Lib.hid hIF
  clear ia ib ic f_aa f_at f_ta f_j htop hta hT hIF
  go_upto_region 4 with fail
  go_upto_region 6 with (go_at_call 11; refine (of_y _ ⟨#[65]⟩ _ (by assumption)).mono ?_; (first | rw [ha] | rw [hb] | rw [hc]); rw [tyv_eta]; rintro e wn ⟨rfl, hbn⟩; replace HS := Lib.hid (HS.out.below hbn); clear hbn)
  obtain ⟨wj, hwj⟩ : ∃ x, x = ((((wn.alloc (.cells #[.int .i64 a.1, .string a.2] 24)).alloc (.cells #[.int .i64 b.1, .string b.2] 24)).alloc (.cells #[.int .i64 c.1, .string c.2] 24)).alloc (.cells #[.int .i64 7, .string ⟨#[]⟩] 24)) := ⟨_, rfl⟩
  have hsj : StJ w2 wj ok tb mb vs K [(wn.heap.size + 3, (7, ⟨#[]⟩)), (wn.heap.size + 2, c), (wn.heap.size + 1, b), (wn.heap.size, a)] := by
    rw [hwj]
    have := ((((HS.out.box a).box b).box c).box (7, ⟨#[]⟩))
    simp only [World.size_alloc] at this
    exact this
  rw [← hwj]
  clear hwj
  obtain ⟨g, hg⟩ : ∃ z, wn.heap.size = z := ⟨_, rfl⟩
  rw [hg] at hsj ⊢
  replace HS := Lib.hid hsj
  clear hg hsj
  replace HS := Lib.hid (HS.out.below (Below.refl wj.heap.size wj).drew)
  clear ha hb hc
  refine wp_region_held_drew (S := fun W => ((g) < W.heap.size ∧ W.cell? ⟨g, 0, none⟩ = some (.int .i64 a.1) ∧ W.cell? ⟨g, 1, none⟩ = some (.string a.2)) ∧ ((g + 1) < W.heap.size ∧ W.cell? ⟨g + 1, 0, none⟩ = some (.int .i64 b.1) ∧ W.cell? ⟨g + 1, 1, none⟩ = some (.string b.2)) ∧ ((g + 2) < W.heap.size ∧ W.cell? ⟨g + 2, 0, none⟩ = some (.int .i64 c.1) ∧ W.cell? ⟨g + 2, 1, none⟩ = some (.string c.2)) ∧ ((g + 3) < W.heap.size ∧ W.cell? ⟨g + 3, 0, none⟩ = some (.int .i64 7) ∧ W.cell? ⟨g + 3, 1, none⟩ = some (.string ⟨#[]⟩))) (by kernel_rfl) ⟨HS.out.cell (g := g) (a := a) (by simp), HS.out.cell (g := g + 1) (a := b) (by simp), HS.out.cell (g := g + 2) (a := c) (by simp), HS.out.cell (g := g + 3) (a := (7, ⟨#[]⟩)) (by simp)⟩ (fun hHeld => ?_)
  refine wpAnyH_take (i := 0) (oi := _) (v := ?_) (by simp only [List.getElem?_toArray, List.getElem?_cons_zero]; rfl) (by kernel_rfl) (by kernel_rfl) (by kernel_rfl) (by intro _ _ _ h; exact h) (Or.inl ⟨by rfl, fun W hSw => ?_⟩) hHeld ?_
  rotate_left 1
  · (clear hSw; first | (go_simp; done) | (go_simp; with_reducible rfl) | (go_simp; exact HIF.out W))
  try go_frame
  refine wpAnyH_take (i := 1) (oi := _) (v := ?_) (by simp only [List.getElem?_toArray, List.getElem?_cons_succ, List.getElem?_cons_zero]; rfl) (by kernel_rfl) (by kernel_rfl) (by kernel_rfl) (by intro _ _ _ h; exact h) (Or.inl ⟨by rfl, fun W hSw => ?_⟩) hHeld ?_
  rotate_left 1
  · (try dsimp only at hSw); first | (go_simp; done) | (go_simp; with_reducible rfl)
  try go_frame
  refine wpAnyH_take (i := 2) (oi := _) (v := ?_) (by simp only [List.getElem?_toArray, List.getElem?_cons_succ, List.getElem?_cons_zero]; rfl) (by kernel_rfl) (by kernel_rfl) (by kernel_rfl) (by intro _ _ _ h; exact h) (Or.inl ⟨by rfl, fun W hSw => ?_⟩) hHeld ?_
  rotate_left 1
  · (try dsimp only at hSw); first | (go_simp; done) | (go_simp; with_reducible rfl)
  try go_frame
  refine wpAnyH_ready (rs := [3]) (by kernel_rfl) (by simp) ?_
  refine AllReadyH.cons (o := _) (by simp only [List.getElem?_toArray, List.getElem?_cons_succ, List.getElem?_cons_zero]; rfl) (fun KX hKX => ?_) AllReadyH.nil
  clear hHeld
  go_simp
  refine (fits_c HS.out HK.out (by first | exact ZA.out | exact ZB.out | exact ZC.out | exact sz_small (by decide)) (by first | exact ZA.out | exact ZB.out | exact ZC.out | exact sz_small (by decide))).mono ?_
  (first | rw [s_ab] | rw [s_bc] | rw [s_ac] | rw [s_ba] | rw [s_aa] | rw [s_at] | rw [s_ta])
  rintro e wn ⟨rfl, hbn⟩
  replace HS := Lib.hid (HS.out.below hbn)
  clear hbn
  refine hKX.out _ _ ⟨HS.out.cell (g := g) (a := a) (by simp), HS.out.cell (g := g + 1) (a := b) (by simp), HS.out.cell (g := g + 2) (a := c) (by simp), HS.out.cell (g := g + 3) (a := (7, ⟨#[]⟩)) (by simp)⟩ (fun hHeld => ?_)
  clear hKX KX
  try go_frame
  refine wpAnyH_take (i := 4) (oi := _) (v := ?_) (by simp only [List.getElem?_toArray, List.getElem?_cons_succ, List.getElem?_cons_zero]; rfl) (by kernel_rfl) (by kernel_rfl) (by kernel_rfl) (by intro _ _ _ h; exact h) (Or.inl ⟨by rfl, fun W hSw => ?_⟩) hHeld ?_
  rotate_left 1
  · (clear hSw; first | (go_simp; done) | (go_simp; with_reducible rfl) | (go_simp; exact HIF.out W))
  try go_frame
  refine wpAnyH_take (i := 5) (oi := _) (v := ?_) (by simp only [List.getElem?_toArray, List.getElem?_cons_succ, List.getElem?_cons_zero]; rfl) (by kernel_rfl) (by kernel_rfl) (by kernel_rfl) (by intro _ _ _ h; exact h) (Or.inl ⟨by rfl, fun W hSw => ?_⟩) hHeld ?_
  rotate_left 1
  · (clear hSw; first | (go_simp; done) | (go_simp; with_reducible rfl) | (go_simp; exact HIF.out W))
  try go_frame
  refine wpAnyH_take (i := 6) (oi := _) (v := ?_) (by simp only [List.getElem?_toArray, List.getElem?_cons_succ, List.getElem?_cons_zero]; rfl) (by kernel_rfl) (by kernel_rfl) (by kernel_rfl) (by intro _ _ _ h; exact h) (Or.inl ⟨by rfl, fun W hSw => ?_⟩) hHeld ?_
  rotate_left 1
  · (clear hSw; first | (go_simp; done) | (go_simp; with_reducible rfl) | (go_simp; exact HIF.out W))
  try go_frame
  refine wpAnyH_take (i := 7) (oi := _) (v := ?_) (by simp only [List.getElem?_toArray, List.getElem?_cons_succ, List.getElem?_cons_zero]; rfl) (by kernel_rfl) (by kernel_rfl) (by kernel_rfl) (by intro _ _ _ h; exact h) (Or.inl ⟨by rfl, fun W hSw => ?_⟩) hHeld ?_
  rotate_left 1
  · (try dsimp only at hSw); first | (go_simp; done) | (go_simp; with_reducible rfl)
  try go_frame
  refine wpAnyH_take (i := 8) (oi := _) (v := ?_) (by simp only [List.getElem?_toArray, List.getElem?_cons_succ, List.getElem?_cons_zero]; rfl) (by kernel_rfl) (by kernel_rfl) (by kernel_rfl) (by intro _ _ _ h; exact h) (Or.inl ⟨by rfl, fun W hSw => ?_⟩) hHeld ?_
  rotate_left 1
  · (try dsimp only at hSw); first | (go_simp; done) | (go_simp; with_reducible rfl)
  try go_frame
  refine wpAnyH_ready (rs := [9]) (by kernel_rfl) (by simp) ?_
  refine AllReadyH.cons (o := _) (by simp only [List.getElem?_toArray, List.getElem?_cons_succ, List.getElem?_cons_zero]; rfl) (fun KX hKX => ?_) AllReadyH.nil
  clear hHeld
  go_simp
  refine (fits_c HS.out HK.out (by first | exact ZA.out | exact ZB.out | exact ZC.out | exact sz_small (by decide)) (by first | exact ZA.out | exact ZB.out | exact ZC.out | exact sz_small (by decide))).mono ?_
  (first | rw [s_ab] | rw [s_bc] | rw [s_ac] | rw [s_ba] | rw [s_aa] | rw [s_at] | rw [s_ta])
  rintro e wn ⟨rfl, hbn⟩
  replace HS := Lib.hid (HS.out.below hbn)
  clear hbn
  refine hKX.out _ _ ⟨HS.out.cell (g := g) (a := a) (by simp), HS.out.cell (g := g + 1) (a := b) (by simp), HS.out.cell (g := g + 2) (a := c) (by simp), HS.out.cell (g := g + 3) (a := (7, ⟨#[]⟩)) (by simp)⟩ (fun hHeld => ?_)
  clear hKX KX
  try go_frame
  refine wpAnyH_take (i := 10) (oi := _) (v := ?_) (by simp only [List.getElem?_toArray, List.getElem?_cons_succ, List.getElem?_cons_zero]; rfl) (by kernel_rfl) (by kernel_rfl) (by kernel_rfl) (by intro _ _ _ h; exact h) (Or.inl ⟨by rfl, fun W hSw => ?_⟩) hHeld ?_
  rotate_left 1
  · (clear hSw; first | (go_simp; done) | (go_simp; with_reducible rfl) | (go_simp; exact HIF.out W))
  try go_frame
  refine wpAnyH_take (i := 11) (oi := _) (v := ?_) (by simp only [List.getElem?_toArray, List.getElem?_cons_succ, List.getElem?_cons_zero]; rfl) (by kernel_rfl) (by kernel_rfl) (by kernel_rfl) (by intro _ _ _ h; exact h) (Or.inl ⟨by rfl, fun W hSw => ?_⟩) hHeld ?_
  rotate_left 1
  · (clear hSw; first | (go_simp; done) | (go_simp; with_reducible rfl) | (go_simp; exact HIF.out W))
  try go_frame
  refine wpAnyH_take (i := 12) (oi := _) (v := ?_) (by simp only [List.getElem?_toArray, List.getElem?_cons_succ, List.getElem?_cons_zero]; rfl) (by kernel_rfl) (by kernel_rfl) (by kernel_rfl) (by intro _ _ _ h; exact h) (Or.inl ⟨by rfl, fun W hSw => ?_⟩) hHeld ?_
  rotate_left 1
  · (clear hSw; first | (go_simp; done) | (go_simp; with_reducible rfl) | (go_simp; exact HIF.out W))
  try go_frame
  refine wpAnyH_take (i := 13) (oi := _) (v := ?_) (by simp only [List.getElem?_toArray, List.getElem?_cons_succ, List.getElem?_cons_zero]; rfl) (by kernel_rfl) (by kernel_rfl) (by kernel_rfl) (by intro _ _ _ h; exact h) (Or.inl ⟨by rfl, fun W hSw => ?_⟩) hHeld ?_
  rotate_left 1
  · (clear hSw; first | (go_simp; done) | (go_simp; with_reducible rfl) | (go_simp; exact HIF.out W))
  try go_frame
  refine wpAnyH_take (i := 14) (oi := _) (v := ?_) (by simp only [List.getElem?_toArray, List.getElem?_cons_succ, List.getElem?_cons_zero]; rfl) (by kernel_rfl) (by kernel_rfl) (by kernel_rfl) (by intro _ _ _ h; exact h) (Or.inl ⟨by rfl, fun W hSw => ?_⟩) hHeld ?_
  rotate_left 1
  · (try dsimp only at hSw); first | (go_simp; done) | (go_simp; with_reducible rfl)
  try go_frame
  refine wpAnyH_take (i := 15) (oi := _) (v := ?_) (by simp only [List.getElem?_toArray, List.getElem?_cons_succ, List.getElem?_cons_zero]; rfl) (by kernel_rfl) (by kernel_rfl) (by kernel_rfl) (by intro _ _ _ h; exact h) (Or.inl ⟨by rfl, fun W hSw => ?_⟩) hHeld ?_
  rotate_left 1
  · (try dsimp only at hSw); first | (go_simp; done) | (go_simp; with_reducible rfl)
  try go_frame
  refine wpAnyH_ready (rs := [16]) (by kernel_rfl) (by simp) ?_
  refine AllReadyH.cons (o := _) (by simp only [List.getElem?_toArray, List.getElem?_cons_succ, List.getElem?_cons_zero]; rfl) (fun KX hKX => ?_) AllReadyH.nil
  clear hHeld
  go_simp
  refine (fits_c HS.out HK.out (by first | exact ZA.out | exact ZB.out | exact ZC.out | exact sz_small (by decide)) (by first | exact ZA.out | exact ZB.out | exact ZC.out | exact sz_small (by decide))).mono ?_
  (first | rw [s_ab] | rw [s_bc] | rw [s_ac] | rw [s_ba] | rw [s_aa] | rw [s_at] | rw [s_ta])
  rintro e wn ⟨rfl, hbn⟩
  replace HS := Lib.hid (HS.out.below hbn)
  clear hbn
  refine hKX.out _ _ ⟨HS.out.cell (g := g) (a := a) (by simp), HS.out.cell (g := g + 1) (a := b) (by simp), HS.out.cell (g := g + 2) (a := c) (by simp), HS.out.cell (g := g + 3) (a := (7, ⟨#[]⟩)) (by simp)⟩ (fun hHeld => ?_)
  clear hKX KX
  try go_frame
  refine wpAnyH_take (i := 17) (oi := _) (v := ?_) (by simp only [List.getElem?_toArray, List.getElem?_cons_succ, List.getElem?_cons_zero]; rfl) (by kernel_rfl) (by kernel_rfl) (by kernel_rfl) (by intro _ _ _ h; exact h) (Or.inl ⟨by rfl, fun W hSw => ?_⟩) hHeld ?_
  rotate_left 1
  · (clear hSw; first | (go_simp; done) | (go_simp; with_reducible rfl) | (go_simp; exact HIF.out W))
  try go_frame
  refine wpAnyH_take (i := 18) (oi := _) (v := ?_) (by simp only [List.getElem?_toArray, List.getElem?_cons_succ, List.getElem?_cons_zero]; rfl) (by kernel_rfl) (by kernel_rfl) (by kernel_rfl) (by intro _ _ _ h; exact h) (Or.inl ⟨by rfl, fun W hSw => ?_⟩) hHeld ?_
  rotate_left 1
  · (clear hSw; first | (go_simp; done) | (go_simp; with_reducible rfl) | (go_simp; exact HIF.out W))
  try go_frame
  refine wpAnyH_take (i := 19) (oi := _) (v := ?_) (by simp only [List.getElem?_toArray, List.getElem?_cons_succ, List.getElem?_cons_zero]; rfl) (by kernel_rfl) (by kernel_rfl) (by kernel_rfl) (by intro _ _ _ h; exact h) (Or.inl ⟨by rfl, fun W hSw => ?_⟩) hHeld ?_
  rotate_left 1
  · (clear hSw; first | (go_simp; done) | (go_simp; with_reducible rfl) | (go_simp; exact HIF.out W))
  try go_frame
  refine wpAnyH_take (i := 20) (oi := _) (v := ?_) (by simp only [List.getElem?_toArray, List.getElem?_cons_succ, List.getElem?_cons_zero]; rfl) (by kernel_rfl) (by kernel_rfl) (by kernel_rfl) (by intro _ _ _ h; exact h) (Or.inl ⟨by rfl, fun W hSw => ?_⟩) hHeld ?_
  rotate_left 1
  · (try dsimp only at hSw); first | (go_simp; done) | (go_simp; with_reducible rfl)
  try go_frame
  refine wpAnyH_take (i := 21) (oi := _) (v := ?_) (by simp only [List.getElem?_toArray, List.getElem?_cons_succ, List.getElem?_cons_zero]; rfl) (by kernel_rfl) (by kernel_rfl) (by kernel_rfl) (by intro _ _ _ h; exact h) (Or.inl ⟨by rfl, fun W hSw => ?_⟩) hHeld ?_
  rotate_left 1
  · (try dsimp only at hSw); first | (go_simp; done) | (go_simp; with_reducible rfl)
  try go_frame
  refine wpAnyH_take (i := 23) (oi := _) (v := ?_) (by simp only [List.getElem?_toArray, List.getElem?_cons_succ, List.getElem?_cons_zero]; rfl) (by kernel_rfl) (by kernel_rfl) (by kernel_rfl) (by intro _ _ _ h; exact h) (Or.inl ⟨by rfl, fun W hSw => ?_⟩) hHeld ?_
  rotate_left 1
  · (try dsimp only at hSw); first | (go_simp; done) | (go_simp; with_reducible rfl)
  try go_frame
  refine wpAnyH_take (i := 24) (oi := _) (v := ?_) (by simp only [List.getElem?_toArray, List.getElem?_cons_succ, List.getElem?_cons_zero]; rfl) (by kernel_rfl) (by kernel_rfl) (by kernel_rfl) (by intro _ _ _ h; exact h) (Or.inl ⟨by rfl, fun W hSw => ?_⟩) hHeld ?_
  rotate_left 1
  · (try dsimp only at hSw); first | (go_simp; done) | (go_simp; with_reducible rfl)
  try go_frame
  refine wpAnyH_take (i := 25) (oi := _) (v := ?_) (by simp only [List.getElem?_toArray, List.getElem?_cons_succ, List.getElem?_cons_zero]; rfl) (by kernel_rfl) (by kernel_rfl) (by kernel_rfl) (by intro _ _ _ h; exact h) (Or.inl ⟨by rfl, fun W hSw => ?_⟩) hHeld ?_
  rotate_left 1
  · (clear hSw; first | (go_simp; done) | (go_simp; with_reducible rfl) | (go_simp; exact HIF.out W))
  try go_frame
  refine wpAnyH_ready (rs := [22]) (by kernel_rfl) (by simp) ?_
  refine AllReadyH.cons (o := _) (by simp only [List.getElem?_toArray, List.getElem?_cons_succ, List.getElem?_cons_zero]; rfl) (fun KX hKX => ?_) AllReadyH.nil
  clear hHeld
  go_simp
  refine (fits_c HS.out HK.out (by first | exact ZA.out | exact ZB.out | exact ZC.out | exact sz_small (by decide)) (by first | exact ZA.out | exact ZB.out | exact ZC.out | exact sz_small (by decide))).mono ?_
  (first | rw [s_ab] | rw [s_bc] | rw [s_ac] | rw [s_ba] | rw [s_aa] | rw [s_at] | rw [s_ta])
  rintro e wn ⟨rfl, hbn⟩
  replace HS := Lib.hid (HS.out.below hbn)
  clear hbn
  refine hKX.out _ _ ⟨HS.out.cell (g := g) (a := a) (by simp), HS.out.cell (g := g + 1) (a := b) (by simp), HS.out.cell (g := g + 2) (a := c) (by simp), HS.out.cell (g := g + 3) (a := (7, ⟨#[]⟩)) (by simp)⟩ (fun hHeld => ?_)
  clear hKX KX
  try go_frame
  refine wpAnyH_take (i := 26) (oi := _) (v := ?_) (by simp only [List.getElem?_toArray, List.getElem?_cons_succ, List.getElem?_cons_zero]; rfl) (by kernel_rfl) (by kernel_rfl) (by kernel_rfl) (by intro _ _ _ h; exact h) (Or.inl ⟨by rfl, fun W hSw => ?_⟩) hHeld ?_
  rotate_left 1
  · (clear hSw; first | (go_simp; done) | (go_simp; with_reducible rfl) | (go_simp; exact HIF.out W))
  try go_frame
  refine wpAnyH_take (i := 27) (oi := _) (v := ?_) (by simp only [List.getElem?_toArray, List.getElem?_cons_succ, List.getElem?_cons_zero]; rfl) (by kernel_rfl) (by kernel_rfl) (by kernel_rfl) (by intro _ _ _ h; exact h) (Or.inl ⟨by rfl, fun W hSw => ?_⟩) hHeld ?_
  rotate_left 1
  · (clear hSw; first | (go_simp; done) | (go_simp; with_reducible rfl) | (go_simp; exact HIF.out W))
  try go_frame
  refine wpAnyH_take (i := 28) (oi := _) (v := ?_) (by simp only [List.getElem?_toArray, List.getElem?_cons_succ, List.getElem?_cons_zero]; rfl) (by kernel_rfl) (by kernel_rfl) (by kernel_rfl) (by intro _ _ _ h; exact h) (Or.inl ⟨by rfl, fun W hSw => ?_⟩) hHeld ?_
  rotate_left 1
  · (clear hSw; first | (go_simp; done) | (go_simp; with_reducible rfl) | (go_simp; exact HIF.out W))
  try go_frame
  refine wpAnyH_take (i := 29) (oi := _) (v := ?_) (by simp only [List.getElem?_toArray, List.getElem?_cons_succ, List.getElem?_cons_zero]; rfl) (by kernel_rfl) (by kernel_rfl) (by kernel_rfl) (by intro _ _ _ h; exact h) (Or.inl ⟨by rfl, fun W hSw => ?_⟩) hHeld ?_
  rotate_left 1
  · (clear hSw; first | (go_simp; done) | (go_simp; with_reducible rfl) | (go_simp; exact HIF.out W))
  try go_frame
  refine wpAnyH_take (i := 30) (oi := _) (v := ?_) (by simp only [List.getElem?_toArray, List.getElem?_cons_succ, List.getElem?_cons_zero]; rfl) (by kernel_rfl) (by kernel_rfl) (by kernel_rfl) (by intro _ _ _ h; exact h) (Or.inl ⟨by rfl, fun W hSw => ?_⟩) hHeld ?_
  rotate_left 1
  · (try dsimp only at hSw); first | (go_simp; done) | (go_simp; with_reducible rfl)
  try go_frame
  refine wpAnyH_take (i := 31) (oi := _) (v := ?_) (by simp only [List.getElem?_toArray, List.getElem?_cons_succ, List.getElem?_cons_zero]; rfl) (by kernel_rfl) (by kernel_rfl) (by kernel_rfl) (by intro _ _ _ h; exact h) (Or.inl ⟨by rfl, fun W hSw => ?_⟩) hHeld ?_
  rotate_left 1
  · (try dsimp only at hSw); first | (go_simp; done) | (go_simp; with_reducible rfl)
  try go_frame
  refine wpAnyH_ready (rs := [32]) (by kernel_rfl) (by simp) ?_
  refine AllReadyH.cons (o := _) (by simp only [List.getElem?_toArray, List.getElem?_cons_succ, List.getElem?_cons_zero]; rfl) (fun KX hKX => ?_) AllReadyH.nil
  clear hHeld
  go_simp
  refine (fits_c HS.out HK.out (by first | exact ZA.out | exact ZB.out | exact ZC.out | exact sz_small (by decide)) (by first | exact ZA.out | exact ZB.out | exact ZC.out | exact sz_small (by decide))).mono ?_
  (first | rw [s_ab] | rw [s_bc] | rw [s_ac] | rw [s_ba] | rw [s_aa] | rw [s_at] | rw [s_ta])
  rintro e wn ⟨rfl, hbn⟩
  replace HS := Lib.hid (HS.out.below hbn)
  clear hbn
  refine hKX.out _ _ ⟨HS.out.cell (g := g) (a := a) (by simp), HS.out.cell (g := g + 1) (a := b) (by simp), HS.out.cell (g := g + 2) (a := c) (by simp), HS.out.cell (g := g + 3) (a := (7, ⟨#[]⟩)) (by simp)⟩ (fun hHeld => ?_)
  clear hKX KX
  try go_frame
  refine wpAnyH_take (i := 33) (oi := _) (v := ?_) (by simp only [List.getElem?_toArray, List.getElem?_cons_succ, List.getElem?_cons_zero]; rfl) (by kernel_rfl) (by kernel_rfl) (by kernel_rfl) (by intro _ _ _ h; exact h) (Or.inl ⟨by rfl, fun W hSw => ?_⟩) hHeld ?_
  rotate_left 1
  · (clear hSw; first | (go_simp; done) | (go_simp; with_reducible rfl) | (go_simp; exact HIF.out W))
  try go_frame
  refine wpAnyH_take (i := 34) (oi := _) (v := ?_) (by simp only [List.getElem?_toArray, List.getElem?_cons_succ, List.getElem?_cons_zero]; rfl) (by kernel_rfl) (by kernel_rfl) (by kernel_rfl) (by intro _ _ _ h; exact h) (Or.inl ⟨by rfl, fun W hSw => ?_⟩) hHeld ?_
  rotate_left 1
  · (clear hSw; first | (go_simp; done) | (go_simp; with_reducible rfl) | (go_simp; exact HIF.out W))
  try go_frame
  refine wpAnyH_take (i := 35) (oi := _) (v := ?_) (by simp only [List.getElem?_toArray, List.getElem?_cons_succ, List.getElem?_cons_zero]; rfl) (by kernel_rfl) (by kernel_rfl) (by kernel_rfl) (by intro _ _ _ h; exact h) (Or.inl ⟨by rfl, fun W hSw => ?_⟩) hHeld ?_
  rotate_left 1
  · (clear hSw; first | (go_simp; done) | (go_simp; with_reducible rfl) | (go_simp; exact HIF.out W))
  try go_frame
  refine wpAnyH_take (i := 36) (oi := _) (v := ?_) (by simp only [List.getElem?_toArray, List.getElem?_cons_succ, List.getElem?_cons_zero]; rfl) (by kernel_rfl) (by kernel_rfl) (by kernel_rfl) (by intro _ _ _ h; exact h) (Or.inl ⟨by rfl, fun W hSw => ?_⟩) hHeld ?_
  rotate_left 1
  · (clear hSw; first | (go_simp; done) | (go_simp; with_reducible rfl) | (go_simp; exact HIF.out W))
  try go_frame
  refine wpAnyH_take (i := 37) (oi := _) (v := ?_) (by simp only [List.getElem?_toArray, List.getElem?_cons_succ, List.getElem?_cons_zero]; rfl) (by kernel_rfl) (by kernel_rfl) (by kernel_rfl) (by intro _ _ _ h; exact h) (Or.inl ⟨by rfl, fun W hSw => ?_⟩) hHeld ?_
  rotate_left 1
  · (try dsimp only at hSw); first | (go_simp; done) | (go_simp; with_reducible rfl)
  try go_frame
  refine wpAnyH_take (i := 38) (oi := _) (v := ?_) (by simp only [List.getElem?_toArray, List.getElem?_cons_succ, List.getElem?_cons_zero]; rfl) (by kernel_rfl) (by kernel_rfl) (by kernel_rfl) (by intro _ _ _ h; exact h) (Or.inl ⟨by rfl, fun W hSw => ?_⟩) hHeld ?_
  rotate_left 1
  · (try dsimp only at hSw); first | (go_simp; done) | (go_simp; with_reducible rfl)
  try go_frame
  refine wpAnyH_ready (rs := [39]) (by kernel_rfl) (by simp) ?_
  refine AllReadyH.cons (o := _) (by simp only [List.getElem?_toArray, List.getElem?_cons_succ, List.getElem?_cons_zero]; rfl) (fun KX hKX => ?_) AllReadyH.nil
  clear hHeld
  go_simp
  refine (fits_c HS.out HK.out (by first | exact ZA.out | exact ZB.out | exact ZC.out | exact sz_small (by decide)) (by first | exact ZA.out | exact ZB.out | exact ZC.out | exact sz_small (by decide))).mono ?_
  (first | rw [s_ab] | rw [s_bc] | rw [s_ac] | rw [s_ba] | rw [s_aa] | rw [s_at] | rw [s_ta])
  rintro e wn ⟨rfl, hbn⟩
  replace HS := Lib.hid (HS.out.below hbn)
  clear hbn
  refine hKX.out _ _ ⟨HS.out.cell (g := g) (a := a) (by simp), HS.out.cell (g := g + 1) (a := b) (by simp), HS.out.cell (g := g + 2) (a := c) (by simp), HS.out.cell (g := g + 3) (a := (7, ⟨#[]⟩)) (by simp)⟩ (fun hHeld => ?_)
  clear hKX KX
  try go_frame
  refine wpAnyH_take (i := 40) (oi := _) (v := ?_) (by simp only [List.getElem?_toArray, List.getElem?_cons_succ, List.getElem?_cons_zero]; rfl) (by kernel_rfl) (by kernel_rfl) (by kernel_rfl) (by intro _ _ _ h; exact h) (Or.inl ⟨by rfl, fun W hSw => ?_⟩) hHeld ?_
  rotate_left 1
  · (clear hSw; first | (go_simp; done) | (go_simp; with_reducible rfl) | (go_simp; exact HIF.out W))
  try go_frame
  refine wpAnyH_take (i := 41) (oi := _) (v := ?_) (by simp only [List.getElem?_toArray, List.getElem?_cons_succ, List.getElem?_cons_zero]; rfl) (by kernel_rfl) (by kernel_rfl) (by kernel_rfl) (by intro _ _ _ h; exact h) (Or.inl ⟨by rfl, fun W hSw => ?_⟩) hHeld ?_
  rotate_left 1
  · (clear hSw; first | (go_simp; done) | (go_simp; with_reducible rfl) | (go_simp; exact HIF.out W))
  try go_frame
  refine wpAnyH_take (i := 42) (oi := _) (v := ?_) (by simp only [List.getElem?_toArray, List.getElem?_cons_succ, List.getElem?_cons_zero]; rfl) (by kernel_rfl) (by kernel_rfl) (by kernel_rfl) (by intro _ _ _ h; exact h) (Or.inl ⟨by rfl, fun W hSw => ?_⟩) hHeld ?_
  rotate_left 1
  · (clear hSw; first | (go_simp; done) | (go_simp; with_reducible rfl) | (go_simp; exact HIF.out W))
  try go_frame
  refine wpAnyH_take (i := 43) (oi := _) (v := ?_) (by simp only [List.getElem?_toArray, List.getElem?_cons_succ, List.getElem?_cons_zero]; rfl) (by kernel_rfl) (by kernel_rfl) (by kernel_rfl) (by intro _ _ _ h; exact h) (Or.inl ⟨by rfl, fun W hSw => ?_⟩) hHeld ?_
  rotate_left 1
  · (try dsimp only at hSw); first | (go_simp; done) | (go_simp; with_reducible rfl)
  try go_frame
  refine wpAnyH_ready (rs := [44]) (by kernel_rfl) (by simp) ?_
  refine AllReadyH.cons (o := _) (by simp only [List.getElem?_toArray, List.getElem?_cons_succ, List.getElem?_cons_zero]; rfl) (fun KX hKX => ?_) AllReadyH.nil
  clear hHeld
  go_simp
  refine refers_c.mono ?_
  (first | rw [r_a] | rw [r_b])
  rintro e wn ⟨rfl, hbn⟩
  replace HS := Lib.hid (HS.out.below hbn)
  clear hbn
  refine hKX.out _ _ ⟨HS.out.cell (g := g) (a := a) (by simp), HS.out.cell (g := g + 1) (a := b) (by simp), HS.out.cell (g := g + 2) (a := c) (by simp), HS.out.cell (g := g + 3) (a := (7, ⟨#[]⟩)) (by simp)⟩ (fun hHeld => ?_)
  clear hKX KX
  try go_frame
  refine wpAnyH_take (i := 45) (oi := _) (v := ?_) (by simp only [List.getElem?_toArray, List.getElem?_cons_succ, List.getElem?_cons_zero]; rfl) (by kernel_rfl) (by kernel_rfl) (by kernel_rfl) (by intro _ _ _ h; exact h) (Or.inl ⟨by rfl, fun W hSw => ?_⟩) hHeld ?_
  rotate_left 1
  · (clear hSw; first | (go_simp; done) | (go_simp; with_reducible rfl) | (go_simp; exact HIF.out W))
  try go_frame
  refine wpAnyH_take (i := 46) (oi := _) (v := ?_) (by simp only [List.getElem?_toArray, List.getElem?_cons_succ, List.getElem?_cons_zero]; rfl) (by kernel_rfl) (by kernel_rfl) (by kernel_rfl) (by intro _ _ _ h; exact h) (Or.inl ⟨by rfl, fun W hSw => ?_⟩) hHeld ?_
  rotate_left 1
  · (clear hSw; first | (go_simp; done) | (go_simp; with_reducible rfl) | (go_simp; exact HIF.out W))
  try go_frame
  refine wpAnyH_take (i := 47) (oi := _) (v := ?_) (by simp only [List.getElem?_toArray, List.getElem?_cons_succ, List.getElem?_cons_zero]; rfl) (by kernel_rfl) (by kernel_rfl) (by kernel_rfl) (by intro _ _ _ h; exact h) (Or.inl ⟨by rfl, fun W hSw => ?_⟩) hHeld ?_
  rotate_left 1
  · (clear hSw; first | (go_simp; done) | (go_simp; with_reducible rfl) | (go_simp; exact HIF.out W))
  try go_frame
  refine wpAnyH_take (i := 48) (oi := _) (v := ?_) (by simp only [List.getElem?_toArray, List.getElem?_cons_succ, List.getElem?_cons_zero]; rfl) (by kernel_rfl) (by kernel_rfl) (by kernel_rfl) (by intro _ _ _ h; exact h) (Or.inl ⟨by rfl, fun W hSw => ?_⟩) hHeld ?_
  rotate_left 1
  · (try dsimp only at hSw); first | (go_simp; done) | (go_simp; with_reducible rfl)
  try go_frame
  refine wpAnyH_take (i := 49) (oi := _) (v := ?_) (by simp only [List.getElem?_toArray, List.getElem?_cons_succ, List.getElem?_cons_zero]; rfl) (by kernel_rfl) (by kernel_rfl) (by kernel_rfl) (by intro _ _ _ h; exact h) (Or.inl ⟨by rfl, fun W hSw => ?_⟩) hHeld ?_
  rotate_left 1
  · (try dsimp only at hSw); first | (go_simp; done) | (go_simp; with_reducible rfl)
  try go_frame
  refine wpAnyH_ready (rs := [50]) (by kernel_rfl) (by simp) ?_
  refine AllReadyH.cons (o := _) (by simp only [List.getElem?_toArray, List.getElem?_cons_succ, List.getElem?_cons_zero]; rfl) (fun KX hKX => ?_) AllReadyH.nil
  clear hHeld
  go_simp
  refine (fits_c HS.out HK.out (by first | exact ZA.out | exact ZB.out | exact ZC.out | exact sz_small (by decide)) (by first | exact ZA.out | exact ZB.out | exact ZC.out | exact sz_small (by decide))).mono ?_
  (first | rw [s_ab] | rw [s_bc] | rw [s_ac] | rw [s_ba] | rw [s_aa] | rw [s_at] | rw [s_ta])
  rintro e wn ⟨rfl, hbn⟩
  replace HS := Lib.hid (HS.out.below hbn)
  clear hbn
  refine hKX.out _ _ ⟨HS.out.cell (g := g) (a := a) (by simp), HS.out.cell (g := g + 1) (a := b) (by simp), HS.out.cell (g := g + 2) (a := c) (by simp), HS.out.cell (g := g + 3) (a := (7, ⟨#[]⟩)) (by simp)⟩ (fun hHeld => ?_)
  clear hKX KX
  try go_frame
  refine wpAnyH_take (i := 51) (oi := _) (v := ?_) (by simp only [List.getElem?_toArray, List.getElem?_cons_succ, List.getElem?_cons_zero]; rfl) (by kernel_rfl) (by kernel_rfl) (by kernel_rfl) (by intro _ _ _ h; exact h) (Or.inl ⟨by rfl, fun W hSw => ?_⟩) hHeld ?_
  rotate_left 1
  · (clear hSw; first | (go_simp; done) | (go_simp; with_reducible rfl) | (go_simp; exact HIF.out W))
  try go_frame
  refine wpAnyH_take (i := 52) (oi := _) (v := ?_) (by simp only [List.getElem?_toArray, List.getElem?_cons_succ, List.getElem?_cons_zero]; rfl) (by kernel_rfl) (by kernel_rfl) (by kernel_rfl) (by intro _ _ _ h; exact h) (Or.inl ⟨by rfl, fun W hSw => ?_⟩) hHeld ?_
  rotate_left 1
  · (clear hSw; first | (go_simp; done) | (go_simp; with_reducible rfl) | (go_simp; exact HIF.out W))
  try go_frame
  refine wpAnyH_take (i := 53) (oi := _) (v := ?_) (by simp only [List.getElem?_toArray, List.getElem?_cons_succ, List.getElem?_cons_zero]; rfl) (by kernel_rfl) (by kernel_rfl) (by kernel_rfl) (by intro _ _ _ h; exact h) (Or.inl ⟨by rfl, fun W hSw => ?_⟩) hHeld ?_
  rotate_left 1
  · (clear hSw; first | (go_simp; done) | (go_simp; with_reducible rfl) | (go_simp; exact HIF.out W))
  try go_frame
  refine wpAnyH_take (i := 54) (oi := _) (v := ?_) (by simp only [List.getElem?_toArray, List.getElem?_cons_succ, List.getElem?_cons_zero]; rfl) (by kernel_rfl) (by kernel_rfl) (by kernel_rfl) (by intro _ _ _ h; exact h) (Or.inl ⟨by rfl, fun W hSw => ?_⟩) hHeld ?_
  rotate_left 1
  · (try dsimp only at hSw); first | (go_simp; done) | (go_simp; with_reducible rfl)
  try go_frame
  refine wpAnyH_ready (rs := [55]) (by kernel_rfl) (by simp) ?_
  refine AllReadyH.cons (o := _) (by simp only [List.getElem?_toArray, List.getElem?_cons_succ, List.getElem?_cons_zero]; rfl) (fun KX hKX => ?_) AllReadyH.nil
  clear hHeld
  go_simp
  refine refers_c.mono ?_
  (first | rw [r_a] | rw [r_b])
  rintro e wn ⟨rfl, hbn⟩
  replace HS := Lib.hid (HS.out.below hbn)
  clear hbn
  refine hKX.out _ _ ⟨HS.out.cell (g := g) (a := a) (by simp), HS.out.cell (g := g + 1) (a := b) (by simp), HS.out.cell (g := g + 2) (a := c) (by simp), HS.out.cell (g := g + 3) (a := (7, ⟨#[]⟩)) (by simp)⟩ (fun hHeld => ?_)
  clear hKX KX
  try go_frame
  refine wpAnyH_take (i := 56) (oi := _) (v := ?_) (by simp only [List.getElem?_toArray, List.getElem?_cons_succ, List.getElem?_cons_zero]; rfl) (by kernel_rfl) (by kernel_rfl) (by kernel_rfl) (by intro _ _ _ h; exact h) (Or.inl ⟨by rfl, fun W hSw => ?_⟩) hHeld ?_
  rotate_left 1
  · (clear hSw; first | (go_simp; done) | (go_simp; with_reducible rfl) | (go_simp; exact HIF.out W))
  try go_frame
  refine wpAnyH_take (i := 57) (oi := _) (v := ?_) (by simp only [List.getElem?_toArray, List.getElem?_cons_succ, List.getElem?_cons_zero]; rfl) (by kernel_rfl) (by kernel_rfl) (by kernel_rfl) (by intro _ _ _ h; exact h) (Or.inl ⟨by rfl, fun W hSw => ?_⟩) hHeld ?_
  rotate_left 1
  · (clear hSw; first | (go_simp; done) | (go_simp; with_reducible rfl) | (go_simp; exact HIF.out W))
  try go_frame
  refine wpAnyH_take (i := 58) (oi := _) (v := ?_) (by simp only [List.getElem?_toArray, List.getElem?_cons_succ, List.getElem?_cons_zero]; rfl) (by kernel_rfl) (by kernel_rfl) (by kernel_rfl) (by intro _ _ _ h; exact h) (Or.inl ⟨by rfl, fun W hSw => ?_⟩) hHeld ?_
  rotate_left 1
  · (clear hSw; first | (go_simp; done) | (go_simp; with_reducible rfl) | (go_simp; exact HIF.out W))
  try go_frame
  refine wpAnyH_take (i := 59) (oi := _) (v := ?_) (by simp only [List.getElem?_toArray, List.getElem?_cons_succ, List.getElem?_cons_zero]; rfl) (by kernel_rfl) (by kernel_rfl) (by kernel_rfl) (by intro _ _ _ h; exact h) (Or.inl ⟨by rfl, fun W hSw => ?_⟩) hHeld ?_
  rotate_left 1
  · (clear hSw; first | (go_simp; done) | (go_simp; with_reducible rfl) | (go_simp; exact HIF.out W))
  try go_frame
  refine wpAnyH_take (i := 60) (oi := _) (v := ?_) (by simp only [List.getElem?_toArray, List.getElem?_cons_succ, List.getElem?_cons_zero]; rfl) (by kernel_rfl) (by kernel_rfl) (by kernel_rfl) (by intro _ _ _ h; exact h) (Or.inl ⟨by rfl, fun W hSw => ?_⟩) hHeld ?_
  rotate_left 1
  · (try dsimp only at hSw); first | (go_simp; done) | (go_simp; with_reducible rfl)
  try go_frame
  refine wpAnyH_take (i := 61) (oi := _) (v := ?_) (by simp only [List.getElem?_toArray, List.getElem?_cons_succ, List.getElem?_cons_zero]; rfl) (by kernel_rfl) (by kernel_rfl) (by kernel_rfl) (by intro _ _ _ h; exact h) (Or.inl ⟨by rfl, fun W hSw => ?_⟩) hHeld ?_
  rotate_left 1
  · (try dsimp only at hSw); first | (go_simp; done) | (go_simp; with_reducible rfl)
  try go_frame
  refine wpAnyH_take (i := 63) (oi := _) (v := ?_) (by simp only [List.getElem?_toArray, List.getElem?_cons_succ, List.getElem?_cons_zero]; rfl) (by kernel_rfl) (by kernel_rfl) (by kernel_rfl) (by intro _ _ _ h; exact h) (Or.inl ⟨by rfl, fun W hSw => ?_⟩) hHeld ?_
  rotate_left 1
  · (try dsimp only at hSw); first | (go_simp; done) | (go_simp; with_reducible rfl)
  try go_frame
  refine wpAnyH_ready (rs := [62]) (by kernel_rfl) (by simp) ?_
  refine AllReadyH.cons (o := _) (by simp only [List.getElem?_toArray, List.getElem?_cons_succ, List.getElem?_cons_zero]; rfl) (fun KX hKX => ?_) AllReadyH.nil
  clear hHeld
  go_simp
  refine (join_c HS.out HK.out (by first | exact ZA.out | exact ZB.out | exact ZC.out | exact sz_small (by decide)) (by first | exact ZA.out | exact ZB.out | exact ZC.out | exact sz_small (by decide))).mono ?_
  (first | rw [j_at]); rw [tyv_eta]
  rintro e wn ⟨rfl, hbn⟩
  replace HS := Lib.hid (HS.out.below hbn)
  clear hbn
  refine hKX.out _ _ ⟨HS.out.cell (g := g) (a := a) (by simp), HS.out.cell (g := g + 1) (a := b) (by simp), HS.out.cell (g := g + 2) (a := c) (by simp), HS.out.cell (g := g + 3) (a := (7, ⟨#[]⟩)) (by simp)⟩ (fun hHeld => ?_)
  clear hKX KX
  try go_frame
  refine wpAnyH_take (i := 64) (oi := _) (v := ?_) (by simp only [List.getElem?_toArray, List.getElem?_cons_succ, List.getElem?_cons_zero]; rfl) (by kernel_rfl) (by kernel_rfl) (by kernel_rfl) (by intro _ _ _ h; exact h) (Or.inl ⟨by rfl, fun W hSw => ?_⟩) hHeld ?_
  rotate_left 1
  · (clear hSw; first | (go_simp; done) | (go_simp; with_reducible rfl) | (go_simp; exact HIF.out W))
  try go_frame
  refine wpAnyH_take (i := 65) (oi := _) (v := ?_) (by simp only [List.getElem?_toArray, List.getElem?_cons_succ, List.getElem?_cons_zero]; rfl) (by kernel_rfl) (by kernel_rfl) (by kernel_rfl) (by intro _ _ _ h; exact h) (Or.inl ⟨by rfl, fun W hSw => ?_⟩) hHeld ?_
  rotate_left 1
  · (clear hSw; first | (go_simp; done) | (go_simp; with_reducible rfl) | (go_simp; exact HIF.out W))
  try go_frame
  refine wpAnyH_take (i := 66) (oi := _) (v := ?_) (by simp only [List.getElem?_toArray, List.getElem?_cons_succ, List.getElem?_cons_zero]; rfl) (by kernel_rfl) (by kernel_rfl) (by kernel_rfl) (by intro _ _ _ h; exact h) (Or.inl ⟨by rfl, fun W hSw => ?_⟩) hHeld ?_
  rotate_left 1
  · (clear hSw; first | (go_simp; done) | (go_simp; with_reducible rfl) | (go_simp; exact HIF.out W))
  try go_frame
  refine wpAnyH_done (by kernel_rfl) ?_ _
  go_wp2_with fail
  go_ret
  exact ⟨rfl, HB2.out.trans (HS.out.2.2.mono HB2.out.size)⟩
end Go.Proofs.Ytdjciahaohfohaa.R
