/- Texts that the proof is made of, joined. No condition. -/
import Derived.Test.YtdjciahaohfohaaC1115
import Derived.Deep.DeepCutAuto
import Derived.Deep.CutBlock
import Derived.Test.YtdjciahaohfohaaC11H
set_option linter.unusedVariables false
set_option linter.unusedSimpArgs false
set_option maxRecDepth 100000
set_option maxHeartbeats 16000000
namespace Go.Proofs.Ytdjciahaohfohaa.R
open Go.RowKit Go.Proofs.Ytdjciahaohfohaa.D Go.Proofs.Ytdjciahaohfohaa.O Go.Proofs.Ytdjciahaohfohaa.A
theorem nu_r (T : List Sk) {a : Ty} (h : a.1 = 3 ∨ a.1 = 4) : joinT T a (6, ⟨#[]⟩) = a ∧ joinT T (6, ⟨#[]⟩) a = a ∧ fitsT T (6, ⟨#[]⟩) a = true ∧ refB a = true := by
  have h6 : a ≠ (6, ⟨#[]⟩) := fun e => by rw [e] at h; simp at h
  have h6' : a ≠ nulT := h6
  refine ⟨?_, ?_, ?_, ?_⟩
  · unfold joinT
    rw [if_neg h6, if_neg (fun k => h6' k.1), if_pos ⟨rfl, h⟩]
  · unfold joinT
    rw [if_neg (fun k => h6 k.symm), if_pos ⟨rfl, h⟩]
  · unfold fitsT
    rw [if_neg (fun k => by simp at k), if_pos ⟨rfl, h⟩]
  · unfold refB
    rcases h with h | h <;> simp [h]
theorem nu_n (T : List Sk) : joinT T (6, ⟨#[]⟩) (6, ⟨#[]⟩) = (6, ⟨#[]⟩) ∧ fitsT T (6, ⟨#[]⟩) (6, ⟨#[]⟩) = true ∧ refB (6, ⟨#[]⟩) = true := by
  refine ⟨if_pos rfl, ?_, by decide⟩
  unfold fitsT
  rw [if_neg (fun k => by simp at k), if_neg (fun k => by simp at k)]
  simp
theorem nu_o (T : List Sk) {k : Int} {s : ByteArray} (k3 : ¬ k = 3) (k4 : ¬ k = 4) (k6 : ¬ k = 6) : joinT T (k, s) (6, ⟨#[]⟩) = (7, ⟨#[]⟩) ∧ joinT T (6, ⟨#[]⟩) (k, s) = (7, ⟨#[]⟩) ∧ fitsT T (6, ⟨#[]⟩) (k, s) = false ∧ fitsT T (k, s) (6, ⟨#[]⟩) = false ∧ refB (k, s) = false := by
  have h6 : ((k, s) : Ty) ≠ (6, ⟨#[]⟩) := fun e => k6 (congrArg Prod.fst e)
  have h6' : ((k, s) : Ty) ≠ nulT := h6
  refine ⟨?_, ?_, ?_, ?_, ?_⟩
  · unfold joinT
    rw [if_neg h6, if_neg (fun h => h6' h.1), if_neg (fun h => h.2.elim k3 k4), if_neg (fun h => k4 h.1)]; rfl
  · unfold joinT
    rw [if_neg (fun h => h6 h.symm), if_neg (fun h => h.2.elim k3 k4), if_neg (fun h => h6' h.1), if_neg (fun h => by simp at h)]; rfl
  · unfold fitsT
    rw [if_neg (fun h => by simp at h), if_neg (fun h => h.2.elim k3 k4), decide_eq_false (fun h => h6 h.symm)]; rfl
  · unfold fitsT
    rw [if_neg (fun h => k4 h.1), if_neg (fun h => k6 h.1), decide_eq_false h6]; rfl
  · unfold refB
    simp [k3, k4, k6]
theorem tyv_mk (k : Int) (s : ByteArray) : tyv (k, s) = .agg #[.int .i64 k, .string s] := rfl
set_option maxHeartbeats 8000000 in
set_option maxRecDepth 100000 in
theorem nulls_p1 (k0 k1 k2 k3 x : Nat) (w : World) (h0 : k0 < 256) (h1 : k1 < 256) (h2 : k2 < 256) (h3 : k3 < 256) (hx : x < 256) (pa : ofJ x ⟨#[65]⟩ = (3, ⟨#[]⟩)) :
    Calls Try.prog 5 #[.agg #[.int .u8 (k0 : Int), .int .u8 (k1 : Int), .int .u8 (k2 : Int), .int .u8 (k3 : Int)], .int .u8 (x : Int)] w fun e w' => e = .returned (.bool true) ∧ Below w.heap.size w w' := by
  obtain ⟨w0, hw0⟩ : ∃ x, x = w.alloc (.cells #[.int .u8 (k0 : Int), .int .u8 (k1 : Int), .int .u8 (k2 : Int), .int .u8 (k3 : Int)] 22) := ⟨_, rfl⟩
  have HB0 : Hid (Below w.heap.size w w0) := Lib.hid (by rw [hw0]; exact below_alR _ _)
  have HX0 : Hid (w0.heap[w.heap.size]? = some (.cells #[.int .u8 (k0 : Int), .int .u8 (k1 : Int), .int .u8 (k2 : Int), .int .u8 (k3 : Int)] 22 (0, 0))) := Lib.hid (by rw [hw0]; exact heap_alloc_new _ _)
  go_enter Try.func5, Try.ntmps5
  try simp only [List.append_eq, List.cons_append, List.nil_append]
  go_wp2_with fail
  rw [← hw0]
  clear hw0
  obtain ⟨kb, hkb⟩ : ∃ x, w.heap.size = x := ⟨_, rfl⟩
  rw [hkb] at HX0 ⊢
  have HKB := Lib.hid hkb
  clear hkb
  refine (known_11 w0).mono ?_
  rintro e w1 ⟨rfl, hb1⟩
  have hX1 := (hb1.block _ (Array.getElem?_eq_some_iff.1 HX0.out).1).trans HX0.out
  have HB1 := Lib.hid (HB0.out.trans (hb1.mono HB0.out.size))
  obtain ⟨xl, xc, -⟩ := boxN hX1
  have x0 := xc 0 _ rfl
  have x1 := xc 1 _ rfl
  have x2 := xc 2 _ rfl
  have x3 := xc 3 _ rfl
  simp only [Nat.zero_add] at x0 x1 x2 x3
  clear hb1 hX1 HX0 HB0 xc
  go_wp2_with fail
  refine (archive_0 k0 k1 k2 k3 w1 h0 h1 h2 h3).mono ?_
  rintro e w2 ⟨p1, n1, c1, rfl, hr1, hb2⟩
  obtain ⟨_, _, e1, -⟩ := hr1.len
  simp only [Value.slice.injEq] at e1
  obtain ⟨rfl, rfl, rfl⟩ := e1
  have HR1 := Lib.hid hr1
  have HB2 := Lib.hid (HB1.out.trans (hb2.mono HB1.out.size))
  clear hr1 hb2 HB1 x0 x1 x2 x3 xl HKB
  go_wp2_with fail
  refine (seat_tree k0 k1 k2 k3 w2 _ _ _ HR1.out).mono ?_
  rintro e w3 ⟨tb, mb, vs, ok, K, rfl, hk3, hs3⟩
  have HS := Lib.hid hs3
  obtain ⟨T, hT⟩ : ∃ t, (tabT (bitS k0 3) (bitS k0 6) (bitS k2 2)) = t := ⟨_, rfl⟩
  rw [hT] at hk3
  have HK := Lib.hid hk3
  clear hk3 hs3 HR1
  clear hT
  obtain ⟨j_an, j_na, s_na, r_a⟩ := nu_r T (a := (3, ⟨#[]⟩)) (.inl rfl)
  go_upto_region 4 with fail
  go_upto_region 5 with (go_at_call 11; refine (of_y _ ⟨#[65]⟩ _ (by assumption)).mono ?_; rw [pa, tyv_mk]; rintro e wn ⟨rfl, hbn⟩; replace HS := Lib.hid (HS.out.below hbn); clear hbn)
  obtain ⟨wj, hwj⟩ : ∃ x, x = ((wn.alloc (.cells #[.int .i64 3, .string ⟨#[]⟩] 24)).alloc (.cells #[.int .i64 6, .string ⟨#[]⟩] 24)) := ⟨_, rfl⟩
  have hsj : StJ w2 wj ok tb mb vs K [(wn.heap.size + 1, (6, ⟨#[]⟩)), (wn.heap.size, (3, ⟨#[]⟩))] := by
    rw [hwj]
    have := ((HS.out.box (3, ⟨#[]⟩)).box (6, ⟨#[]⟩))
    simp only [World.size_alloc] at this
    exact this
  rw [← hwj]
  clear hwj
  obtain ⟨g, hg⟩ : ∃ z, wn.heap.size = z := ⟨_, rfl⟩
  rw [hg] at hsj ⊢
  replace HS := Lib.hid hsj
  clear hg hsj
  obtain ⟨al, a0, a1⟩ := HS.out.cell (g := g) (a := (3, ⟨#[]⟩)) (by simp)
  obtain ⟨nl, n0, n1⟩ := HS.out.cell (g := g + 1) (a := (6, ⟨#[]⟩)) (by simp)
  try dsimp only at a0 a1 n0 n1
  go_wp2_with fail
  refine (join_c HS.out HK.out (by exact sz_small (by decide)) (by exact sz_small (by decide))).mono ?_
  rw [j_an, tyv_mk]
  rintro e wn ⟨rfl, hbn⟩
  replace HS := Lib.hid (HS.out.below hbn)
  clear al a0 a1 nl n0 n1
  clear hbn
  go_upto_region 7 with fail
  obtain ⟨wj, hwj⟩ : ∃ x, x = wn.alloc (.cells #[.int .i64 3, .string ⟨#[]⟩] 24) := ⟨_, rfl⟩
  have hsj : StJ w2 wj ok tb mb vs K [(wn.heap.size, (3, ⟨#[]⟩)), (g + 1, (6, ⟨#[]⟩)), (g, (3, ⟨#[]⟩))] := by rw [hwj]; exact HS.out.box (3, ⟨#[]⟩)
  rw [← hwj]
  clear hwj
  obtain ⟨gj, hgj⟩ : ∃ z, wn.heap.size = z := ⟨_, rfl⟩
  rw [hgj] at hsj ⊢
  replace HS := Lib.hid (hsj.below (Below.refl wj.heap.size wj).drew)
  clear hsj hgj
  refine wp_region_held_drew (S := fun W => ((g) < W.heap.size ∧ W.cell? ⟨g, 0, none⟩ = some (.int .i64 3) ∧ W.cell? ⟨g, 1, none⟩ = some (.string ⟨#[]⟩)) ∧ ((g + 1) < W.heap.size ∧ W.cell? ⟨g + 1, 0, none⟩ = some (.int .i64 6) ∧ W.cell? ⟨g + 1, 1, none⟩ = some (.string ⟨#[]⟩)) ∧ ((gj) < W.heap.size ∧ W.cell? ⟨gj, 0, none⟩ = some (.int .i64 3) ∧ W.cell? ⟨gj, 1, none⟩ = some (.string ⟨#[]⟩))) (by kernel_rfl) ⟨HS.out.cell (g := g) (a := (3, ⟨#[]⟩)) (by simp), HS.out.cell (g := g + 1) (a := (6, ⟨#[]⟩)) (by simp), HS.out.cell (g := gj) (a := (3, ⟨#[]⟩)) (by simp)⟩ (fun hHeld => ?_)
  refine wpAnyH_take (i := 0) (oi := _) (v := ?_) (by simp only [List.getElem?_toArray, List.getElem?_cons_zero]; rfl) (by kernel_rfl) (by kernel_rfl) (by kernel_rfl) (by intro _ _ _ h; exact h) (Or.inl ⟨by rfl, fun W hSw => ?_⟩) hHeld ?_
  rotate_left 1
  · (clear hSw; first | (go_simp; done) | (go_simp; with_reducible rfl))
  try go_frame
  refine wpAnyH_take (i := 1) (oi := _) (v := ?_) (by simp only [List.getElem?_toArray, List.getElem?_cons_succ, List.getElem?_cons_zero]; rfl) (by kernel_rfl) (by kernel_rfl) (by kernel_rfl) (by intro _ _ _ h; exact h) (Or.inl ⟨by rfl, fun W hSw => ?_⟩) hHeld ?_
  rotate_left 1
  · (try dsimp only at hSw); first | (go_simp; done) | (go_simp; with_reducible rfl)
  try go_frame
  refine wpAnyH_take (i := 2) (oi := _) (v := ?_) (by simp only [List.getElem?_toArray, List.getElem?_cons_succ, List.getElem?_cons_zero]; rfl) (by kernel_rfl) (by kernel_rfl) (by kernel_rfl) (by intro _ _ _ h; exact h) (Or.inl ⟨by rfl, fun W hSw => ?_⟩) hHeld ?_
  rotate_left 1
  · (try dsimp only at hSw); first | (go_simp; done) | (go_simp; with_reducible rfl)
  try go_frame
  refine wpAnyH_take (i := 4) (oi := _) (v := ?_) (by simp only [List.getElem?_toArray, List.getElem?_cons_succ, List.getElem?_cons_zero]; rfl) (by kernel_rfl) (by kernel_rfl) (by kernel_rfl) (by intro _ _ _ h; exact h) (Or.inl ⟨by rfl, fun W hSw => ?_⟩) hHeld ?_
  rotate_left 1
  · (clear hSw; first | (go_simp; done) | (go_simp; with_reducible rfl))
  try go_frame
  refine wpAnyH_ready (rs := [3]) (by kernel_rfl) (by simp) ?_
  refine AllReadyH.cons (o := _) (by simp only [List.getElem?_toArray, List.getElem?_cons_succ, List.getElem?_cons_zero]; rfl) (fun KX hKX => ?_) AllReadyH.nil
  clear hHeld
  go_simp
  refine (fits_c HS.out HK.out (by exact sz_small (by decide)) (by exact sz_small (by decide))).mono ?_
  (first | rw [s_na])
  rintro e wn ⟨rfl, hbn⟩
  replace HS := Lib.hid (HS.out.below hbn)
  clear hbn
  refine hKX.out _ _ ⟨HS.out.cell (g := g) (a := (3, ⟨#[]⟩)) (by simp), HS.out.cell (g := g + 1) (a := (6, ⟨#[]⟩)) (by simp), HS.out.cell (g := gj) (a := (3, ⟨#[]⟩)) (by simp)⟩ (fun hHeld => ?_)
  clear hKX KX
  try go_frame
  refine wpAnyH_take (i := 5) (oi := _) (v := ?_) (by simp only [List.getElem?_toArray, List.getElem?_cons_succ, List.getElem?_cons_zero]; rfl) (by kernel_rfl) (by kernel_rfl) (by kernel_rfl) (by intro _ _ _ h; exact h) (Or.inl ⟨by rfl, fun W hSw => ?_⟩) hHeld ?_
  rotate_left 1
  · (clear hSw; first | (go_simp; done) | (go_simp; with_reducible rfl))
  try go_frame
  refine wpAnyH_take (i := 6) (oi := _) (v := undef) (by simp only [List.getElem?_toArray, List.getElem?_cons_succ, List.getElem?_cons_zero]; rfl) (by kernel_rfl) (by kernel_rfl) (by kernel_rfl) (by intro _ _ _ h; exact h) (Or.inr ⟨by rfl, rfl⟩) hHeld ?_
  try go_frame
  refine wpAnyH_take (i := 7) (oi := _) (v := undef) (by simp only [List.getElem?_toArray, List.getElem?_cons_succ, List.getElem?_cons_zero]; rfl) (by kernel_rfl) (by kernel_rfl) (by kernel_rfl) (by intro _ _ _ h; exact h) (Or.inr ⟨by rfl, rfl⟩) hHeld ?_
  try go_frame
  refine wpAnyH_take (i := 8) (oi := _) (v := undef) (by simp only [List.getElem?_toArray, List.getElem?_cons_succ, List.getElem?_cons_zero]; rfl) (by kernel_rfl) (by kernel_rfl) (by kernel_rfl) (by intro _ _ _ h; exact h) (Or.inr ⟨by rfl, rfl⟩) hHeld ?_
  try go_frame
  refine wpAnyH_take (i := 9) (oi := _) (v := ?_) (by simp only [List.getElem?_toArray, List.getElem?_cons_succ, List.getElem?_cons_zero]; rfl) (by kernel_rfl) (by kernel_rfl) (by kernel_rfl) (by intro _ _ _ h; exact h) (Or.inl ⟨by rfl, fun W hSw => ?_⟩) hHeld ?_
  rotate_left 1
  · (clear hSw; first | (go_simp; done) | (go_simp; with_reducible rfl))
  try go_frame
  refine wpAnyH_take (i := 10) (oi := _) (v := ?_) (by simp only [List.getElem?_toArray, List.getElem?_cons_succ, List.getElem?_cons_zero]; rfl) (by kernel_rfl) (by kernel_rfl) (by kernel_rfl) (by intro _ _ _ h; exact h) (Or.inl ⟨by rfl, fun W hSw => ?_⟩) hHeld ?_
  rotate_left 1
  · (clear hSw; first | (go_simp; done) | (go_simp; with_reducible rfl))
  try go_frame
  refine wpAnyH_take (i := 11) (oi := _) (v := ?_) (by simp only [List.getElem?_toArray, List.getElem?_cons_succ, List.getElem?_cons_zero]; rfl) (by kernel_rfl) (by kernel_rfl) (by kernel_rfl) (by intro _ _ _ h; exact h) (Or.inl ⟨by rfl, fun W hSw => ?_⟩) hHeld ?_
  rotate_left 1
  · (clear hSw; first | (go_simp; done) | (go_simp; with_reducible rfl))
  try go_frame
  refine wpAnyH_take (i := 12) (oi := _) (v := ?_) (by simp only [List.getElem?_toArray, List.getElem?_cons_succ, List.getElem?_cons_zero]; rfl) (by kernel_rfl) (by kernel_rfl) (by kernel_rfl) (by intro _ _ _ h; exact h) (Or.inl ⟨by rfl, fun W hSw => ?_⟩) hHeld ?_
  rotate_left 1
  · (try dsimp only at hSw); first | (go_simp; done) | (go_simp; with_reducible rfl)
  try go_frame
  refine wpAnyH_take (i := 14) (oi := _) (v := ?_) (by simp only [List.getElem?_toArray, List.getElem?_cons_succ, List.getElem?_cons_zero]; rfl) (by kernel_rfl) (by kernel_rfl) (by kernel_rfl) (by intro _ _ _ h; exact h) (Or.inl ⟨by rfl, fun W hSw => ?_⟩) hHeld ?_
  rotate_left 1
  · (clear hSw; first | (go_simp; done) | (go_simp; with_reducible rfl))
  try go_frame
  refine wpAnyH_ready (rs := [13]) (by kernel_rfl) (by simp) ?_
  refine AllReadyH.cons (o := _) (by simp only [List.getElem?_toArray, List.getElem?_cons_succ, List.getElem?_cons_zero]; rfl) (fun KX hKX => ?_) AllReadyH.nil
  clear hHeld
  go_simp
  refine refers_c.mono ?_
  (first | rw [r_a])
  rintro e wn ⟨rfl, hbn⟩
  replace HS := Lib.hid (HS.out.below hbn)
  clear hbn
  refine hKX.out _ _ ⟨HS.out.cell (g := g) (a := (3, ⟨#[]⟩)) (by simp), HS.out.cell (g := g + 1) (a := (6, ⟨#[]⟩)) (by simp), HS.out.cell (g := gj) (a := (3, ⟨#[]⟩)) (by simp)⟩ (fun hHeld => ?_)
  clear hKX KX
  try go_frame
  refine wpAnyH_take (i := 15) (oi := _) (v := ?_) (by simp only [List.getElem?_toArray, List.getElem?_cons_succ, List.getElem?_cons_zero]; rfl) (by kernel_rfl) (by kernel_rfl) (by kernel_rfl) (by intro _ _ _ h; exact h) (Or.inl ⟨by rfl, fun W hSw => ?_⟩) hHeld ?_
  rotate_left 1
  · (clear hSw; first | (go_simp; done) | (go_simp; with_reducible rfl))
  try go_frame
  refine wpAnyH_take (i := 16) (oi := _) (v := undef) (by simp only [List.getElem?_toArray, List.getElem?_cons_succ, List.getElem?_cons_zero]; rfl) (by kernel_rfl) (by kernel_rfl) (by kernel_rfl) (by intro _ _ _ h; exact h) (Or.inr ⟨by rfl, rfl⟩) hHeld ?_
  try go_frame
  refine wpAnyH_take (i := 17) (oi := _) (v := undef) (by simp only [List.getElem?_toArray, List.getElem?_cons_succ, List.getElem?_cons_zero]; rfl) (by kernel_rfl) (by kernel_rfl) (by kernel_rfl) (by intro _ _ _ h; exact h) (Or.inr ⟨by rfl, rfl⟩) hHeld ?_
  try go_frame
  refine wpAnyH_take (i := 18) (oi := _) (v := undef) (by simp only [List.getElem?_toArray, List.getElem?_cons_succ, List.getElem?_cons_zero]; rfl) (by kernel_rfl) (by kernel_rfl) (by kernel_rfl) (by intro _ _ _ h; exact h) (Or.inr ⟨by rfl, rfl⟩) hHeld ?_
  try go_frame
  refine wpAnyH_take (i := 19) (oi := _) (v := ?_) (by simp only [List.getElem?_toArray, List.getElem?_cons_succ, List.getElem?_cons_zero]; rfl) (by kernel_rfl) (by kernel_rfl) (by kernel_rfl) (by intro _ _ _ h; exact h) (Or.inl ⟨by rfl, fun W hSw => ?_⟩) hHeld ?_
  rotate_left 1
  · (clear hSw; first | (go_simp; done) | (go_simp; with_reducible rfl))
  try go_frame
  refine wpAnyH_take (i := 20) (oi := _) (v := ?_) (by simp only [List.getElem?_toArray, List.getElem?_cons_succ, List.getElem?_cons_zero]; rfl) (by kernel_rfl) (by kernel_rfl) (by kernel_rfl) (by intro _ _ _ h; exact h) (Or.inl ⟨by rfl, fun W hSw => ?_⟩) hHeld ?_
  rotate_left 1
  · (clear hSw; first | (go_simp; done) | (go_simp; with_reducible rfl))
  try go_frame
  refine wpAnyH_take (i := 21) (oi := _) (v := ?_) (by simp only [List.getElem?_toArray, List.getElem?_cons_succ, List.getElem?_cons_zero]; rfl) (by kernel_rfl) (by kernel_rfl) (by kernel_rfl) (by intro _ _ _ h; exact h) (Or.inl ⟨by rfl, fun W hSw => ?_⟩) hHeld ?_
  rotate_left 1
  · (clear hSw; first | (go_simp; done) | (go_simp; with_reducible rfl))
  try go_frame
  refine wpAnyH_take (i := 22) (oi := _) (v := ?_) (by simp only [List.getElem?_toArray, List.getElem?_cons_succ, List.getElem?_cons_zero]; rfl) (by kernel_rfl) (by kernel_rfl) (by kernel_rfl) (by intro _ _ _ h; exact h) (Or.inl ⟨by rfl, fun W hSw => ?_⟩) hHeld ?_
  rotate_left 1
  · (clear hSw; first | (go_simp; done) | (go_simp; with_reducible rfl))
  try go_frame
  refine wpAnyH_take (i := 23) (oi := _) (v := ?_) (by simp only [List.getElem?_toArray, List.getElem?_cons_succ, List.getElem?_cons_zero]; rfl) (by kernel_rfl) (by kernel_rfl) (by kernel_rfl) (by intro _ _ _ h; exact h) (Or.inl ⟨by rfl, fun W hSw => ?_⟩) hHeld ?_
  rotate_left 1
  · (try dsimp only at hSw); first | (go_simp; done) | (go_simp; with_reducible rfl)
  try go_frame
  refine wpAnyH_take (i := 24) (oi := _) (v := ?_) (by simp only [List.getElem?_toArray, List.getElem?_cons_succ, List.getElem?_cons_zero]; rfl) (by kernel_rfl) (by kernel_rfl) (by kernel_rfl) (by intro _ _ _ h; exact h) (Or.inl ⟨by rfl, fun W hSw => ?_⟩) hHeld ?_
  rotate_left 1
  · (clear hSw; first | (go_simp; done) | (go_simp; with_reducible rfl))
  try go_frame
  refine wpAnyH_take (i := 25) (oi := _) (v := ?_) (by simp only [List.getElem?_toArray, List.getElem?_cons_succ, List.getElem?_cons_zero]; rfl) (by kernel_rfl) (by kernel_rfl) (by kernel_rfl) (by intro _ _ _ h; exact h) (Or.inl ⟨by rfl, fun W hSw => ?_⟩) hHeld ?_
  rotate_left 1
  · (try dsimp only at hSw); first | (go_simp; done) | (go_simp; with_reducible rfl)
  try go_frame
  refine wpAnyH_take (i := 26) (oi := _) (v := ?_) (by simp only [List.getElem?_toArray, List.getElem?_cons_succ, List.getElem?_cons_zero]; rfl) (by kernel_rfl) (by kernel_rfl) (by kernel_rfl) (by intro _ _ _ h; exact h) (Or.inl ⟨by rfl, fun W hSw => ?_⟩) hHeld ?_
  rotate_left 1
  · (try dsimp only at hSw); first | (go_simp; done) | (go_simp; with_reducible rfl)
  try go_frame
  refine wpAnyH_ready (rs := [27]) (by kernel_rfl) (by simp) ?_
  refine AllReadyH.cons (o := _) (by simp only [List.getElem?_toArray, List.getElem?_cons_succ, List.getElem?_cons_zero]; rfl) (fun KX hKX => ?_) AllReadyH.nil
  clear hHeld
  go_simp
  refine (join_c HS.out HK.out (by exact sz_small (by decide)) (by exact sz_small (by decide))).mono ?_
  (first | rw [j_na]); rw [tyv_mk]
  rintro e wn ⟨rfl, hbn⟩
  replace HS := Lib.hid (HS.out.below hbn)
  clear hbn
  refine hKX.out _ _ ⟨HS.out.cell (g := g) (a := (3, ⟨#[]⟩)) (by simp), HS.out.cell (g := g + 1) (a := (6, ⟨#[]⟩)) (by simp), HS.out.cell (g := gj) (a := (3, ⟨#[]⟩)) (by simp)⟩ (fun hHeld => ?_)
  clear hKX KX
  try go_frame
  refine wpAnyH_take (i := 28) (oi := _) (v := ?_) (by simp only [List.getElem?_toArray, List.getElem?_cons_succ, List.getElem?_cons_zero]; rfl) (by kernel_rfl) (by kernel_rfl) (by kernel_rfl) (by intro _ _ _ h; exact h) (Or.inl ⟨by rfl, fun W hSw => ?_⟩) hHeld ?_
  rotate_left 1
  · (clear hSw; first | (go_simp; done) | (go_simp; with_reducible rfl))
  try go_frame
  refine wpAnyH_take (i := 29) (oi := _) (v := ?_) (by simp only [List.getElem?_toArray, List.getElem?_cons_succ, List.getElem?_cons_zero]; rfl) (by kernel_rfl) (by kernel_rfl) (by kernel_rfl) (by intro _ _ _ h; exact h) (Or.inl ⟨by rfl, fun W hSw => ?_⟩) hHeld ?_
  rotate_left 1
  · (clear hSw; first | (go_simp; done) | (go_simp; with_reducible rfl))
  try go_frame
  refine wpAnyH_done (by kernel_rfl) ?_ _
  obtain ⟨al, a0, a1⟩ := HS.out.cell (g := g) (a := (3, ⟨#[]⟩)) (by simp)
  obtain ⟨nl, n0, n1⟩ := HS.out.cell (g := g + 1) (a := (6, ⟨#[]⟩)) (by simp)
  obtain ⟨jl, j0, j1⟩ := HS.out.cell (g := gj) (a := (3, ⟨#[]⟩)) (by simp)
  try dsimp only at a0 a1 n0 n1 j0 j1
  go_wp2_with first
    | (go_at_call 14; refine (fits_c HS.out HK.out (by exact sz_small (by decide)) (by exact sz_small (by decide))).mono ?_; (first | rw [s_na]); rintro e wn ⟨rfl, hbn⟩; replace HS := Lib.hid (HS.out.below hbn); clear al a0 a1 nl n0 n1 jl j0 j1; clear hbn; obtain ⟨al, a0, a1⟩ := HS.out.cell (g := g) (a := (3, ⟨#[]⟩)) (by simp); obtain ⟨nl, n0, n1⟩ := HS.out.cell (g := g + 1) (a := (6, ⟨#[]⟩)) (by simp); obtain ⟨jl, j0, j1⟩ := HS.out.cell (g := gj) (a := (3, ⟨#[]⟩)) (by simp); try dsimp only at a0 a1 n0 n1 j0 j1)
    | (go_at_call 12; refine (join_c HS.out HK.out (by exact sz_small (by decide)) (by exact sz_small (by decide))).mono ?_; (first | rw [j_na]); rw [tyv_mk]; rintro e wn ⟨rfl, hbn⟩; replace HS := Lib.hid (HS.out.below hbn); clear al a0 a1 nl n0 n1 jl j0 j1; clear hbn; obtain ⟨al, a0, a1⟩ := HS.out.cell (g := g) (a := (3, ⟨#[]⟩)) (by simp); obtain ⟨nl, n0, n1⟩ := HS.out.cell (g := g + 1) (a := (6, ⟨#[]⟩)) (by simp); obtain ⟨jl, j0, j1⟩ := HS.out.cell (g := gj) (a := (3, ⟨#[]⟩)) (by simp); try dsimp only at a0 a1 n0 n1 j0 j1)
  go_ret
  exact ⟨rfl, HB2.out.trans (HS.out.2.2.mono HB2.out.size)⟩
set_option maxHeartbeats 8000000 in
set_option maxRecDepth 100000 in
theorem nulls_p2 (k0 k1 k2 k3 x : Nat) (w : World) (h0 : k0 < 256) (h1 : k1 < 256) (h2 : k2 < 256) (h3 : k3 < 256) (hx : x < 256) (s : ByteArray) (pa : ofJ x ⟨#[65]⟩ = (4, s)) (hsz : s.size ≤ 1000) :
    Calls Try.prog 5 #[.agg #[.int .u8 (k0 : Int), .int .u8 (k1 : Int), .int .u8 (k2 : Int), .int .u8 (k3 : Int)], .int .u8 (x : Int)] w fun e w' => e = .returned (.bool true) ∧ Below w.heap.size w w' := by
  obtain ⟨w0, hw0⟩ : ∃ x, x = w.alloc (.cells #[.int .u8 (k0 : Int), .int .u8 (k1 : Int), .int .u8 (k2 : Int), .int .u8 (k3 : Int)] 22) := ⟨_, rfl⟩
  have HB0 : Hid (Below w.heap.size w w0) := Lib.hid (by rw [hw0]; exact below_alR _ _)
  have HX0 : Hid (w0.heap[w.heap.size]? = some (.cells #[.int .u8 (k0 : Int), .int .u8 (k1 : Int), .int .u8 (k2 : Int), .int .u8 (k3 : Int)] 22 (0, 0))) := Lib.hid (by rw [hw0]; exact heap_alloc_new _ _)
  go_enter Try.func5, Try.ntmps5
  try simp only [List.append_eq, List.cons_append, List.nil_append]
  go_wp2_with fail
  rw [← hw0]
  clear hw0
  obtain ⟨kb, hkb⟩ : ∃ x, w.heap.size = x := ⟨_, rfl⟩
  rw [hkb] at HX0 ⊢
  have HKB := Lib.hid hkb
  clear hkb
  refine (known_11 w0).mono ?_
  rintro e w1 ⟨rfl, hb1⟩
  have hX1 := (hb1.block _ (Array.getElem?_eq_some_iff.1 HX0.out).1).trans HX0.out
  have HB1 := Lib.hid (HB0.out.trans (hb1.mono HB0.out.size))
  obtain ⟨xl, xc, -⟩ := boxN hX1
  have x0 := xc 0 _ rfl
  have x1 := xc 1 _ rfl
  have x2 := xc 2 _ rfl
  have x3 := xc 3 _ rfl
  simp only [Nat.zero_add] at x0 x1 x2 x3
  clear hb1 hX1 HX0 HB0 xc
  go_wp2_with fail
  refine (archive_0 k0 k1 k2 k3 w1 h0 h1 h2 h3).mono ?_
  rintro e w2 ⟨p1, n1, c1, rfl, hr1, hb2⟩
  obtain ⟨_, _, e1, -⟩ := hr1.len
  simp only [Value.slice.injEq] at e1
  obtain ⟨rfl, rfl, rfl⟩ := e1
  have HR1 := Lib.hid hr1
  have HB2 := Lib.hid (HB1.out.trans (hb2.mono HB1.out.size))
  clear hr1 hb2 HB1 x0 x1 x2 x3 xl HKB
  go_wp2_with fail
  refine (seat_tree k0 k1 k2 k3 w2 _ _ _ HR1.out).mono ?_
  rintro e w3 ⟨tb, mb, vs, ok, K, rfl, hk3, hs3⟩
  have HS := Lib.hid hs3
  obtain ⟨T, hT⟩ : ∃ t, (tabT (bitS k0 3) (bitS k0 6) (bitS k2 2)) = t := ⟨_, rfl⟩
  rw [hT] at hk3
  have HK := Lib.hid hk3
  clear hk3 hs3 HR1
  clear hT
  obtain ⟨j_an, j_na, s_na, r_a⟩ := nu_r T (a := (4, s)) (.inr rfl)
  have ZS : Hid (s.size ≤ maxLen) := Lib.hid (sz_small hsz)
  clear hsz
  go_upto_region 4 with fail
  go_upto_region 5 with (go_at_call 11; refine (of_y _ ⟨#[65]⟩ _ (by assumption)).mono ?_; rw [pa, tyv_mk]; rintro e wn ⟨rfl, hbn⟩; replace HS := Lib.hid (HS.out.below hbn); clear hbn)
  obtain ⟨wj, hwj⟩ : ∃ x, x = ((wn.alloc (.cells #[.int .i64 4, .string s] 24)).alloc (.cells #[.int .i64 6, .string ⟨#[]⟩] 24)) := ⟨_, rfl⟩
  have hsj : StJ w2 wj ok tb mb vs K [(wn.heap.size + 1, (6, ⟨#[]⟩)), (wn.heap.size, (4, s))] := by
    rw [hwj]
    have := ((HS.out.box (4, s)).box (6, ⟨#[]⟩))
    simp only [World.size_alloc] at this
    exact this
  rw [← hwj]
  clear hwj
  obtain ⟨g, hg⟩ : ∃ z, wn.heap.size = z := ⟨_, rfl⟩
  rw [hg] at hsj ⊢
  replace HS := Lib.hid hsj
  clear hg hsj
  obtain ⟨al, a0, a1⟩ := HS.out.cell (g := g) (a := (4, s)) (by simp)
  obtain ⟨nl, n0, n1⟩ := HS.out.cell (g := g + 1) (a := (6, ⟨#[]⟩)) (by simp)
  try dsimp only at a0 a1 n0 n1
  go_wp2_with fail
  refine (join_c HS.out HK.out (by first | exact ZS.out | exact sz_small (by decide)) (by first | exact ZS.out | exact sz_small (by decide))).mono ?_
  rw [j_an, tyv_mk]
  rintro e wn ⟨rfl, hbn⟩
  replace HS := Lib.hid (HS.out.below hbn)
  clear al a0 a1 nl n0 n1
  clear hbn
  go_upto_region 7 with fail
  obtain ⟨wj, hwj⟩ : ∃ x, x = wn.alloc (.cells #[.int .i64 4, .string s] 24) := ⟨_, rfl⟩
  have hsj : StJ w2 wj ok tb mb vs K [(wn.heap.size, (4, s)), (g + 1, (6, ⟨#[]⟩)), (g, (4, s))] := by rw [hwj]; exact HS.out.box (4, s)
  rw [← hwj]
  clear hwj
  obtain ⟨gj, hgj⟩ : ∃ z, wn.heap.size = z := ⟨_, rfl⟩
  rw [hgj] at hsj ⊢
  replace HS := Lib.hid (hsj.below (Below.refl wj.heap.size wj).drew)
  clear hsj hgj
  refine wp_region_held_drew (S := fun W => ((g) < W.heap.size ∧ W.cell? ⟨g, 0, none⟩ = some (.int .i64 4) ∧ W.cell? ⟨g, 1, none⟩ = some (.string s)) ∧ ((g + 1) < W.heap.size ∧ W.cell? ⟨g + 1, 0, none⟩ = some (.int .i64 6) ∧ W.cell? ⟨g + 1, 1, none⟩ = some (.string ⟨#[]⟩)) ∧ ((gj) < W.heap.size ∧ W.cell? ⟨gj, 0, none⟩ = some (.int .i64 4) ∧ W.cell? ⟨gj, 1, none⟩ = some (.string s))) (by kernel_rfl) ⟨HS.out.cell (g := g) (a := (4, s)) (by simp), HS.out.cell (g := g + 1) (a := (6, ⟨#[]⟩)) (by simp), HS.out.cell (g := gj) (a := (4, s)) (by simp)⟩ (fun hHeld => ?_)
  refine wpAnyH_take (i := 0) (oi := _) (v := ?_) (by simp only [List.getElem?_toArray, List.getElem?_cons_zero]; rfl) (by kernel_rfl) (by kernel_rfl) (by kernel_rfl) (by intro _ _ _ h; exact h) (Or.inl ⟨by rfl, fun W hSw => ?_⟩) hHeld ?_
  rotate_left 1
  · (clear hSw; first | (go_simp; done) | (go_simp; with_reducible rfl))
  try go_frame
  refine wpAnyH_take (i := 1) (oi := _) (v := ?_) (by simp only [List.getElem?_toArray, List.getElem?_cons_succ, List.getElem?_cons_zero]; rfl) (by kernel_rfl) (by kernel_rfl) (by kernel_rfl) (by intro _ _ _ h; exact h) (Or.inl ⟨by rfl, fun W hSw => ?_⟩) hHeld ?_
  rotate_left 1
  · (try dsimp only at hSw); first | (go_simp; done) | (go_simp; with_reducible rfl)
  try go_frame
  refine wpAnyH_take (i := 2) (oi := _) (v := ?_) (by simp only [List.getElem?_toArray, List.getElem?_cons_succ, List.getElem?_cons_zero]; rfl) (by kernel_rfl) (by kernel_rfl) (by kernel_rfl) (by intro _ _ _ h; exact h) (Or.inl ⟨by rfl, fun W hSw => ?_⟩) hHeld ?_
  rotate_left 1
  · (try dsimp only at hSw); first | (go_simp; done) | (go_simp; with_reducible rfl)
  try go_frame
  refine wpAnyH_take (i := 4) (oi := _) (v := ?_) (by simp only [List.getElem?_toArray, List.getElem?_cons_succ, List.getElem?_cons_zero]; rfl) (by kernel_rfl) (by kernel_rfl) (by kernel_rfl) (by intro _ _ _ h; exact h) (Or.inl ⟨by rfl, fun W hSw => ?_⟩) hHeld ?_
  rotate_left 1
  · (clear hSw; first | (go_simp; done) | (go_simp; with_reducible rfl))
  try go_frame
  refine wpAnyH_ready (rs := [3]) (by kernel_rfl) (by simp) ?_
  refine AllReadyH.cons (o := _) (by simp only [List.getElem?_toArray, List.getElem?_cons_succ, List.getElem?_cons_zero]; rfl) (fun KX hKX => ?_) AllReadyH.nil
  clear hHeld
  go_simp
  refine (fits_c HS.out HK.out (by first | exact ZS.out | exact sz_small (by decide)) (by first | exact ZS.out | exact sz_small (by decide))).mono ?_
  (first | rw [s_na])
  rintro e wn ⟨rfl, hbn⟩
  replace HS := Lib.hid (HS.out.below hbn)
  clear hbn
  refine hKX.out _ _ ⟨HS.out.cell (g := g) (a := (4, s)) (by simp), HS.out.cell (g := g + 1) (a := (6, ⟨#[]⟩)) (by simp), HS.out.cell (g := gj) (a := (4, s)) (by simp)⟩ (fun hHeld => ?_)
  clear hKX KX
  try go_frame
  refine wpAnyH_take (i := 5) (oi := _) (v := ?_) (by simp only [List.getElem?_toArray, List.getElem?_cons_succ, List.getElem?_cons_zero]; rfl) (by kernel_rfl) (by kernel_rfl) (by kernel_rfl) (by intro _ _ _ h; exact h) (Or.inl ⟨by rfl, fun W hSw => ?_⟩) hHeld ?_
  rotate_left 1
  · (clear hSw; first | (go_simp; done) | (go_simp; with_reducible rfl))
  try go_frame
  refine wpAnyH_take (i := 6) (oi := _) (v := undef) (by simp only [List.getElem?_toArray, List.getElem?_cons_succ, List.getElem?_cons_zero]; rfl) (by kernel_rfl) (by kernel_rfl) (by kernel_rfl) (by intro _ _ _ h; exact h) (Or.inr ⟨by rfl, rfl⟩) hHeld ?_
  try go_frame
  refine wpAnyH_take (i := 7) (oi := _) (v := undef) (by simp only [List.getElem?_toArray, List.getElem?_cons_succ, List.getElem?_cons_zero]; rfl) (by kernel_rfl) (by kernel_rfl) (by kernel_rfl) (by intro _ _ _ h; exact h) (Or.inr ⟨by rfl, rfl⟩) hHeld ?_
  try go_frame
  refine wpAnyH_take (i := 8) (oi := _) (v := undef) (by simp only [List.getElem?_toArray, List.getElem?_cons_succ, List.getElem?_cons_zero]; rfl) (by kernel_rfl) (by kernel_rfl) (by kernel_rfl) (by intro _ _ _ h; exact h) (Or.inr ⟨by rfl, rfl⟩) hHeld ?_
  try go_frame
  refine wpAnyH_take (i := 9) (oi := _) (v := ?_) (by simp only [List.getElem?_toArray, List.getElem?_cons_succ, List.getElem?_cons_zero]; rfl) (by kernel_rfl) (by kernel_rfl) (by kernel_rfl) (by intro _ _ _ h; exact h) (Or.inl ⟨by rfl, fun W hSw => ?_⟩) hHeld ?_
  rotate_left 1
  · (clear hSw; first | (go_simp; done) | (go_simp; with_reducible rfl))
  try go_frame
  refine wpAnyH_take (i := 10) (oi := _) (v := ?_) (by simp only [List.getElem?_toArray, List.getElem?_cons_succ, List.getElem?_cons_zero]; rfl) (by kernel_rfl) (by kernel_rfl) (by kernel_rfl) (by intro _ _ _ h; exact h) (Or.inl ⟨by rfl, fun W hSw => ?_⟩) hHeld ?_
  rotate_left 1
  · (clear hSw; first | (go_simp; done) | (go_simp; with_reducible rfl))
  try go_frame
  refine wpAnyH_take (i := 11) (oi := _) (v := ?_) (by simp only [List.getElem?_toArray, List.getElem?_cons_succ, List.getElem?_cons_zero]; rfl) (by kernel_rfl) (by kernel_rfl) (by kernel_rfl) (by intro _ _ _ h; exact h) (Or.inl ⟨by rfl, fun W hSw => ?_⟩) hHeld ?_
  rotate_left 1
  · (clear hSw; first | (go_simp; done) | (go_simp; with_reducible rfl))
  try go_frame
  refine wpAnyH_take (i := 12) (oi := _) (v := ?_) (by simp only [List.getElem?_toArray, List.getElem?_cons_succ, List.getElem?_cons_zero]; rfl) (by kernel_rfl) (by kernel_rfl) (by kernel_rfl) (by intro _ _ _ h; exact h) (Or.inl ⟨by rfl, fun W hSw => ?_⟩) hHeld ?_
  rotate_left 1
  · (try dsimp only at hSw); first | (go_simp; done) | (go_simp; with_reducible rfl)
  try go_frame
  refine wpAnyH_take (i := 14) (oi := _) (v := ?_) (by simp only [List.getElem?_toArray, List.getElem?_cons_succ, List.getElem?_cons_zero]; rfl) (by kernel_rfl) (by kernel_rfl) (by kernel_rfl) (by intro _ _ _ h; exact h) (Or.inl ⟨by rfl, fun W hSw => ?_⟩) hHeld ?_
  rotate_left 1
  · (clear hSw; first | (go_simp; done) | (go_simp; with_reducible rfl))
  try go_frame
  refine wpAnyH_ready (rs := [13]) (by kernel_rfl) (by simp) ?_
  refine AllReadyH.cons (o := _) (by simp only [List.getElem?_toArray, List.getElem?_cons_succ, List.getElem?_cons_zero]; rfl) (fun KX hKX => ?_) AllReadyH.nil
  clear hHeld
  go_simp
  refine refers_c.mono ?_
  (first | rw [r_a])
  rintro e wn ⟨rfl, hbn⟩
  replace HS := Lib.hid (HS.out.below hbn)
  clear hbn
  refine hKX.out _ _ ⟨HS.out.cell (g := g) (a := (4, s)) (by simp), HS.out.cell (g := g + 1) (a := (6, ⟨#[]⟩)) (by simp), HS.out.cell (g := gj) (a := (4, s)) (by simp)⟩ (fun hHeld => ?_)
  clear hKX KX
  try go_frame
  refine wpAnyH_take (i := 15) (oi := _) (v := ?_) (by simp only [List.getElem?_toArray, List.getElem?_cons_succ, List.getElem?_cons_zero]; rfl) (by kernel_rfl) (by kernel_rfl) (by kernel_rfl) (by intro _ _ _ h; exact h) (Or.inl ⟨by rfl, fun W hSw => ?_⟩) hHeld ?_
  rotate_left 1
  · (clear hSw; first | (go_simp; done) | (go_simp; with_reducible rfl))
  try go_frame
  refine wpAnyH_take (i := 16) (oi := _) (v := undef) (by simp only [List.getElem?_toArray, List.getElem?_cons_succ, List.getElem?_cons_zero]; rfl) (by kernel_rfl) (by kernel_rfl) (by kernel_rfl) (by intro _ _ _ h; exact h) (Or.inr ⟨by rfl, rfl⟩) hHeld ?_
  try go_frame
  refine wpAnyH_take (i := 17) (oi := _) (v := undef) (by simp only [List.getElem?_toArray, List.getElem?_cons_succ, List.getElem?_cons_zero]; rfl) (by kernel_rfl) (by kernel_rfl) (by kernel_rfl) (by intro _ _ _ h; exact h) (Or.inr ⟨by rfl, rfl⟩) hHeld ?_
  try go_frame
  refine wpAnyH_take (i := 18) (oi := _) (v := undef) (by simp only [List.getElem?_toArray, List.getElem?_cons_succ, List.getElem?_cons_zero]; rfl) (by kernel_rfl) (by kernel_rfl) (by kernel_rfl) (by intro _ _ _ h; exact h) (Or.inr ⟨by rfl, rfl⟩) hHeld ?_
  try go_frame
  refine wpAnyH_take (i := 19) (oi := _) (v := ?_) (by simp only [List.getElem?_toArray, List.getElem?_cons_succ, List.getElem?_cons_zero]; rfl) (by kernel_rfl) (by kernel_rfl) (by kernel_rfl) (by intro _ _ _ h; exact h) (Or.inl ⟨by rfl, fun W hSw => ?_⟩) hHeld ?_
  rotate_left 1
  · (clear hSw; first | (go_simp; done) | (go_simp; with_reducible rfl))
  try go_frame
  refine wpAnyH_take (i := 20) (oi := _) (v := ?_) (by simp only [List.getElem?_toArray, List.getElem?_cons_succ, List.getElem?_cons_zero]; rfl) (by kernel_rfl) (by kernel_rfl) (by kernel_rfl) (by intro _ _ _ h; exact h) (Or.inl ⟨by rfl, fun W hSw => ?_⟩) hHeld ?_
  rotate_left 1
  · (clear hSw; first | (go_simp; done) | (go_simp; with_reducible rfl))
  try go_frame
  refine wpAnyH_take (i := 21) (oi := _) (v := ?_) (by simp only [List.getElem?_toArray, List.getElem?_cons_succ, List.getElem?_cons_zero]; rfl) (by kernel_rfl) (by kernel_rfl) (by kernel_rfl) (by intro _ _ _ h; exact h) (Or.inl ⟨by rfl, fun W hSw => ?_⟩) hHeld ?_
  rotate_left 1
  · (clear hSw; first | (go_simp; done) | (go_simp; with_reducible rfl))
  try go_frame
  refine wpAnyH_take (i := 22) (oi := _) (v := ?_) (by simp only [List.getElem?_toArray, List.getElem?_cons_succ, List.getElem?_cons_zero]; rfl) (by kernel_rfl) (by kernel_rfl) (by kernel_rfl) (by intro _ _ _ h; exact h) (Or.inl ⟨by rfl, fun W hSw => ?_⟩) hHeld ?_
  rotate_left 1
  · (clear hSw; first | (go_simp; done) | (go_simp; with_reducible rfl))
  try go_frame
  refine wpAnyH_take (i := 23) (oi := _) (v := ?_) (by simp only [List.getElem?_toArray, List.getElem?_cons_succ, List.getElem?_cons_zero]; rfl) (by kernel_rfl) (by kernel_rfl) (by kernel_rfl) (by intro _ _ _ h; exact h) (Or.inl ⟨by rfl, fun W hSw => ?_⟩) hHeld ?_
  rotate_left 1
  · (try dsimp only at hSw); first | (go_simp; done) | (go_simp; with_reducible rfl)
  try go_frame
  refine wpAnyH_take (i := 24) (oi := _) (v := ?_) (by simp only [List.getElem?_toArray, List.getElem?_cons_succ, List.getElem?_cons_zero]; rfl) (by kernel_rfl) (by kernel_rfl) (by kernel_rfl) (by intro _ _ _ h; exact h) (Or.inl ⟨by rfl, fun W hSw => ?_⟩) hHeld ?_
  rotate_left 1
  · (clear hSw; first | (go_simp; done) | (go_simp; with_reducible rfl))
  try go_frame
  refine wpAnyH_take (i := 25) (oi := _) (v := ?_) (by simp only [List.getElem?_toArray, List.getElem?_cons_succ, List.getElem?_cons_zero]; rfl) (by kernel_rfl) (by kernel_rfl) (by kernel_rfl) (by intro _ _ _ h; exact h) (Or.inl ⟨by rfl, fun W hSw => ?_⟩) hHeld ?_
  rotate_left 1
  · (try dsimp only at hSw); first | (go_simp; done) | (go_simp; with_reducible rfl)
  try go_frame
  refine wpAnyH_take (i := 26) (oi := _) (v := ?_) (by simp only [List.getElem?_toArray, List.getElem?_cons_succ, List.getElem?_cons_zero]; rfl) (by kernel_rfl) (by kernel_rfl) (by kernel_rfl) (by intro _ _ _ h; exact h) (Or.inl ⟨by rfl, fun W hSw => ?_⟩) hHeld ?_
  rotate_left 1
  · (try dsimp only at hSw); first | (go_simp; done) | (go_simp; with_reducible rfl)
  try go_frame
  refine wpAnyH_ready (rs := [27]) (by kernel_rfl) (by simp) ?_
  refine AllReadyH.cons (o := _) (by simp only [List.getElem?_toArray, List.getElem?_cons_succ, List.getElem?_cons_zero]; rfl) (fun KX hKX => ?_) AllReadyH.nil
  clear hHeld
  go_simp
  refine (join_c HS.out HK.out (by first | exact ZS.out | exact sz_small (by decide)) (by first | exact ZS.out | exact sz_small (by decide))).mono ?_
  (first | rw [j_na]); rw [tyv_mk]
  rintro e wn ⟨rfl, hbn⟩
  replace HS := Lib.hid (HS.out.below hbn)
  clear hbn
  refine hKX.out _ _ ⟨HS.out.cell (g := g) (a := (4, s)) (by simp), HS.out.cell (g := g + 1) (a := (6, ⟨#[]⟩)) (by simp), HS.out.cell (g := gj) (a := (4, s)) (by simp)⟩ (fun hHeld => ?_)
  clear hKX KX
  try go_frame
  refine wpAnyH_take (i := 28) (oi := _) (v := ?_) (by simp only [List.getElem?_toArray, List.getElem?_cons_succ, List.getElem?_cons_zero]; rfl) (by kernel_rfl) (by kernel_rfl) (by kernel_rfl) (by intro _ _ _ h; exact h) (Or.inl ⟨by rfl, fun W hSw => ?_⟩) hHeld ?_
  rotate_left 1
  · (clear hSw; first | (go_simp; done) | (go_simp; with_reducible rfl))
  try go_frame
  refine wpAnyH_take (i := 29) (oi := _) (v := ?_) (by simp only [List.getElem?_toArray, List.getElem?_cons_succ, List.getElem?_cons_zero]; rfl) (by kernel_rfl) (by kernel_rfl) (by kernel_rfl) (by intro _ _ _ h; exact h) (Or.inl ⟨by rfl, fun W hSw => ?_⟩) hHeld ?_
  rotate_left 1
  · (clear hSw; first | (go_simp; done) | (go_simp; with_reducible rfl))
  try go_frame
  refine wpAnyH_done (by kernel_rfl) ?_ _
  obtain ⟨al, a0, a1⟩ := HS.out.cell (g := g) (a := (4, s)) (by simp)
  obtain ⟨nl, n0, n1⟩ := HS.out.cell (g := g + 1) (a := (6, ⟨#[]⟩)) (by simp)
  obtain ⟨jl, j0, j1⟩ := HS.out.cell (g := gj) (a := (4, s)) (by simp)
  try dsimp only at a0 a1 n0 n1 j0 j1
  go_wp2_with first
    | (go_at_call 14; refine (fits_c HS.out HK.out (by first | exact ZS.out | exact sz_small (by decide)) (by first | exact ZS.out | exact sz_small (by decide))).mono ?_; (first | rw [s_na]); rintro e wn ⟨rfl, hbn⟩; replace HS := Lib.hid (HS.out.below hbn); clear al a0 a1 nl n0 n1 jl j0 j1; clear hbn; obtain ⟨al, a0, a1⟩ := HS.out.cell (g := g) (a := (4, s)) (by simp); obtain ⟨nl, n0, n1⟩ := HS.out.cell (g := g + 1) (a := (6, ⟨#[]⟩)) (by simp); obtain ⟨jl, j0, j1⟩ := HS.out.cell (g := gj) (a := (4, s)) (by simp); try dsimp only at a0 a1 n0 n1 j0 j1)
    | (go_at_call 12; refine (join_c HS.out HK.out (by first | exact ZS.out | exact sz_small (by decide)) (by first | exact ZS.out | exact sz_small (by decide))).mono ?_; (first | rw [j_na]); rw [tyv_mk]; rintro e wn ⟨rfl, hbn⟩; replace HS := Lib.hid (HS.out.below hbn); clear al a0 a1 nl n0 n1 jl j0 j1; clear hbn; obtain ⟨al, a0, a1⟩ := HS.out.cell (g := g) (a := (4, s)) (by simp); obtain ⟨nl, n0, n1⟩ := HS.out.cell (g := g + 1) (a := (6, ⟨#[]⟩)) (by simp); obtain ⟨jl, j0, j1⟩ := HS.out.cell (g := gj) (a := (4, s)) (by simp); try dsimp only at a0 a1 n0 n1 j0 j1)
  go_ret
  exact ⟨rfl, HB2.out.trans (HS.out.2.2.mono HB2.out.size)⟩
set_option maxHeartbeats 8000000 in
set_option maxRecDepth 100000 in
theorem nulls_p3 (k0 k1 k2 k3 x : Nat) (w : World) (h0 : k0 < 256) (h1 : k1 < 256) (h2 : k2 < 256) (h3 : k3 < 256) (hx : x < 256) (pa : ofJ x ⟨#[65]⟩ = (6, ⟨#[]⟩)) :
    Calls Try.prog 5 #[.agg #[.int .u8 (k0 : Int), .int .u8 (k1 : Int), .int .u8 (k2 : Int), .int .u8 (k3 : Int)], .int .u8 (x : Int)] w fun e w' => e = .returned (.bool true) ∧ Below w.heap.size w w' := by
  obtain ⟨w0, hw0⟩ : ∃ x, x = w.alloc (.cells #[.int .u8 (k0 : Int), .int .u8 (k1 : Int), .int .u8 (k2 : Int), .int .u8 (k3 : Int)] 22) := ⟨_, rfl⟩
  have HB0 : Hid (Below w.heap.size w w0) := Lib.hid (by rw [hw0]; exact below_alR _ _)
  have HX0 : Hid (w0.heap[w.heap.size]? = some (.cells #[.int .u8 (k0 : Int), .int .u8 (k1 : Int), .int .u8 (k2 : Int), .int .u8 (k3 : Int)] 22 (0, 0))) := Lib.hid (by rw [hw0]; exact heap_alloc_new _ _)
  go_enter Try.func5, Try.ntmps5
  try simp only [List.append_eq, List.cons_append, List.nil_append]
  go_wp2_with fail
  rw [← hw0]
  clear hw0
  obtain ⟨kb, hkb⟩ : ∃ x, w.heap.size = x := ⟨_, rfl⟩
  rw [hkb] at HX0 ⊢
  have HKB := Lib.hid hkb
  clear hkb
  refine (known_11 w0).mono ?_
  rintro e w1 ⟨rfl, hb1⟩
  have hX1 := (hb1.block _ (Array.getElem?_eq_some_iff.1 HX0.out).1).trans HX0.out
  have HB1 := Lib.hid (HB0.out.trans (hb1.mono HB0.out.size))
  obtain ⟨xl, xc, -⟩ := boxN hX1
  have x0 := xc 0 _ rfl
  have x1 := xc 1 _ rfl
  have x2 := xc 2 _ rfl
  have x3 := xc 3 _ rfl
  simp only [Nat.zero_add] at x0 x1 x2 x3
  clear hb1 hX1 HX0 HB0 xc
  go_wp2_with fail
  refine (archive_0 k0 k1 k2 k3 w1 h0 h1 h2 h3).mono ?_
  rintro e w2 ⟨p1, n1, c1, rfl, hr1, hb2⟩
  obtain ⟨_, _, e1, -⟩ := hr1.len
  simp only [Value.slice.injEq] at e1
  obtain ⟨rfl, rfl, rfl⟩ := e1
  have HR1 := Lib.hid hr1
  have HB2 := Lib.hid (HB1.out.trans (hb2.mono HB1.out.size))
  clear hr1 hb2 HB1 x0 x1 x2 x3 xl HKB
  go_wp2_with fail
  refine (seat_tree k0 k1 k2 k3 w2 _ _ _ HR1.out).mono ?_
  rintro e w3 ⟨tb, mb, vs, ok, K, rfl, hk3, hs3⟩
  have HS := Lib.hid hs3
  obtain ⟨T, hT⟩ : ∃ t, (tabT (bitS k0 3) (bitS k0 6) (bitS k2 2)) = t := ⟨_, rfl⟩
  rw [hT] at hk3
  have HK := Lib.hid hk3
  clear hk3 hs3 HR1
  clear hT
  obtain ⟨j_an, s_na, r_a⟩ := nu_n T
  go_upto_region 4 with fail
  go_upto_region 5 with (go_at_call 11; refine (of_y _ ⟨#[65]⟩ _ (by assumption)).mono ?_; rw [pa, tyv_mk]; rintro e wn ⟨rfl, hbn⟩; replace HS := Lib.hid (HS.out.below hbn); clear hbn)
  obtain ⟨wj, hwj⟩ : ∃ x, x = ((wn.alloc (.cells #[.int .i64 6, .string ⟨#[]⟩] 24)).alloc (.cells #[.int .i64 6, .string ⟨#[]⟩] 24)) := ⟨_, rfl⟩
  have hsj : StJ w2 wj ok tb mb vs K [(wn.heap.size + 1, (6, ⟨#[]⟩)), (wn.heap.size, (6, ⟨#[]⟩))] := by
    rw [hwj]
    have := ((HS.out.box (6, ⟨#[]⟩)).box (6, ⟨#[]⟩))
    simp only [World.size_alloc] at this
    exact this
  rw [← hwj]
  clear hwj
  obtain ⟨g, hg⟩ : ∃ z, wn.heap.size = z := ⟨_, rfl⟩
  rw [hg] at hsj ⊢
  replace HS := Lib.hid hsj
  clear hg hsj
  obtain ⟨al, a0, a1⟩ := HS.out.cell (g := g) (a := (6, ⟨#[]⟩)) (by simp)
  obtain ⟨nl, n0, n1⟩ := HS.out.cell (g := g + 1) (a := (6, ⟨#[]⟩)) (by simp)
  try dsimp only at a0 a1 n0 n1
  go_wp2_with fail
  refine (join_c HS.out HK.out (by exact sz_small (by decide)) (by exact sz_small (by decide))).mono ?_
  rw [j_an, tyv_mk]
  rintro e wn ⟨rfl, hbn⟩
  replace HS := Lib.hid (HS.out.below hbn)
  clear al a0 a1 nl n0 n1
  clear hbn
  go_upto_region 7 with fail
  obtain ⟨wj, hwj⟩ : ∃ x, x = wn.alloc (.cells #[.int .i64 6, .string ⟨#[]⟩] 24) := ⟨_, rfl⟩
  have hsj : StJ w2 wj ok tb mb vs K [(wn.heap.size, (6, ⟨#[]⟩)), (g + 1, (6, ⟨#[]⟩)), (g, (6, ⟨#[]⟩))] := by rw [hwj]; exact HS.out.box (6, ⟨#[]⟩)
  rw [← hwj]
  clear hwj
  obtain ⟨gj, hgj⟩ : ∃ z, wn.heap.size = z := ⟨_, rfl⟩
  rw [hgj] at hsj ⊢
  replace HS := Lib.hid (hsj.below (Below.refl wj.heap.size wj).drew)
  clear hsj hgj
  refine wp_region_held_drew (S := fun W => ((g) < W.heap.size ∧ W.cell? ⟨g, 0, none⟩ = some (.int .i64 6) ∧ W.cell? ⟨g, 1, none⟩ = some (.string ⟨#[]⟩)) ∧ ((g + 1) < W.heap.size ∧ W.cell? ⟨g + 1, 0, none⟩ = some (.int .i64 6) ∧ W.cell? ⟨g + 1, 1, none⟩ = some (.string ⟨#[]⟩)) ∧ ((gj) < W.heap.size ∧ W.cell? ⟨gj, 0, none⟩ = some (.int .i64 6) ∧ W.cell? ⟨gj, 1, none⟩ = some (.string ⟨#[]⟩))) (by kernel_rfl) ⟨HS.out.cell (g := g) (a := (6, ⟨#[]⟩)) (by simp), HS.out.cell (g := g + 1) (a := (6, ⟨#[]⟩)) (by simp), HS.out.cell (g := gj) (a := (6, ⟨#[]⟩)) (by simp)⟩ (fun hHeld => ?_)
  refine wpAnyH_take (i := 0) (oi := _) (v := ?_) (by simp only [List.getElem?_toArray, List.getElem?_cons_zero]; rfl) (by kernel_rfl) (by kernel_rfl) (by kernel_rfl) (by intro _ _ _ h; exact h) (Or.inl ⟨by rfl, fun W hSw => ?_⟩) hHeld ?_
  rotate_left 1
  · (clear hSw; first | (go_simp; done) | (go_simp; with_reducible rfl))
  try go_frame
  refine wpAnyH_take (i := 1) (oi := _) (v := ?_) (by simp only [List.getElem?_toArray, List.getElem?_cons_succ, List.getElem?_cons_zero]; rfl) (by kernel_rfl) (by kernel_rfl) (by kernel_rfl) (by intro _ _ _ h; exact h) (Or.inl ⟨by rfl, fun W hSw => ?_⟩) hHeld ?_
  rotate_left 1
  · (try dsimp only at hSw); first | (go_simp; done) | (go_simp; with_reducible rfl)
  try go_frame
  refine wpAnyH_take (i := 2) (oi := _) (v := ?_) (by simp only [List.getElem?_toArray, List.getElem?_cons_succ, List.getElem?_cons_zero]; rfl) (by kernel_rfl) (by kernel_rfl) (by kernel_rfl) (by intro _ _ _ h; exact h) (Or.inl ⟨by rfl, fun W hSw => ?_⟩) hHeld ?_
  rotate_left 1
  · (try dsimp only at hSw); first | (go_simp; done) | (go_simp; with_reducible rfl)
  try go_frame
  refine wpAnyH_take (i := 4) (oi := _) (v := ?_) (by simp only [List.getElem?_toArray, List.getElem?_cons_succ, List.getElem?_cons_zero]; rfl) (by kernel_rfl) (by kernel_rfl) (by kernel_rfl) (by intro _ _ _ h; exact h) (Or.inl ⟨by rfl, fun W hSw => ?_⟩) hHeld ?_
  rotate_left 1
  · (clear hSw; first | (go_simp; done) | (go_simp; with_reducible rfl))
  try go_frame
  refine wpAnyH_ready (rs := [3]) (by kernel_rfl) (by simp) ?_
  refine AllReadyH.cons (o := _) (by simp only [List.getElem?_toArray, List.getElem?_cons_succ, List.getElem?_cons_zero]; rfl) (fun KX hKX => ?_) AllReadyH.nil
  clear hHeld
  go_simp
  refine (fits_c HS.out HK.out (by exact sz_small (by decide)) (by exact sz_small (by decide))).mono ?_
  (first | rw [s_na])
  rintro e wn ⟨rfl, hbn⟩
  replace HS := Lib.hid (HS.out.below hbn)
  clear hbn
  refine hKX.out _ _ ⟨HS.out.cell (g := g) (a := (6, ⟨#[]⟩)) (by simp), HS.out.cell (g := g + 1) (a := (6, ⟨#[]⟩)) (by simp), HS.out.cell (g := gj) (a := (6, ⟨#[]⟩)) (by simp)⟩ (fun hHeld => ?_)
  clear hKX KX
  try go_frame
  refine wpAnyH_take (i := 5) (oi := _) (v := ?_) (by simp only [List.getElem?_toArray, List.getElem?_cons_succ, List.getElem?_cons_zero]; rfl) (by kernel_rfl) (by kernel_rfl) (by kernel_rfl) (by intro _ _ _ h; exact h) (Or.inl ⟨by rfl, fun W hSw => ?_⟩) hHeld ?_
  rotate_left 1
  · (clear hSw; first | (go_simp; done) | (go_simp; with_reducible rfl))
  try go_frame
  refine wpAnyH_take (i := 6) (oi := _) (v := ?_) (by simp only [List.getElem?_toArray, List.getElem?_cons_succ, List.getElem?_cons_zero]; rfl) (by kernel_rfl) (by kernel_rfl) (by kernel_rfl) (by intro _ _ _ h; exact h) (Or.inl ⟨by rfl, fun W hSw => ?_⟩) hHeld ?_
  rotate_left 1
  · (try dsimp only at hSw); first | (go_simp; done) | (go_simp; with_reducible rfl)
  try go_frame
  refine wpAnyH_take (i := 7) (oi := _) (v := ?_) (by simp only [List.getElem?_toArray, List.getElem?_cons_succ, List.getElem?_cons_zero]; rfl) (by kernel_rfl) (by kernel_rfl) (by kernel_rfl) (by intro _ _ _ h; exact h) (Or.inl ⟨by rfl, fun W hSw => ?_⟩) hHeld ?_
  rotate_left 1
  · (try dsimp only at hSw); first | (go_simp; done) | (go_simp; with_reducible rfl)
  try go_frame
  refine wpAnyH_take (i := 8) (oi := _) (v := ?_) (by simp only [List.getElem?_toArray, List.getElem?_cons_succ, List.getElem?_cons_zero]; rfl) (by kernel_rfl) (by kernel_rfl) (by kernel_rfl) (by intro _ _ _ h; exact h) (Or.inl ⟨by rfl, fun W hSw => ?_⟩) hHeld ?_
  rotate_left 1
  · (clear hSw; first | (go_simp; done) | (go_simp; with_reducible rfl))
  try go_frame
  refine wpAnyH_take (i := 9) (oi := _) (v := ?_) (by simp only [List.getElem?_toArray, List.getElem?_cons_succ, List.getElem?_cons_zero]; rfl) (by kernel_rfl) (by kernel_rfl) (by kernel_rfl) (by intro _ _ _ h; exact h) (Or.inl ⟨by rfl, fun W hSw => ?_⟩) hHeld ?_
  rotate_left 1
  · (clear hSw; first | (go_simp; done) | (go_simp; with_reducible rfl))
  try go_frame
  refine wpAnyH_take (i := 10) (oi := _) (v := ?_) (by simp only [List.getElem?_toArray, List.getElem?_cons_succ, List.getElem?_cons_zero]; rfl) (by kernel_rfl) (by kernel_rfl) (by kernel_rfl) (by intro _ _ _ h; exact h) (Or.inl ⟨by rfl, fun W hSw => ?_⟩) hHeld ?_
  rotate_left 1
  · (clear hSw; first | (go_simp; done) | (go_simp; with_reducible rfl))
  try go_frame
  refine wpAnyH_take (i := 11) (oi := _) (v := ?_) (by simp only [List.getElem?_toArray, List.getElem?_cons_succ, List.getElem?_cons_zero]; rfl) (by kernel_rfl) (by kernel_rfl) (by kernel_rfl) (by intro _ _ _ h; exact h) (Or.inl ⟨by rfl, fun W hSw => ?_⟩) hHeld ?_
  rotate_left 1
  · (clear hSw; first | (go_simp; done) | (go_simp; with_reducible rfl))
  try go_frame
  refine wpAnyH_take (i := 12) (oi := _) (v := ?_) (by simp only [List.getElem?_toArray, List.getElem?_cons_succ, List.getElem?_cons_zero]; rfl) (by kernel_rfl) (by kernel_rfl) (by kernel_rfl) (by intro _ _ _ h; exact h) (Or.inl ⟨by rfl, fun W hSw => ?_⟩) hHeld ?_
  rotate_left 1
  · (try dsimp only at hSw); first | (go_simp; done) | (go_simp; with_reducible rfl)
  try go_frame
  refine wpAnyH_take (i := 14) (oi := _) (v := ?_) (by simp only [List.getElem?_toArray, List.getElem?_cons_succ, List.getElem?_cons_zero]; rfl) (by kernel_rfl) (by kernel_rfl) (by kernel_rfl) (by intro _ _ _ h; exact h) (Or.inl ⟨by rfl, fun W hSw => ?_⟩) hHeld ?_
  rotate_left 1
  · (clear hSw; first | (go_simp; done) | (go_simp; with_reducible rfl))
  try go_frame
  refine wpAnyH_ready (rs := [13]) (by kernel_rfl) (by simp) ?_
  refine AllReadyH.cons (o := _) (by simp only [List.getElem?_toArray, List.getElem?_cons_succ, List.getElem?_cons_zero]; rfl) (fun KX hKX => ?_) AllReadyH.nil
  clear hHeld
  go_simp
  refine refers_c.mono ?_
  (first | rw [r_a])
  rintro e wn ⟨rfl, hbn⟩
  replace HS := Lib.hid (HS.out.below hbn)
  clear hbn
  refine hKX.out _ _ ⟨HS.out.cell (g := g) (a := (6, ⟨#[]⟩)) (by simp), HS.out.cell (g := g + 1) (a := (6, ⟨#[]⟩)) (by simp), HS.out.cell (g := gj) (a := (6, ⟨#[]⟩)) (by simp)⟩ (fun hHeld => ?_)
  clear hKX KX
  try go_frame
  refine wpAnyH_take (i := 15) (oi := _) (v := ?_) (by simp only [List.getElem?_toArray, List.getElem?_cons_succ, List.getElem?_cons_zero]; rfl) (by kernel_rfl) (by kernel_rfl) (by kernel_rfl) (by intro _ _ _ h; exact h) (Or.inl ⟨by rfl, fun W hSw => ?_⟩) hHeld ?_
  rotate_left 1
  · (clear hSw; first | (go_simp; done) | (go_simp; with_reducible rfl))
  try go_frame
  refine wpAnyH_take (i := 16) (oi := _) (v := ?_) (by simp only [List.getElem?_toArray, List.getElem?_cons_succ, List.getElem?_cons_zero]; rfl) (by kernel_rfl) (by kernel_rfl) (by kernel_rfl) (by intro _ _ _ h; exact h) (Or.inl ⟨by rfl, fun W hSw => ?_⟩) hHeld ?_
  rotate_left 1
  · (try dsimp only at hSw); first | (go_simp; done) | (go_simp; with_reducible rfl)
  try go_frame
  refine wpAnyH_take (i := 17) (oi := _) (v := ?_) (by simp only [List.getElem?_toArray, List.getElem?_cons_succ, List.getElem?_cons_zero]; rfl) (by kernel_rfl) (by kernel_rfl) (by kernel_rfl) (by intro _ _ _ h; exact h) (Or.inl ⟨by rfl, fun W hSw => ?_⟩) hHeld ?_
  rotate_left 1
  · (try dsimp only at hSw); first | (go_simp; done) | (go_simp; with_reducible rfl)
  try go_frame
  refine wpAnyH_take (i := 18) (oi := _) (v := ?_) (by simp only [List.getElem?_toArray, List.getElem?_cons_succ, List.getElem?_cons_zero]; rfl) (by kernel_rfl) (by kernel_rfl) (by kernel_rfl) (by intro _ _ _ h; exact h) (Or.inl ⟨by rfl, fun W hSw => ?_⟩) hHeld ?_
  rotate_left 1
  · (clear hSw; first | (go_simp; done) | (go_simp; with_reducible rfl))
  try go_frame
  refine wpAnyH_take (i := 19) (oi := _) (v := ?_) (by simp only [List.getElem?_toArray, List.getElem?_cons_succ, List.getElem?_cons_zero]; rfl) (by kernel_rfl) (by kernel_rfl) (by kernel_rfl) (by intro _ _ _ h; exact h) (Or.inl ⟨by rfl, fun W hSw => ?_⟩) hHeld ?_
  rotate_left 1
  · (clear hSw; first | (go_simp; done) | (go_simp; with_reducible rfl))
  try go_frame
  refine wpAnyH_take (i := 20) (oi := _) (v := ?_) (by simp only [List.getElem?_toArray, List.getElem?_cons_succ, List.getElem?_cons_zero]; rfl) (by kernel_rfl) (by kernel_rfl) (by kernel_rfl) (by intro _ _ _ h; exact h) (Or.inl ⟨by rfl, fun W hSw => ?_⟩) hHeld ?_
  rotate_left 1
  · (clear hSw; first | (go_simp; done) | (go_simp; with_reducible rfl))
  try go_frame
  refine wpAnyH_take (i := 21) (oi := _) (v := ?_) (by simp only [List.getElem?_toArray, List.getElem?_cons_succ, List.getElem?_cons_zero]; rfl) (by kernel_rfl) (by kernel_rfl) (by kernel_rfl) (by intro _ _ _ h; exact h) (Or.inl ⟨by rfl, fun W hSw => ?_⟩) hHeld ?_
  rotate_left 1
  · (clear hSw; first | (go_simp; done) | (go_simp; with_reducible rfl))
  try go_frame
  refine wpAnyH_take (i := 22) (oi := _) (v := ?_) (by simp only [List.getElem?_toArray, List.getElem?_cons_succ, List.getElem?_cons_zero]; rfl) (by kernel_rfl) (by kernel_rfl) (by kernel_rfl) (by intro _ _ _ h; exact h) (Or.inl ⟨by rfl, fun W hSw => ?_⟩) hHeld ?_
  rotate_left 1
  · (clear hSw; first | (go_simp; done) | (go_simp; with_reducible rfl))
  try go_frame
  refine wpAnyH_take (i := 23) (oi := _) (v := ?_) (by simp only [List.getElem?_toArray, List.getElem?_cons_succ, List.getElem?_cons_zero]; rfl) (by kernel_rfl) (by kernel_rfl) (by kernel_rfl) (by intro _ _ _ h; exact h) (Or.inl ⟨by rfl, fun W hSw => ?_⟩) hHeld ?_
  rotate_left 1
  · (try dsimp only at hSw); first | (go_simp; done) | (go_simp; with_reducible rfl)
  try go_frame
  refine wpAnyH_take (i := 24) (oi := _) (v := ?_) (by simp only [List.getElem?_toArray, List.getElem?_cons_succ, List.getElem?_cons_zero]; rfl) (by kernel_rfl) (by kernel_rfl) (by kernel_rfl) (by intro _ _ _ h; exact h) (Or.inl ⟨by rfl, fun W hSw => ?_⟩) hHeld ?_
  rotate_left 1
  · (clear hSw; first | (go_simp; done) | (go_simp; with_reducible rfl))
  try go_frame
  refine wpAnyH_take (i := 25) (oi := _) (v := ?_) (by simp only [List.getElem?_toArray, List.getElem?_cons_succ, List.getElem?_cons_zero]; rfl) (by kernel_rfl) (by kernel_rfl) (by kernel_rfl) (by intro _ _ _ h; exact h) (Or.inl ⟨by rfl, fun W hSw => ?_⟩) hHeld ?_
  rotate_left 1
  · (try dsimp only at hSw); first | (go_simp; done) | (go_simp; with_reducible rfl)
  try go_frame
  refine wpAnyH_take (i := 26) (oi := _) (v := ?_) (by simp only [List.getElem?_toArray, List.getElem?_cons_succ, List.getElem?_cons_zero]; rfl) (by kernel_rfl) (by kernel_rfl) (by kernel_rfl) (by intro _ _ _ h; exact h) (Or.inl ⟨by rfl, fun W hSw => ?_⟩) hHeld ?_
  rotate_left 1
  · (try dsimp only at hSw); first | (go_simp; done) | (go_simp; with_reducible rfl)
  try go_frame
  refine wpAnyH_ready (rs := [27]) (by kernel_rfl) (by simp) ?_
  refine AllReadyH.cons (o := _) (by simp only [List.getElem?_toArray, List.getElem?_cons_succ, List.getElem?_cons_zero]; rfl) (fun KX hKX => ?_) AllReadyH.nil
  clear hHeld
  go_simp
  refine (join_c HS.out HK.out (by exact sz_small (by decide)) (by exact sz_small (by decide))).mono ?_
  (first | rw [j_an]); rw [tyv_mk]
  rintro e wn ⟨rfl, hbn⟩
  replace HS := Lib.hid (HS.out.below hbn)
  clear hbn
  refine hKX.out _ _ ⟨HS.out.cell (g := g) (a := (6, ⟨#[]⟩)) (by simp), HS.out.cell (g := g + 1) (a := (6, ⟨#[]⟩)) (by simp), HS.out.cell (g := gj) (a := (6, ⟨#[]⟩)) (by simp)⟩ (fun hHeld => ?_)
  clear hKX KX
  try go_frame
  refine wpAnyH_take (i := 28) (oi := _) (v := ?_) (by simp only [List.getElem?_toArray, List.getElem?_cons_succ, List.getElem?_cons_zero]; rfl) (by kernel_rfl) (by kernel_rfl) (by kernel_rfl) (by intro _ _ _ h; exact h) (Or.inl ⟨by rfl, fun W hSw => ?_⟩) hHeld ?_
  rotate_left 1
  · (clear hSw; first | (go_simp; done) | (go_simp; with_reducible rfl))
  try go_frame
  refine wpAnyH_take (i := 29) (oi := _) (v := ?_) (by simp only [List.getElem?_toArray, List.getElem?_cons_succ, List.getElem?_cons_zero]; rfl) (by kernel_rfl) (by kernel_rfl) (by kernel_rfl) (by intro _ _ _ h; exact h) (Or.inl ⟨by rfl, fun W hSw => ?_⟩) hHeld ?_
  rotate_left 1
  · (clear hSw; first | (go_simp; done) | (go_simp; with_reducible rfl))
  try go_frame
  refine wpAnyH_done (by kernel_rfl) ?_ _
  obtain ⟨al, a0, a1⟩ := HS.out.cell (g := g) (a := (6, ⟨#[]⟩)) (by simp)
  obtain ⟨nl, n0, n1⟩ := HS.out.cell (g := g + 1) (a := (6, ⟨#[]⟩)) (by simp)
  obtain ⟨jl, j0, j1⟩ := HS.out.cell (g := gj) (a := (6, ⟨#[]⟩)) (by simp)
  try dsimp only at a0 a1 n0 n1 j0 j1
  go_wp2_with first
    | (go_at_call 14; refine (fits_c HS.out HK.out (by exact sz_small (by decide)) (by exact sz_small (by decide))).mono ?_; (first | rw [s_na]); rintro e wn ⟨rfl, hbn⟩; replace HS := Lib.hid (HS.out.below hbn); clear al a0 a1 nl n0 n1 jl j0 j1; clear hbn; obtain ⟨al, a0, a1⟩ := HS.out.cell (g := g) (a := (6, ⟨#[]⟩)) (by simp); obtain ⟨nl, n0, n1⟩ := HS.out.cell (g := g + 1) (a := (6, ⟨#[]⟩)) (by simp); obtain ⟨jl, j0, j1⟩ := HS.out.cell (g := gj) (a := (6, ⟨#[]⟩)) (by simp); try dsimp only at a0 a1 n0 n1 j0 j1)
    | (go_at_call 12; refine (join_c HS.out HK.out (by exact sz_small (by decide)) (by exact sz_small (by decide))).mono ?_; (first | rw [j_an]); rw [tyv_mk]; rintro e wn ⟨rfl, hbn⟩; replace HS := Lib.hid (HS.out.below hbn); clear al a0 a1 nl n0 n1 jl j0 j1; clear hbn; obtain ⟨al, a0, a1⟩ := HS.out.cell (g := g) (a := (6, ⟨#[]⟩)) (by simp); obtain ⟨nl, n0, n1⟩ := HS.out.cell (g := g + 1) (a := (6, ⟨#[]⟩)) (by simp); obtain ⟨jl, j0, j1⟩ := HS.out.cell (g := gj) (a := (6, ⟨#[]⟩)) (by simp); try dsimp only at a0 a1 n0 n1 j0 j1)
  go_ret
  exact ⟨rfl, HB2.out.trans (HS.out.2.2.mono HB2.out.size)⟩
set_option maxHeartbeats 8000000 in
set_option maxRecDepth 100000 in
theorem nulls_p4 (k0 k1 k2 k3 x : Nat) (w : World) (h0 : k0 < 256) (h1 : k1 < 256) (h2 : k2 < 256) (h3 : k3 < 256) (hx : x < 256) (k : Int) (s : ByteArray) (e3 : ¬ k = 3) (e4 : ¬ k = 4) (e6 : ¬ k = 6) (pa : ofJ x ⟨#[65]⟩ = (k, s)) (hsz : s.size ≤ 1000) :
    Calls Try.prog 5 #[.agg #[.int .u8 (k0 : Int), .int .u8 (k1 : Int), .int .u8 (k2 : Int), .int .u8 (k3 : Int)], .int .u8 (x : Int)] w fun e w' => e = .returned (.bool true) ∧ Below w.heap.size w w' := by
  obtain ⟨w0, hw0⟩ : ∃ x, x = w.alloc (.cells #[.int .u8 (k0 : Int), .int .u8 (k1 : Int), .int .u8 (k2 : Int), .int .u8 (k3 : Int)] 22) := ⟨_, rfl⟩
  have HB0 : Hid (Below w.heap.size w w0) := Lib.hid (by rw [hw0]; exact below_alR _ _)
  have HX0 : Hid (w0.heap[w.heap.size]? = some (.cells #[.int .u8 (k0 : Int), .int .u8 (k1 : Int), .int .u8 (k2 : Int), .int .u8 (k3 : Int)] 22 (0, 0))) := Lib.hid (by rw [hw0]; exact heap_alloc_new _ _)
  go_enter Try.func5, Try.ntmps5
  try simp only [List.append_eq, List.cons_append, List.nil_append]
  go_wp2_with fail
  rw [← hw0]
  clear hw0
  obtain ⟨kb, hkb⟩ : ∃ x, w.heap.size = x := ⟨_, rfl⟩
  rw [hkb] at HX0 ⊢
  have HKB := Lib.hid hkb
  clear hkb
  refine (known_11 w0).mono ?_
  rintro e w1 ⟨rfl, hb1⟩
  have hX1 := (hb1.block _ (Array.getElem?_eq_some_iff.1 HX0.out).1).trans HX0.out
  have HB1 := Lib.hid (HB0.out.trans (hb1.mono HB0.out.size))
  obtain ⟨xl, xc, -⟩ := boxN hX1
  have x0 := xc 0 _ rfl
  have x1 := xc 1 _ rfl
  have x2 := xc 2 _ rfl
  have x3 := xc 3 _ rfl
  simp only [Nat.zero_add] at x0 x1 x2 x3
  clear hb1 hX1 HX0 HB0 xc
  go_wp2_with fail
  refine (archive_0 k0 k1 k2 k3 w1 h0 h1 h2 h3).mono ?_
  rintro e w2 ⟨p1, n1, c1, rfl, hr1, hb2⟩
  obtain ⟨_, _, e1, -⟩ := hr1.len
  simp only [Value.slice.injEq] at e1
  obtain ⟨rfl, rfl, rfl⟩ := e1
  have HR1 := Lib.hid hr1
  have HB2 := Lib.hid (HB1.out.trans (hb2.mono HB1.out.size))
  clear hr1 hb2 HB1 x0 x1 x2 x3 xl HKB
  go_wp2_with fail
  refine (seat_tree k0 k1 k2 k3 w2 _ _ _ HR1.out).mono ?_
  rintro e w3 ⟨tb, mb, vs, ok, K, rfl, hk3, hs3⟩
  have HS := Lib.hid hs3
  obtain ⟨T, hT⟩ : ∃ t, (tabT (bitS k0 3) (bitS k0 6) (bitS k2 2)) = t := ⟨_, rfl⟩
  rw [hT] at hk3
  have HK := Lib.hid hk3
  clear hk3 hs3 HR1
  clear hT
  obtain ⟨j_an, j_na, s_na, s_an, r_a⟩ := nu_o T (s := s) e3 e4 e6
  have ZS : Hid (s.size ≤ maxLen) := Lib.hid (sz_small hsz)
  clear hsz
  have q3 : (k == 3) = false := beq_eq_false_iff_ne.2 e3
  have q4 : (k == 4) = false := beq_eq_false_iff_ne.2 e4
  go_upto_region 4 with fail
  go_upto_region 5 with (go_at_call 11; refine (of_y _ ⟨#[65]⟩ _ (by assumption)).mono ?_; rw [pa, tyv_mk]; rintro e wn ⟨rfl, hbn⟩; replace HS := Lib.hid (HS.out.below hbn); clear hbn)
  obtain ⟨wj, hwj⟩ : ∃ x, x = ((wn.alloc (.cells #[.int .i64 k, .string s] 24)).alloc (.cells #[.int .i64 6, .string ⟨#[]⟩] 24)) := ⟨_, rfl⟩
  have hsj : StJ w2 wj ok tb mb vs K [(wn.heap.size + 1, (6, ⟨#[]⟩)), (wn.heap.size, (k, s))] := by
    rw [hwj]
    have := ((HS.out.box (k, s)).box (6, ⟨#[]⟩))
    simp only [World.size_alloc] at this
    exact this
  rw [← hwj]
  clear hwj
  obtain ⟨g, hg⟩ : ∃ z, wn.heap.size = z := ⟨_, rfl⟩
  rw [hg] at hsj ⊢
  replace HS := Lib.hid hsj
  clear hg hsj
  obtain ⟨al, a0, a1⟩ := HS.out.cell (g := g) (a := (k, s)) (by simp)
  obtain ⟨nl, n0, n1⟩ := HS.out.cell (g := g + 1) (a := (6, ⟨#[]⟩)) (by simp)
  try dsimp only at a0 a1 n0 n1
  go_wp2_with fail
  refine (join_c HS.out HK.out (by first | exact ZS.out | exact sz_small (by decide)) (by first | exact ZS.out | exact sz_small (by decide))).mono ?_
  rw [j_an, tyv_mk]
  rintro e wn ⟨rfl, hbn⟩
  replace HS := Lib.hid (HS.out.below hbn)
  clear al a0 a1 nl n0 n1
  clear hbn
  go_upto_region 7 with fail
  obtain ⟨wj, hwj⟩ : ∃ x, x = wn.alloc (.cells #[.int .i64 7, .string ⟨#[]⟩] 24) := ⟨_, rfl⟩
  have hsj : StJ w2 wj ok tb mb vs K [(wn.heap.size, (7, ⟨#[]⟩)), (g + 1, (6, ⟨#[]⟩)), (g, (k, s))] := by rw [hwj]; exact HS.out.box (7, ⟨#[]⟩)
  rw [← hwj]
  clear hwj
  obtain ⟨gj, hgj⟩ : ∃ z, wn.heap.size = z := ⟨_, rfl⟩
  rw [hgj] at hsj ⊢
  replace HS := Lib.hid (hsj.below (Below.refl wj.heap.size wj).drew)
  clear hsj hgj
  refine wp_region_held_drew (S := fun W => ((g) < W.heap.size ∧ W.cell? ⟨g, 0, none⟩ = some (.int .i64 k) ∧ W.cell? ⟨g, 1, none⟩ = some (.string s)) ∧ ((g + 1) < W.heap.size ∧ W.cell? ⟨g + 1, 0, none⟩ = some (.int .i64 6) ∧ W.cell? ⟨g + 1, 1, none⟩ = some (.string ⟨#[]⟩)) ∧ ((gj) < W.heap.size ∧ W.cell? ⟨gj, 0, none⟩ = some (.int .i64 7) ∧ W.cell? ⟨gj, 1, none⟩ = some (.string ⟨#[]⟩))) (by kernel_rfl) ⟨HS.out.cell (g := g) (a := (k, s)) (by simp), HS.out.cell (g := g + 1) (a := (6, ⟨#[]⟩)) (by simp), HS.out.cell (g := gj) (a := (7, ⟨#[]⟩)) (by simp)⟩ (fun hHeld => ?_)
  refine wpAnyH_take (i := 0) (oi := _) (v := ?_) (by simp only [List.getElem?_toArray, List.getElem?_cons_zero]; rfl) (by kernel_rfl) (by kernel_rfl) (by kernel_rfl) (by intro _ _ _ h; exact h) (Or.inl ⟨by rfl, fun W hSw => ?_⟩) hHeld ?_
  rotate_left 1
  · (clear hSw; first | (go_simp; done) | (go_simp; with_reducible rfl))
  try go_frame
  refine wpAnyH_take (i := 1) (oi := _) (v := ?_) (by simp only [List.getElem?_toArray, List.getElem?_cons_succ, List.getElem?_cons_zero]; rfl) (by kernel_rfl) (by kernel_rfl) (by kernel_rfl) (by intro _ _ _ h; exact h) (Or.inl ⟨by rfl, fun W hSw => ?_⟩) hHeld ?_
  rotate_left 1
  · (try dsimp only at hSw); first | (go_simp; done) | (go_simp; with_reducible rfl)
  try go_frame
  refine wpAnyH_take (i := 2) (oi := _) (v := ?_) (by simp only [List.getElem?_toArray, List.getElem?_cons_succ, List.getElem?_cons_zero]; rfl) (by kernel_rfl) (by kernel_rfl) (by kernel_rfl) (by intro _ _ _ h; exact h) (Or.inl ⟨by rfl, fun W hSw => ?_⟩) hHeld ?_
  rotate_left 1
  · (try dsimp only at hSw); first | (go_simp; done) | (go_simp; with_reducible rfl)
  try go_frame
  refine wpAnyH_take (i := 4) (oi := _) (v := ?_) (by simp only [List.getElem?_toArray, List.getElem?_cons_succ, List.getElem?_cons_zero]; rfl) (by kernel_rfl) (by kernel_rfl) (by kernel_rfl) (by intro _ _ _ h; exact h) (Or.inl ⟨by rfl, fun W hSw => ?_⟩) hHeld ?_
  rotate_left 1
  · (clear hSw; first | (go_simp; done) | (go_simp; with_reducible rfl))
  try go_frame
  refine wpAnyH_ready (rs := [3]) (by kernel_rfl) (by simp) ?_
  refine AllReadyH.cons (o := _) (by simp only [List.getElem?_toArray, List.getElem?_cons_succ, List.getElem?_cons_zero]; rfl) (fun KX hKX => ?_) AllReadyH.nil
  clear hHeld
  go_simp
  refine (fits_c HS.out HK.out (by first | exact ZS.out | exact sz_small (by decide)) (by first | exact ZS.out | exact sz_small (by decide))).mono ?_
  (first | rw [s_na] | rw [s_an])
  rintro e wn ⟨rfl, hbn⟩
  replace HS := Lib.hid (HS.out.below hbn)
  clear hbn
  refine hKX.out _ _ ⟨HS.out.cell (g := g) (a := (k, s)) (by simp), HS.out.cell (g := g + 1) (a := (6, ⟨#[]⟩)) (by simp), HS.out.cell (g := gj) (a := (7, ⟨#[]⟩)) (by simp)⟩ (fun hHeld => ?_)
  clear hKX KX
  try go_frame
  refine wpAnyH_take (i := 5) (oi := _) (v := ?_) (by simp only [List.getElem?_toArray, List.getElem?_cons_succ, List.getElem?_cons_zero]; rfl) (by kernel_rfl) (by kernel_rfl) (by kernel_rfl) (by intro _ _ _ h; exact h) (Or.inl ⟨by rfl, fun W hSw => ?_⟩) hHeld ?_
  rotate_left 1
  · (clear hSw; first | (go_simp; done) | (go_simp; with_reducible rfl))
  try go_frame
  refine wpAnyH_take (i := 6) (oi := _) (v := ?_) (by simp only [List.getElem?_toArray, List.getElem?_cons_succ, List.getElem?_cons_zero]; rfl) (by kernel_rfl) (by kernel_rfl) (by kernel_rfl) (by intro _ _ _ h; exact h) (Or.inl ⟨by rfl, fun W hSw => ?_⟩) hHeld ?_
  rotate_left 1
  · (try dsimp only at hSw); first | (go_simp; done) | (go_simp; with_reducible rfl)
  try go_frame
  refine wpAnyH_take (i := 7) (oi := _) (v := ?_) (by simp only [List.getElem?_toArray, List.getElem?_cons_succ, List.getElem?_cons_zero]; rfl) (by kernel_rfl) (by kernel_rfl) (by kernel_rfl) (by intro _ _ _ h; exact h) (Or.inl ⟨by rfl, fun W hSw => ?_⟩) hHeld ?_
  rotate_left 1
  · (try dsimp only at hSw); first | (go_simp; done) | (go_simp; with_reducible rfl)
  try go_frame
  refine wpAnyH_take (i := 8) (oi := _) (v := ?_) (by simp only [List.getElem?_toArray, List.getElem?_cons_succ, List.getElem?_cons_zero]; rfl) (by kernel_rfl) (by kernel_rfl) (by kernel_rfl) (by intro _ _ _ h; exact h) (Or.inl ⟨by rfl, fun W hSw => ?_⟩) hHeld ?_
  rotate_left 1
  · (clear hSw; first | (go_simp; done) | (go_simp; with_reducible rfl))
  try go_frame
  refine wpAnyH_take (i := 9) (oi := _) (v := ?_) (by simp only [List.getElem?_toArray, List.getElem?_cons_succ, List.getElem?_cons_zero]; rfl) (by kernel_rfl) (by kernel_rfl) (by kernel_rfl) (by intro _ _ _ h; exact h) (Or.inl ⟨by rfl, fun W hSw => ?_⟩) hHeld ?_
  rotate_left 1
  · (clear hSw; first | (go_simp; done) | (go_simp; with_reducible rfl))
  try go_frame
  refine wpAnyH_take (i := 10) (oi := _) (v := ?_) (by simp only [List.getElem?_toArray, List.getElem?_cons_succ, List.getElem?_cons_zero]; rfl) (by kernel_rfl) (by kernel_rfl) (by kernel_rfl) (by intro _ _ _ h; exact h) (Or.inl ⟨by rfl, fun W hSw => ?_⟩) hHeld ?_
  rotate_left 1
  · (clear hSw; first | (go_simp; done) | (go_simp; with_reducible rfl))
  try go_frame
  refine wpAnyH_take (i := 11) (oi := _) (v := ?_) (by simp only [List.getElem?_toArray, List.getElem?_cons_succ, List.getElem?_cons_zero]; rfl) (by kernel_rfl) (by kernel_rfl) (by kernel_rfl) (by intro _ _ _ h; exact h) (Or.inl ⟨by rfl, fun W hSw => ?_⟩) hHeld ?_
  rotate_left 1
  · (clear hSw; first | (go_simp; done) | (go_simp; with_reducible rfl))
  try go_frame
  refine wpAnyH_take (i := 12) (oi := _) (v := ?_) (by simp only [List.getElem?_toArray, List.getElem?_cons_succ, List.getElem?_cons_zero]; rfl) (by kernel_rfl) (by kernel_rfl) (by kernel_rfl) (by intro _ _ _ h; exact h) (Or.inl ⟨by rfl, fun W hSw => ?_⟩) hHeld ?_
  rotate_left 1
  · (try dsimp only at hSw); first | (go_simp; done) | (go_simp; with_reducible rfl)
  try go_frame
  refine wpAnyH_take (i := 14) (oi := _) (v := ?_) (by simp only [List.getElem?_toArray, List.getElem?_cons_succ, List.getElem?_cons_zero]; rfl) (by kernel_rfl) (by kernel_rfl) (by kernel_rfl) (by intro _ _ _ h; exact h) (Or.inl ⟨by rfl, fun W hSw => ?_⟩) hHeld ?_
  rotate_left 1
  · (clear hSw; first | (go_simp; done) | (go_simp; with_reducible rfl))
  try go_frame
  refine wpAnyH_ready (rs := [13]) (by kernel_rfl) (by simp) ?_
  refine AllReadyH.cons (o := _) (by simp only [List.getElem?_toArray, List.getElem?_cons_succ, List.getElem?_cons_zero]; rfl) (fun KX hKX => ?_) AllReadyH.nil
  clear hHeld
  go_simp
  refine refers_c.mono ?_
  (first | rw [r_a])
  rintro e wn ⟨rfl, hbn⟩
  replace HS := Lib.hid (HS.out.below hbn)
  clear hbn
  refine hKX.out _ _ ⟨HS.out.cell (g := g) (a := (k, s)) (by simp), HS.out.cell (g := g + 1) (a := (6, ⟨#[]⟩)) (by simp), HS.out.cell (g := gj) (a := (7, ⟨#[]⟩)) (by simp)⟩ (fun hHeld => ?_)
  clear hKX KX
  try go_frame
  refine wpAnyH_take (i := 15) (oi := _) (v := ?_) (by simp only [List.getElem?_toArray, List.getElem?_cons_succ, List.getElem?_cons_zero]; rfl) (by kernel_rfl) (by kernel_rfl) (by kernel_rfl) (by intro _ _ _ h; exact h) (Or.inl ⟨by rfl, fun W hSw => ?_⟩) hHeld ?_
  rotate_left 1
  · (clear hSw; first | (go_simp; done) | (go_simp; with_reducible rfl))
  try go_frame
  refine wpAnyH_take (i := 16) (oi := _) (v := ?_) (by simp only [List.getElem?_toArray, List.getElem?_cons_succ, List.getElem?_cons_zero]; rfl) (by kernel_rfl) (by kernel_rfl) (by kernel_rfl) (by intro _ _ _ h; exact h) (Or.inl ⟨by rfl, fun W hSw => ?_⟩) hHeld ?_
  rotate_left 1
  · (try dsimp only at hSw); first | (go_simp; done) | (go_simp; with_reducible rfl)
  try go_frame
  refine wpAnyH_take (i := 17) (oi := _) (v := ?_) (by simp only [List.getElem?_toArray, List.getElem?_cons_succ, List.getElem?_cons_zero]; rfl) (by kernel_rfl) (by kernel_rfl) (by kernel_rfl) (by intro _ _ _ h; exact h) (Or.inl ⟨by rfl, fun W hSw => ?_⟩) hHeld ?_
  rotate_left 1
  · (try dsimp only at hSw); first | (go_simp; done) | (go_simp; with_reducible rfl)
  try go_frame
  refine wpAnyH_take (i := 18) (oi := _) (v := ?_) (by simp only [List.getElem?_toArray, List.getElem?_cons_succ, List.getElem?_cons_zero]; rfl) (by kernel_rfl) (by kernel_rfl) (by kernel_rfl) (by intro _ _ _ h; exact h) (Or.inl ⟨by rfl, fun W hSw => ?_⟩) hHeld ?_
  rotate_left 1
  · (clear hSw; first | (go_simp; done) | (go_simp; with_reducible rfl))
  try go_frame
  refine wpAnyH_take (i := 19) (oi := _) (v := ?_) (by simp only [List.getElem?_toArray, List.getElem?_cons_succ, List.getElem?_cons_zero]; rfl) (by kernel_rfl) (by kernel_rfl) (by kernel_rfl) (by intro _ _ _ h; exact h) (Or.inl ⟨by rfl, fun W hSw => ?_⟩) hHeld ?_
  rotate_left 1
  · (clear hSw; first | (go_simp; done) | (go_simp; with_reducible rfl))
  try go_frame
  refine wpAnyH_take (i := 20) (oi := _) (v := ?_) (by simp only [List.getElem?_toArray, List.getElem?_cons_succ, List.getElem?_cons_zero]; rfl) (by kernel_rfl) (by kernel_rfl) (by kernel_rfl) (by intro _ _ _ h; exact h) (Or.inl ⟨by rfl, fun W hSw => ?_⟩) hHeld ?_
  rotate_left 1
  · (clear hSw; first | (go_simp; done) | (go_simp; with_reducible rfl))
  try go_frame
  refine wpAnyH_take (i := 21) (oi := _) (v := ?_) (by simp only [List.getElem?_toArray, List.getElem?_cons_succ, List.getElem?_cons_zero]; rfl) (by kernel_rfl) (by kernel_rfl) (by kernel_rfl) (by intro _ _ _ h; exact h) (Or.inl ⟨by rfl, fun W hSw => ?_⟩) hHeld ?_
  rotate_left 1
  · (clear hSw; first | (go_simp; done) | (go_simp; with_reducible rfl))
  try go_frame
  refine wpAnyH_take (i := 22) (oi := _) (v := ?_) (by simp only [List.getElem?_toArray, List.getElem?_cons_succ, List.getElem?_cons_zero]; rfl) (by kernel_rfl) (by kernel_rfl) (by kernel_rfl) (by intro _ _ _ h; exact h) (Or.inl ⟨by rfl, fun W hSw => ?_⟩) hHeld ?_
  rotate_left 1
  · (clear hSw; first | (go_simp; done) | (go_simp; with_reducible rfl))
  try go_frame
  refine wpAnyH_take (i := 23) (oi := _) (v := ?_) (by simp only [List.getElem?_toArray, List.getElem?_cons_succ, List.getElem?_cons_zero]; rfl) (by kernel_rfl) (by kernel_rfl) (by kernel_rfl) (by intro _ _ _ h; exact h) (Or.inl ⟨by rfl, fun W hSw => ?_⟩) hHeld ?_
  rotate_left 1
  · (try dsimp only at hSw); first | (go_simp; done) | (go_simp; with_reducible rfl)
  try go_frame
  refine wpAnyH_take (i := 24) (oi := _) (v := ?_) (by simp only [List.getElem?_toArray, List.getElem?_cons_succ, List.getElem?_cons_zero]; rfl) (by kernel_rfl) (by kernel_rfl) (by kernel_rfl) (by intro _ _ _ h; exact h) (Or.inl ⟨by rfl, fun W hSw => ?_⟩) hHeld ?_
  rotate_left 1
  · (clear hSw; first | (go_simp; done) | (go_simp; with_reducible rfl))
  try go_frame
  refine wpAnyH_take (i := 25) (oi := _) (v := ?_) (by simp only [List.getElem?_toArray, List.getElem?_cons_succ, List.getElem?_cons_zero]; rfl) (by kernel_rfl) (by kernel_rfl) (by kernel_rfl) (by intro _ _ _ h; exact h) (Or.inl ⟨by rfl, fun W hSw => ?_⟩) hHeld ?_
  rotate_left 1
  · (try dsimp only at hSw); first | (go_simp; done) | (go_simp; with_reducible rfl)
  try go_frame
  refine wpAnyH_take (i := 26) (oi := _) (v := ?_) (by simp only [List.getElem?_toArray, List.getElem?_cons_succ, List.getElem?_cons_zero]; rfl) (by kernel_rfl) (by kernel_rfl) (by kernel_rfl) (by intro _ _ _ h; exact h) (Or.inl ⟨by rfl, fun W hSw => ?_⟩) hHeld ?_
  rotate_left 1
  · (try dsimp only at hSw); first | (go_simp; done) | (go_simp; with_reducible rfl)
  try go_frame
  refine wpAnyH_ready (rs := [27]) (by kernel_rfl) (by simp) ?_
  refine AllReadyH.cons (o := _) (by simp only [List.getElem?_toArray, List.getElem?_cons_succ, List.getElem?_cons_zero]; rfl) (fun KX hKX => ?_) AllReadyH.nil
  clear hHeld
  go_simp
  refine (join_c HS.out HK.out (by first | exact ZS.out | exact sz_small (by decide)) (by first | exact ZS.out | exact sz_small (by decide))).mono ?_
  (first | rw [j_na]); rw [tyv_mk]
  rintro e wn ⟨rfl, hbn⟩
  replace HS := Lib.hid (HS.out.below hbn)
  clear hbn
  refine hKX.out _ _ ⟨HS.out.cell (g := g) (a := (k, s)) (by simp), HS.out.cell (g := g + 1) (a := (6, ⟨#[]⟩)) (by simp), HS.out.cell (g := gj) (a := (7, ⟨#[]⟩)) (by simp)⟩ (fun hHeld => ?_)
  clear hKX KX
  try go_frame
  refine wpAnyH_take (i := 28) (oi := _) (v := ?_) (by simp only [List.getElem?_toArray, List.getElem?_cons_succ, List.getElem?_cons_zero]; rfl) (by kernel_rfl) (by kernel_rfl) (by kernel_rfl) (by intro _ _ _ h; exact h) (Or.inl ⟨by rfl, fun W hSw => ?_⟩) hHeld ?_
  rotate_left 1
  · (clear hSw; first | (go_simp; done) | (go_simp; with_reducible rfl))
  try go_frame
  refine wpAnyH_take (i := 29) (oi := _) (v := ?_) (by simp only [List.getElem?_toArray, List.getElem?_cons_succ, List.getElem?_cons_zero]; rfl) (by kernel_rfl) (by kernel_rfl) (by kernel_rfl) (by intro _ _ _ h; exact h) (Or.inl ⟨by rfl, fun W hSw => ?_⟩) hHeld ?_
  rotate_left 1
  · (clear hSw; first | (go_simp; done) | (go_simp; with_reducible rfl))
  try go_frame
  refine wpAnyH_done (by kernel_rfl) ?_ _
  obtain ⟨al, a0, a1⟩ := HS.out.cell (g := g) (a := (k, s)) (by simp)
  obtain ⟨nl, n0, n1⟩ := HS.out.cell (g := g + 1) (a := (6, ⟨#[]⟩)) (by simp)
  obtain ⟨jl, j0, j1⟩ := HS.out.cell (g := gj) (a := (7, ⟨#[]⟩)) (by simp)
  try dsimp only at a0 a1 n0 n1 j0 j1
  go_wp2_with first
    | (go_at_call 14; refine (fits_c HS.out HK.out (by first | exact ZS.out | exact sz_small (by decide)) (by first | exact ZS.out | exact sz_small (by decide))).mono ?_; (first | rw [s_na] | rw [s_an]); rintro e wn ⟨rfl, hbn⟩; replace HS := Lib.hid (HS.out.below hbn); clear al a0 a1 nl n0 n1 jl j0 j1; clear hbn; obtain ⟨al, a0, a1⟩ := HS.out.cell (g := g) (a := (k, s)) (by simp); obtain ⟨nl, n0, n1⟩ := HS.out.cell (g := g + 1) (a := (6, ⟨#[]⟩)) (by simp); obtain ⟨jl, j0, j1⟩ := HS.out.cell (g := gj) (a := (7, ⟨#[]⟩)) (by simp); try dsimp only at a0 a1 n0 n1 j0 j1)
    | (go_at_call 12; refine (join_c HS.out HK.out (by first | exact ZS.out | exact sz_small (by decide)) (by first | exact ZS.out | exact sz_small (by decide))).mono ?_; (first | rw [j_na]); rw [tyv_mk]; rintro e wn ⟨rfl, hbn⟩; replace HS := Lib.hid (HS.out.below hbn); clear al a0 a1 nl n0 n1 jl j0 j1; clear hbn; obtain ⟨al, a0, a1⟩ := HS.out.cell (g := g) (a := (k, s)) (by simp); obtain ⟨nl, n0, n1⟩ := HS.out.cell (g := g + 1) (a := (6, ⟨#[]⟩)) (by simp); obtain ⟨jl, j0, j1⟩ := HS.out.cell (g := gj) (a := (7, ⟨#[]⟩)) (by simp); try dsimp only at a0 a1 n0 n1 j0 j1)
  go_ret
  exact ⟨rfl, HB2.out.trans (HS.out.2.2.mono HB2.out.size)⟩
theorem nulls_l (k0 k1 k2 k3 x : Nat) (w : World) (h0 : k0 < 256) (h1 : k1 < 256) (h2 : k2 < 256) (h3 : k3 < 256) (hx : x < 256) :
    Calls Try.prog 5 #[.agg #[.int .u8 (k0 : Int), .int .u8 (k1 : Int), .int .u8 (k2 : Int), .int .u8 (k3 : Int)], .int .u8 (x : Int)] w fun e w' => e = .returned (.bool true) ∧ Below w.heap.size w w' := by
  obtain ⟨ks, hx1⟩ : ∃ t, ofJ x ⟨#[65]⟩ = t := ⟨_, rfl⟩
  have hz : ks.2.size ≤ 1000 := ty_sz ks (by rw [← hx1]; exact List.mem_of_getElem? (of_ix (s := ⟨#[65]⟩) (sx := 7) rfl x).1)
  have hcl : ks = (3, ⟨#[]⟩) ∨ (ks.1 = 4) ∨ ks = (6, ⟨#[]⟩) ∨ (¬ ks.1 = 3 ∧ ¬ ks.1 = 4 ∧ ¬ ks.1 = 6) := by
    have key : ∀ t ∈ tyJ, t = (3, ⟨#[]⟩) ∨ (t.1 = 4) ∨ t = (6, ⟨#[]⟩) ∨ (¬ t.1 = 3 ∧ ¬ t.1 = 4 ∧ ¬ t.1 = 6) := by decide +kernel
    exact key ks (by rw [← hx1]; exact List.mem_of_getElem? (of_ix (s := ⟨#[65]⟩) (sx := 7) rfl x).1)
  obtain ⟨k, s⟩ := ks
  rcases hcl with h | h | h | ⟨e3, e4, e6⟩
  · exact nulls_p1 k0 k1 k2 k3 x w h0 h1 h2 h3 hx (hx1.trans h)
  · exact nulls_p2 k0 k1 k2 k3 x w h0 h1 h2 h3 hx s (hx1.trans (congrArg (fun k => (k, s)) h)) hz
  · exact nulls_p3 k0 k1 k2 k3 x w h0 h1 h2 h3 hx (hx1.trans h)
  · exact nulls_p4 k0 k1 k2 k3 x w h0 h1 h2 h3 hx k s e3 e4 e6 hx1 hz
end Go.Proofs.Ytdjciahaohfohaa.R
