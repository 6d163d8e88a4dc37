/- Texts that the proof is made of, joined. No condition. -/
import Derived.Test.YtlmpnmnfloeoiaaGreatC1023
import Derived.Test.YtlmpnmnfloeoiaaGreatC10H
set_option linter.unusedVariables false
set_option linter.unusedSimpArgs false
set_option maxRecDepth 100000
set_option maxHeartbeats 16000000
namespace Go.Proofs.YtlmpnmnfloeoiaaGreat.R
open Go.RowKit Go.Proofs.YtlmpnmnfloeoiaaGreat.D Go.Proofs.YtlmpnmnfloeoiaaGreat.O Go.Proofs.YtlmpnmnfloeoiaaGreat.A
def midV : Option (Bool × Int) → List Mth
  | none => []
  | some (t, k) => [mthV ⟨#[109]⟩ t false k]
def ovA (one two : Bool) (mid : Option (Bool × Int)) : List Cls :=
  [⟨⟨#[80]⟩, ⟨#[79, 98, 106, 101, 99, 116]⟩, [], 1, [], [mthV ⟨#[109]⟩ one false 5]⟩, ⟨⟨#[81]⟩, ⟨#[80]⟩, [], 1, [], midV mid⟩, ⟨⟨#[82]⟩, ⟨#[81]⟩, [], 1, [], [mthV ⟨#[109]⟩ two false 5]⟩]
theorem ov_ck0 (one two : Bool) : hkB (ovA one two none) = true := by cases one <;> cases two <;> kernel_rfl
theorem ov_ck1 (one two t : Bool) : hkB (ovA one two (some (t, 5))) = true := by cases one <;> cases two <;> cases t <;> kernel_rfl
theorem ov_ck2 (one two t : Bool) : hkB (ovA one two (some (t, 1))) = true := by cases one <;> cases two <;> cases t <;> kernel_rfl
theorem ov_0 (one two : Bool) : checkK (ovA one two none) = if one = two then (0, 0) else (2, 26) := by cases one <;> cases two <;> kernel_rfl
theorem ov_1 (one two t : Bool) : checkK (ovA one two (some (t, 5))) = if one = t then (if two = t then (0, 0) else (2, 26)) else (1, 26) := by cases one <;> cases two <;> cases t <;> kernel_rfl
theorem ov_2 (one two t : Bool) : checkK (ovA one two (some (t, 1))) = if one = two then (0, 0) else (2, 26) := by cases one <;> cases two <;> cases t <;> kernel_rfl
theorem ov_rd {W : World} {gc g1 g2 : Nat} {vm : Value} {one two : Bool} {mid : Option (Bool × Int)} (hc : W.heap[gc]? = some (.cells #[.string ⟨#[80]⟩, .string ⟨#[79, 98, 106, 101, 99, 116]⟩, .slice none 0 0, .int .i64 1, .slice none 0 0, .slice (some ⟨g1, 0, none⟩) 1 1, .string ⟨#[81]⟩, .string ⟨#[80]⟩, .slice none 0 0, .int .i64 1, .slice none 0 0, vm, .string ⟨#[82]⟩, .string ⟨#[81]⟩, .slice none 0 0, .int .i64 1, .slice none 0 0, .slice (some ⟨g2, 0, none⟩) 1 1] 27 (0, 0))) (h1 : W.heap[g1]? = some (.cells #[.string ⟨#[109]⟩, .slice none 0 0, .int .i64 5, .string ⟨#[]⟩, .bool one, .bool false, .int .i64 0, .slice none 0 0, .slice none 0 0] 42 (0, 0))) (h2 : W.heap[g2]? = some (.cells #[.string ⟨#[109]⟩, .slice none 0 0, .int .i64 5, .string ⟨#[]⟩, .bool two, .bool false, .int .i64 0, .slice none 0 0, .slice none 0 0] 42 (0, 0))) (hv : RdX 9 mP anyB W vm (midV mid)) :
    RdX 6 cP anyB W (.slice (some ⟨gc, 0, none⟩) (ovA one two mid).length 3) (ovA one two mid) :=
  rd_block (P := cP) [[.string ⟨#[80]⟩, .string ⟨#[79, 98, 106, 101, 99, 116]⟩, .slice none 0 0, .int .i64 1, .slice none 0 0, .slice (some ⟨g1, 0, none⟩) 1 1], [.string ⟨#[81]⟩, .string ⟨#[80]⟩, .slice none 0 0, .int .i64 1, .slice none 0 0, vm], [.string ⟨#[82]⟩, .string ⟨#[81]⟩, .slice none 0 0, .int .i64 1, .slice none 0 0, .slice (some ⟨g2, 0, none⟩) 1 1]] (ovA one two mid) _ hc rfl trivial
    ⟨⟨⟨_, _, _, rfl, RdX.nil _ _ _ _, RdX.nil _ _ _ _, rd_m1 h1⟩, rfl⟩, ⟨⟨_, _, _, rfl, RdX.nil _ _ _ _, RdX.nil _ _ _ _, hv⟩, rfl⟩, ⟨⟨_, _, _, rfl, RdX.nil _ _ _ _, RdX.nil _ _ _ _, rd_m1 h2⟩, rfl⟩, trivial⟩ 3 3 rfl (Nat.le_refl _)
def OvS (W : World) (xb gc g1 g2 : Nat) (vm : Value) (one two : Bool) : Prop :=
  W.heap[xb]? = some (.cells #[.slice (some ⟨gc, 0, none⟩) 3 3] 30 (0, 0)) ∧ W.heap[gc]? = some (.cells #[.string ⟨#[80]⟩, .string ⟨#[79, 98, 106, 101, 99, 116]⟩, .slice none 0 0, .int .i64 1, .slice none 0 0, .slice (some ⟨g1, 0, none⟩) 1 1, .string ⟨#[81]⟩, .string ⟨#[80]⟩, .slice none 0 0, .int .i64 1, .slice none 0 0, vm, .string ⟨#[82]⟩, .string ⟨#[81]⟩, .slice none 0 0, .int .i64 1, .slice none 0 0, .slice (some ⟨g2, 0, none⟩) 1 1] 27 (0, 0)) ∧ W.heap[g1]? = some (.cells #[.string ⟨#[109]⟩, .slice none 0 0, .int .i64 5, .string ⟨#[]⟩, .bool one, .bool false, .int .i64 0, .slice none 0 0, .slice none 0 0] 42 (0, 0)) ∧ W.heap[g2]? = some (.cells #[.string ⟨#[109]⟩, .slice none 0 0, .int .i64 5, .string ⟨#[]⟩, .bool two, .bool false, .int .i64 0, .slice none 0 0, .slice none 0 0] 42 (0, 0))
theorem OvS.below {W W' : World} {xb gc g1 g2 : Nat} {vm : Value} {one two : Bool} (h : OvS W xb gc g1 g2 vm one two) (hb : Below W.heap.size W W') : OvS W' xb gc g1 g2 vm one two :=
  ⟨(hb.block _ (Array.getElem?_eq_some_iff.1 h.1).1).trans h.1, (hb.block _ (Array.getElem?_eq_some_iff.1 h.2.1).1).trans h.2.1, (hb.block _ (Array.getElem?_eq_some_iff.1 h.2.2.1).1).trans h.2.2.1, (hb.block _ (Array.getElem?_eq_some_iff.1 h.2.2.2).1).trans h.2.2.2⟩
theorem OvS.held {W : World} {xb gc g1 g2 : Nat} {vm : Value} {one two : Bool} (h : OvS W xb gc g1 g2 vm one two) : W.cell? ⟨xb, 0, none⟩ = some (.slice (some ⟨gc, 0, none⟩) 3 3) := by simp [World.cell?, h.1]
theorem OvS.row {W : World} {xb gc g1 g2 : Nat} {vm : Value} {one two : Bool} (h : OvS W xb gc g1 g2 vm one two) : gc < W.heap.size ∧ W.cell? ⟨gc, 11, none⟩ = some vm ∧ W.frozen? ⟨gc, 11, none⟩ = false ∧ True := by
  refine ⟨(Array.getElem?_eq_some_iff.1 h.2.1).1, ?_, ?_, trivial⟩ <;> simp [World.cell?, World.frozen?, h.2.1]
theorem OvS.put {W : World} {xb gc g1 g2 : Nat} {vm : Value} {one two : Bool} (h : OvS W xb gc g1 g2 vm one two) (hn : xb ≠ gc ∧ g1 ≠ gc ∧ g2 ≠ gc) (v : Value) : OvS (W.setCell ⟨gc, 11, none⟩ v) xb gc g1 g2 v one two := by
  obtain ⟨h1, h2, h3, h4⟩ := h
  have k : Kpt [gc] W (W.setCell ⟨gc, 11, none⟩ v) := Kpt.set _ _ _ _ _ (by simp)
  exact ⟨(k.2 _ (Array.getElem?_eq_some_iff.1 h1).1 (by simpa using hn.1)).trans h1, by rw [heap_setCell_same _ _ 11 _ _ _ h2]; rfl, (k.2 _ (Array.getElem?_eq_some_iff.1 h3).1 (by simpa using hn.2.1)).trans h3, (k.2 _ (Array.getElem?_eq_some_iff.1 h4).1 (by simpa using hn.2.2)).trans h4⟩
set_option maxHeartbeats 8000000 in
set_option maxRecDepth 100000 in
theorem over_l (one two three far : Bool) (ret : Nat) (w : World) (hret : ret < 256) :
    Calls Tryz.prog 5 #[.bool one, .bool two, .bool three, .bool far, .int .u8 (ret : Int)] w fun e w' => e = .returned (.bool true) ∧ Below w.heap.size w w' := by
  go_enter Tryz.func5, Tryz.ntmps5
  try simp only [List.append_eq, List.cons_append, List.nil_append]
  go_wp2_with fail
  refine (known_10 w).mono ?_
  rintro e w1 ⟨rfl, hb1⟩
  have HB1 := Lib.hid hb1
  clear hb1
  go_wp2_with fail
  refine (method_l _ _ _ _ w1).mono ?_
  rintro e w2 ⟨rfl, hb2⟩
  obtain ⟨w3, hw3⟩ : ∃ x, x = w2.alloc (.cells #[.string ⟨#[109]⟩, .slice none 0 0, .int .i64 5, .string ⟨#[]⟩, .bool one, .bool false, .int .i64 0, .slice none 0 0, .slice none 0 0] 42) := ⟨_, rfl⟩
  have hb3 : Below w2.heap.size w2 w3 := by rw [hw3]; exact below_alR _ _
  have H1 : Hid (w3.heap[w2.heap.size]? = some (.cells #[.string ⟨#[109]⟩, .slice none 0 0, .int .i64 5, .string ⟨#[]⟩, .bool one, .bool false, .int .i64 0, .slice none 0 0, .slice none 0 0] 42 (0, 0))) := Lib.hid (by rw [hw3]; exact heap_alloc_new _ _)
  have HB3 := Lib.hid ((HB1.out.trans (hb2.mono HB1.out.size)).trans (hb3.mono (by have := HB1.out.size; have := hb2.size; omega)))
  clear hb2 hb3 HB1
  go_wp2_with fail
  rw [← hw3]
  clear hw3
  obtain ⟨g1, hg1⟩ : ∃ z, w2.heap.size = z := ⟨_, rfl⟩
  rw [hg1] at H1
  try rw [hg1]
  refine (method_l _ _ _ _ w3).mono ?_
  rintro e w4 ⟨rfl, hb4⟩
  obtain ⟨LC, hLC⟩ : ∃ x, x = (.cells #[.string ⟨#[80]⟩, .string ⟨#[79, 98, 106, 101, 99, 116]⟩, .slice none 0 0, .int .i64 1, .slice none 0 0, .slice (some ⟨g1, 0, none⟩) 1 1, .string ⟨#[81]⟩, .string ⟨#[80]⟩, .slice none 0 0, .int .i64 1, .slice none 0 0, .slice none 0 0, .string ⟨#[82]⟩, .string ⟨#[81]⟩, .slice none 0 0, .int .i64 1, .slice none 0 0, .slice (some ⟨w4.heap.size, 0, none⟩) 1 1] 27 : Obj) := ⟨_, rfl⟩
  have c1 := below_alR w4 (.cells #[.string ⟨#[109]⟩, .slice none 0 0, .int .i64 5, .string ⟨#[]⟩, .bool two, .bool false, .int .i64 0, .slice none 0 0, .slice none 0 0] 42)
  have c2 := below_alR (w4.alloc (.cells #[.string ⟨#[109]⟩, .slice none 0 0, .int .i64 5, .string ⟨#[]⟩, .bool two, .bool false, .int .i64 0, .slice none 0 0, .slice none 0 0] 42)) LC
  have c3 := below_alR ((w4.alloc (.cells #[.string ⟨#[109]⟩, .slice none 0 0, .int .i64 5, .string ⟨#[]⟩, .bool two, .bool false, .int .i64 0, .slice none 0 0, .slice none 0 0] 42)).alloc LC) (.cells #[.slice (some ⟨w4.heap.size + 1, 0, none⟩) 3 3] 30)
  obtain ⟨w5, hw5⟩ : ∃ x, x = ((w4.alloc (.cells #[.string ⟨#[109]⟩, .slice none 0 0, .int .i64 5, .string ⟨#[]⟩, .bool two, .bool false, .int .i64 0, .slice none 0 0, .slice none 0 0] 42)).alloc LC).alloc (.cells #[.slice (some ⟨w4.heap.size + 1, 0, none⟩) 3 3] 30) := ⟨_, rfl⟩
  have hb5 : Below w4.heap.size w4 w5 := by rw [hw5]; exact c1.trans ((c2.mono (by simp)).trans (c3.mono (by simp <;> omega)))
  have h2 : w5.heap[w4.heap.size]? = some (.cells #[.string ⟨#[109]⟩, .slice none 0 0, .int .i64 5, .string ⟨#[]⟩, .bool two, .bool false, .int .i64 0, .slice none 0 0, .slice none 0 0] 42 (0, 0)) := by rw [hw5, c3.block _ (by simp <;> omega), c2.block _ (by simp)]; exact heap_alloc_new _ _
  have hc : w5.heap[w4.heap.size + 1]? = some (.cells #[.string ⟨#[80]⟩, .string ⟨#[79, 98, 106, 101, 99, 116]⟩, .slice none 0 0, .int .i64 1, .slice none 0 0, .slice (some ⟨g1, 0, none⟩) 1 1, .string ⟨#[81]⟩, .string ⟨#[80]⟩, .slice none 0 0, .int .i64 1, .slice none 0 0, .slice none 0 0, .string ⟨#[82]⟩, .string ⟨#[81]⟩, .slice none 0 0, .int .i64 1, .slice none 0 0, .slice (some ⟨w4.heap.size, 0, none⟩) 1 1] 27 (0, 0)) := by
    rw [hw5, c3.block _ (by simp <;> omega)]
    have := heap_alloc_new (w4.alloc (.cells #[.string ⟨#[109]⟩, .slice none 0 0, .int .i64 5, .string ⟨#[]⟩, .bool two, .bool false, .int .i64 0, .slice none 0 0, .slice none 0 0] 42)) LC
    rw [World.size_alloc] at this
    rw [this, hLC]
  have hx : w5.heap[w4.heap.size + 1 + 1]? = some (.cells #[.slice (some ⟨w4.heap.size + 1, 0, none⟩) 3 3] 30 (0, 0)) := by
    rw [hw5]
    have := heap_alloc_new ((w4.alloc (.cells #[.string ⟨#[109]⟩, .slice none 0 0, .int .i64 5, .string ⟨#[]⟩, .bool two, .bool false, .int .i64 0, .slice none 0 0, .slice none 0 0] 42)).alloc LC) (.cells #[.slice (some ⟨w4.heap.size + 1, 0, none⟩) 3 3] 30)
    rwa [World.size_alloc, World.size_alloc] at this
  have H1' := Lib.hid (((hb4.trans (hb5.mono hb4.size)).block _ (Array.getElem?_eq_some_iff.1 H1.out).1).trans H1.out)
  have H2 := Lib.hid h2
  have HC := Lib.hid hc
  have HX := Lib.hid hx
  have HB5 := Lib.hid (HB3.out.trans ((hb4.trans (hb5.mono hb4.size)).mono HB3.out.size))
  have HGE : Hid (w.heap.size ≤ w4.heap.size + 1) := Lib.hid (by have := HB3.out.size; have := hb4.size; omega)
  rw [hLC] at hw5
  have HG1 := Lib.hid (Nat.lt_of_lt_of_le (Array.getElem?_eq_some_iff.1 H1.out).1 hb4.size)
  clear c1 c2 c3 hLC hb4 hb5 h2 hc hx HB3 H1
  go_upto_region 4 with fail
  rw [← hw5]
  clear hw5
  have HNX : Hid (w4.heap.size + 1 + 1 ≠ w4.heap.size + 1 ∧ g1 ≠ w4.heap.size + 1 ∧ w4.heap.size ≠ w4.heap.size + 1) := Lib.hid (by have := HG1.out; omega)
  have HS : Hid (OvS w5.drew (w4.heap.size + 1 + 1) (w4.heap.size + 1) g1 w4.heap.size (.slice none 0 0) one two) := Lib.hid ⟨HX.out, HC.out, H1'.out, H2.out⟩
  obtain ⟨xb, hxb⟩ : ∃ z, w4.heap.size + 1 + 1 = z := ⟨_, rfl⟩
  obtain ⟨gc, hgc⟩ : ∃ z, w4.heap.size + 1 = z := ⟨_, rfl⟩
  obtain ⟨g2, hg2⟩ : ∃ z, w4.heap.size = z := ⟨_, rfl⟩
  rw [hxb] at HX HNX HS ⊢
  rw [hgc] at HC HX HGE HNX HS
  try rw [hgc]
  rw [hg2] at H2 HC HNX HS
  try rw [hg2]
  clear hxb hgc hg2 hg1 HG1
  obtain ⟨x_l, x_c, -⟩ := boxN HX.out
  have x_0 := x_c 0 _ rfl
  simp only [Nat.zero_add] at x_0
  clear x_c
  cases far with
  | true =>
    have hck := check_h (ovA one two none) (some ⟨gc, 0, none⟩) 3 anyB w5 (ov_rd HC.out H1'.out H2.out (RdX.nil _ _ _ _)) (ckA_of (ov_ck0 one two))
    rw [show (ovA one two none).length = 3 from rfl, ov_0] at hck
    have HCK := Lib.hid hck
    clear hck HC HX H1' H2 HS
    go_upto_region 6 with fail
    go_wp2_with fail
    have hck := HCK.out
    clear HCK
    cases one <;> cases two
    all_goals
      simp only [reduceIte, reduceCtorEq] at hck
      refine hck.mono ?_
      rintro e w6 ⟨rfl, hb6⟩
      have HB6 := Lib.hid (HB5.out.trans (hb6.mono HB5.out.size))
      clear hck hb6 x_l x_0
      go_wp2_with fail
      go_ret
      exact ⟨rfl, HB6.out⟩
  | false =>
    rcases Nat.mod_two_eq_zero_or_one ret with hr | hr
    · have hrm : (ret : Int).tmod 2 = 0 := by rw [Int.tmod_eq_emod_of_nonneg (Int.natCast_nonneg ret)]; omega
      go_upto_region 5 with fail
      clear x_l x_0 HX HC H1' H2
      refine wp_region_held_drew (S := fun W => W.cell? ⟨xb, 0, none⟩ = some (.slice (some ⟨gc, 0, none⟩) 3 3)) (by kernel_rfl) HS.out.held (fun hHeld => ?_)
      refine wpAnyH_take (i := 0) (oi := _) (v := ?_) (by simp only [List.getElem?_toArray, List.getElem?_cons_zero]; rfl) (by kernel_rfl) (by kernel_rfl) (by kernel_rfl) (by intro _ _ _ h; exact h) (Or.inl ⟨by rfl, fun W hSw => ?_⟩) hHeld ?_
      rotate_left 1
      · (clear hSw; first | (go_simp; done) | (go_simp; with_reducible rfl))
      try go_frame
      refine wpAnyH_take (i := 1) (oi := _) (v := ?_) (by simp only [List.getElem?_toArray, List.getElem?_cons_succ, List.getElem?_cons_zero]; rfl) (by kernel_rfl) (by kernel_rfl) (by kernel_rfl) (by intro _ _ _ h; exact h) (Or.inl ⟨by rfl, fun W hSw => ?_⟩) hHeld ?_
      rotate_left 1
      · (try dsimp only at hSw); first | (go_simp; done) | (go_simp; with_reducible rfl)
      try go_frame
      refine wpAnyH_take (i := 2) (oi := _) (v := ?_) (by simp only [List.getElem?_toArray, List.getElem?_cons_succ, List.getElem?_cons_zero]; rfl) (by kernel_rfl) (by kernel_rfl) (by kernel_rfl) (by intro _ _ _ h; exact h) (Or.inl ⟨by rfl, fun W hSw => ?_⟩) hHeld ?_
      rotate_left 1
      · (clear hSw; first | (go_simp; done) | (go_simp; with_reducible rfl))
      try go_frame
      refine wpAnyH_take (i := 4) (oi := _) (v := ?_) (by simp only [List.getElem?_toArray, List.getElem?_cons_succ, List.getElem?_cons_zero]; rfl) (by kernel_rfl) (by kernel_rfl) (by kernel_rfl) (by intro _ _ _ h; exact h) (Or.inl ⟨by rfl, fun W hSw => ?_⟩) hHeld ?_
      rotate_left 1
      · (clear hSw; first | (go_simp; done) | (go_simp; with_reducible rfl))
      try go_frame
      refine wpAnyH_take (i := 5) (oi := _) (v := ?_) (by simp only [List.getElem?_toArray, List.getElem?_cons_succ, List.getElem?_cons_zero]; rfl) (by kernel_rfl) (by kernel_rfl) (by kernel_rfl) (by intro _ _ _ h; exact h) (Or.inl ⟨by rfl, fun W hSw => ?_⟩) hHeld ?_
      rotate_left 1
      · (clear hSw; first | (go_simp; done) | (go_simp; with_reducible rfl))
      try go_frame
      refine wpAnyH_ready (rs := [3]) (by kernel_rfl) (by simp) ?_
      refine AllReadyH.cons (o := _) (by simp only [List.getElem?_toArray, List.getElem?_cons_succ, List.getElem?_cons_zero]; rfl) (fun KX hKX => ?_) AllReadyH.nil
      clear hHeld
      go_simp
      have hz := (boxN (vs := [.int .i64 5, .int .i64 1]) (heap_alloc_new w5.drew (.cells #[.int .i64 5, .int .i64 1] 3))).2.1 0 _ rfl
      simp only [Nat.zero_add] at hz
      replace HS := Lib.hid (HS.out.below (below_alR w5.drew (.cells #[.int .i64 5, .int .i64 1] 3)))
      have HBa := Lib.hid (below_alR w5.drew (.cells #[.int .i64 5, .int .i64 1] 3))
      refine hKX.out _ _ HS.out.held (fun hHeld => ?_)
      clear hKX KX
      try go_frame
      refine wpAnyH_take (i := 6) (oi := _) (v := ?_) (by simp only [List.getElem?_toArray, List.getElem?_cons_succ, List.getElem?_cons_zero]; rfl) (by kernel_rfl) (by kernel_rfl) (by kernel_rfl) (by intro _ _ _ h; exact h) (Or.inl ⟨by rfl, fun W hSw => ?_⟩) hHeld ?_
      rotate_left 1
      · (clear hSw; first | (go_simp; done) | (go_simp; with_reducible rfl))
      try go_frame
      refine wpAnyH_ready (rs := [7]) (by kernel_rfl) (by simp) ?_
      refine AllReadyH.cons (o := _) (by simp only [List.getElem?_toArray, List.getElem?_cons_succ, List.getElem?_cons_zero]; rfl) (fun KX hKX => ?_) AllReadyH.nil
      clear hHeld
      go_simp
      clear hz
      refine hKX.out _ _ HS.out.held (fun hHeld => ?_)
      clear hKX KX
      try go_frame
      refine wpAnyH_ready (rs := [8]) (by kernel_rfl) (by simp) ?_
      refine AllReadyH.cons (o := _) (by simp only [List.getElem?_toArray, List.getElem?_cons_succ, List.getElem?_cons_zero]; rfl) (fun KX hKX => ?_) AllReadyH.nil
      clear hHeld
      go_simp
      refine (method_l _ _ _ _ _).mono ?_
      rintro e w6 ⟨rfl, hb6⟩
      replace HS := Lib.hid (HS.out.below hb6)
      have HBb := Lib.hid (HBa.out.trans (hb6.mono HBa.out.size))
      clear hb6 HBa
      refine hKX.out _ _ HS.out.held (fun hHeld => ?_)
      clear hKX KX
      try go_frame
      refine wpAnyH_ready (rs := [9]) (by kernel_rfl) (by simp) ?_
      refine AllReadyH.cons (o := _) (by simp only [List.getElem?_toArray, List.getElem?_cons_succ, List.getElem?_cons_zero]; rfl) (fun KX hKX => ?_) AllReadyH.nil
      clear hHeld
      go_simp
      have HGC := Lib.hid HS.out.row.1
      have HM := Lib.hid (heap_alloc_new w6 (.cells #[.string ⟨#[109]⟩, .slice none 0 0, .int .i64 5, .string ⟨#[]⟩, .bool three, .bool false, .int .i64 0, .slice none 0 0, .slice none 0 0] 42))
      replace HS := Lib.hid (HS.out.below (below_alR w6 (.cells #[.string ⟨#[109]⟩, .slice none 0 0, .int .i64 5, .string ⟨#[]⟩, .bool three, .bool false, .int .i64 0, .slice none 0 0, .slice none 0 0] 42)))
      have HBc := Lib.hid (HBb.out.trans ((below_alR w6 (.cells #[.string ⟨#[109]⟩, .slice none 0 0, .int .i64 5, .string ⟨#[]⟩, .bool three, .bool false, .int .i64 0, .slice none 0 0, .slice none 0 0] 42)).mono HBb.out.size))
      refine hKX.out _ _ HS.out.held (fun hHeld => ?_)
      clear hKX KX
      try go_frame
      refine wpAnyH_take (i := 10) (oi := _) (v := ?_) (by simp only [List.getElem?_toArray, List.getElem?_cons_succ, List.getElem?_cons_zero]; rfl) (by kernel_rfl) (by kernel_rfl) (by kernel_rfl) (by intro _ _ _ h; exact h) (Or.inl ⟨by rfl, fun W hSw => ?_⟩) hHeld ?_
      rotate_left 1
      · (clear hSw; first | (go_simp; done) | (go_simp; with_reducible rfl))
      try go_frame
      refine wpAnyH_take (i := 11) (oi := _) (v := ?_) (by simp only [List.getElem?_toArray, List.getElem?_cons_succ, List.getElem?_cons_zero]; rfl) (by kernel_rfl) (by kernel_rfl) (by kernel_rfl) (by intro _ _ _ h; exact h) (Or.inl ⟨by rfl, fun W hSw => ?_⟩) hHeld ?_
      rotate_left 1
      · (clear hSw; first | (go_simp; done) | (go_simp; with_reducible rfl))
      try go_frame
      refine wpAnyH_ready (rs := [12]) (by kernel_rfl) (by simp) ?_
      refine AllReadyH.cons (o := _) (by simp only [List.getElem?_toArray, List.getElem?_cons_succ, List.getElem?_cons_zero]; rfl) (fun KX hKX => ?_) AllReadyH.nil
      clear hHeld
      obtain ⟨e1, e2, e3, e4⟩ := HS.out.row
      go_simp
      have HS2 := Lib.hid (HS.out.put HNX.out (.slice (some ⟨w6.heap.size, 0, none⟩) 1 1))
      clear HS e1 e2 e3 e4
      have HS := HS2
      clear HS2
      refine hKX.out _ _ HS.out.held (fun hHeld => ?_)
      clear hKX KX
      try go_frame
      refine wpAnyH_done (by kernel_rfl) ?_ _
      have k7 : Kpt [gc] (w6.alloc (.cells #[.string ⟨#[109]⟩, .slice none 0 0, .int .i64 5, .string ⟨#[]⟩, .bool three, .bool false, .int .i64 0, .slice none 0 0, .slice none 0 0] 42)) ((w6.alloc (.cells #[.string ⟨#[109]⟩, .slice none 0 0, .int .i64 5, .string ⟨#[]⟩, .bool three, .bool false, .int .i64 0, .slice none 0 0, .slice none 0 0] 42)).setCell ⟨gc, 11, none⟩ (.slice (some ⟨w6.heap.size, 0, none⟩) 1 1)) := Kpt.set _ _ _ _ _ (by simp)
      have HM7 := Lib.hid ((k7.2 _ (Array.getElem?_eq_some_iff.1 HM.out).1 (by have := HGC.out; simp; omega)).trans HM.out)
      have HB7 := Lib.hid (((HB5.out.drew).trans (HBc.out.mono HB5.out.size)).trans (k7.below (B := w.heap.size) (fun x hx => by simp at hx; have := HGE.out; omega) (by have := HB5.out.size; have := HBc.out.size; simp at this; simp; omega)))
      obtain ⟨W7, hW7⟩ : ∃ x, x = (w6.alloc (.cells #[.string ⟨#[109]⟩, .slice none 0 0, .int .i64 5, .string ⟨#[]⟩, .bool three, .bool false, .int .i64 0, .slice none 0 0, .slice none 0 0] 42)).setCell ⟨gc, 11, none⟩ (.slice (some ⟨w6.heap.size, 0, none⟩) 1 1) := ⟨_, rfl⟩
      rw [← hW7] at HS HM7 HB7 ⊢
      clear hW7 k7 hHeld HM HGC HBb HBc HB5
      have hck := check_h (ovA one two (some (three, 5))) (some ⟨gc, 0, none⟩) 3 anyB W7 (ov_rd HS.out.2.1 HS.out.2.2.1 HS.out.2.2.2 (rd_m1 HM7.out)) (ckA_of (ov_ck1 one two three))
      rw [show (ovA one two (some (three, 5))).length = 3 from rfl, ov_1] at hck
      have HCK := Lib.hid hck
      clear hck
      have x_0 := HS.out.held
      have x_l := (Array.getElem?_eq_some_iff.1 HS.out.1).1
      clear HS HM7
      go_upto_region 6 with fail
      go_wp2_with fail
      have hck := HCK.out
      clear HCK
      cases one <;> cases two <;> cases three
      all_goals
        simp only [reduceIte, reduceCtorEq] at hck
        refine hck.mono ?_
        rintro e w8 ⟨rfl, hb8⟩
        have HB8 := Lib.hid (HB7.out.trans (hb8.mono HB7.out.size))
        clear hck hb8 x_l x_0
        go_wp2_with fail
        go_ret
        exact ⟨rfl, HB8.out⟩
    · have hrm : (ret : Int).tmod 2 = 1 := by rw [Int.tmod_eq_emod_of_nonneg (Int.natCast_nonneg ret)]; omega
      go_upto_region 5 with fail
      clear x_l x_0 HX HC H1' H2
      refine wp_region_held_drew (S := fun W => W.cell? ⟨xb, 0, none⟩ = some (.slice (some ⟨gc, 0, none⟩) 3 3)) (by kernel_rfl) HS.out.held (fun hHeld => ?_)
      refine wpAnyH_take (i := 0) (oi := _) (v := ?_) (by simp only [List.getElem?_toArray, List.getElem?_cons_zero]; rfl) (by kernel_rfl) (by kernel_rfl) (by kernel_rfl) (by intro _ _ _ h; exact h) (Or.inl ⟨by rfl, fun W hSw => ?_⟩) hHeld ?_
      rotate_left 1
      · (clear hSw; first | (go_simp; done) | (go_simp; with_reducible rfl))
      try go_frame
      refine wpAnyH_take (i := 1) (oi := _) (v := ?_) (by simp only [List.getElem?_toArray, List.getElem?_cons_succ, List.getElem?_cons_zero]; rfl) (by kernel_rfl) (by kernel_rfl) (by kernel_rfl) (by intro _ _ _ h; exact h) (Or.inl ⟨by rfl, fun W hSw => ?_⟩) hHeld ?_
      rotate_left 1
      · (try dsimp only at hSw); first | (go_simp; done) | (go_simp; with_reducible rfl)
      try go_frame
      refine wpAnyH_take (i := 2) (oi := _) (v := ?_) (by simp only [List.getElem?_toArray, List.getElem?_cons_succ, List.getElem?_cons_zero]; rfl) (by kernel_rfl) (by kernel_rfl) (by kernel_rfl) (by intro _ _ _ h; exact h) (Or.inl ⟨by rfl, fun W hSw => ?_⟩) hHeld ?_
      rotate_left 1
      · (clear hSw; first | (go_simp; done) | (go_simp; with_reducible rfl))
      try go_frame
      refine wpAnyH_take (i := 4) (oi := _) (v := ?_) (by simp only [List.getElem?_toArray, List.getElem?_cons_succ, List.getElem?_cons_zero]; rfl) (by kernel_rfl) (by kernel_rfl) (by kernel_rfl) (by intro _ _ _ h; exact h) (Or.inl ⟨by rfl, fun W hSw => ?_⟩) hHeld ?_
      rotate_left 1
      · (clear hSw; first | (go_simp; done) | (go_simp; with_reducible rfl))
      try go_frame
      refine wpAnyH_take (i := 5) (oi := _) (v := ?_) (by simp only [List.getElem?_toArray, List.getElem?_cons_succ, List.getElem?_cons_zero]; rfl) (by kernel_rfl) (by kernel_rfl) (by kernel_rfl) (by intro _ _ _ h; exact h) (Or.inl ⟨by rfl, fun W hSw => ?_⟩) hHeld ?_
      rotate_left 1
      · (clear hSw; first | (go_simp; done) | (go_simp; with_reducible rfl))
      try go_frame
      refine wpAnyH_ready (rs := [3]) (by kernel_rfl) (by simp) ?_
      refine AllReadyH.cons (o := _) (by simp only [List.getElem?_toArray, List.getElem?_cons_succ, List.getElem?_cons_zero]; rfl) (fun KX hKX => ?_) AllReadyH.nil
      clear hHeld
      go_simp
      have hz := (boxN (vs := [.int .i64 5, .int .i64 1]) (heap_alloc_new w5.drew (.cells #[.int .i64 5, .int .i64 1] 3))).2.1 1 _ rfl
      simp only [Nat.zero_add] at hz
      replace HS := Lib.hid (HS.out.below (below_alR w5.drew (.cells #[.int .i64 5, .int .i64 1] 3)))
      have HBa := Lib.hid (below_alR w5.drew (.cells #[.int .i64 5, .int .i64 1] 3))
      refine hKX.out _ _ HS.out.held (fun hHeld => ?_)
      clear hKX KX
      try go_frame
      refine wpAnyH_take (i := 6) (oi := _) (v := ?_) (by simp only [List.getElem?_toArray, List.getElem?_cons_succ, List.getElem?_cons_zero]; rfl) (by kernel_rfl) (by kernel_rfl) (by kernel_rfl) (by intro _ _ _ h; exact h) (Or.inl ⟨by rfl, fun W hSw => ?_⟩) hHeld ?_
      rotate_left 1
      · (clear hSw; first | (go_simp; done) | (go_simp; with_reducible rfl))
      try go_frame
      refine wpAnyH_ready (rs := [7]) (by kernel_rfl) (by simp) ?_
      refine AllReadyH.cons (o := _) (by simp only [List.getElem?_toArray, List.getElem?_cons_succ, List.getElem?_cons_zero]; rfl) (fun KX hKX => ?_) AllReadyH.nil
      clear hHeld
      go_simp
      clear hz
      refine hKX.out _ _ HS.out.held (fun hHeld => ?_)
      clear hKX KX
      try go_frame
      refine wpAnyH_ready (rs := [8]) (by kernel_rfl) (by simp) ?_
      refine AllReadyH.cons (o := _) (by simp only [List.getElem?_toArray, List.getElem?_cons_succ, List.getElem?_cons_zero]; rfl) (fun KX hKX => ?_) AllReadyH.nil
      clear hHeld
      go_simp
      refine (method_l _ _ _ _ _).mono ?_
      rintro e w6 ⟨rfl, hb6⟩
      replace HS := Lib.hid (HS.out.below hb6)
      have HBb := Lib.hid (HBa.out.trans (hb6.mono HBa.out.size))
      clear hb6 HBa
      refine hKX.out _ _ HS.out.held (fun hHeld => ?_)
      clear hKX KX
      try go_frame
      refine wpAnyH_ready (rs := [9]) (by kernel_rfl) (by simp) ?_
      refine AllReadyH.cons (o := _) (by simp only [List.getElem?_toArray, List.getElem?_cons_succ, List.getElem?_cons_zero]; rfl) (fun KX hKX => ?_) AllReadyH.nil
      clear hHeld
      go_simp
      have HGC := Lib.hid HS.out.row.1
      have HM := Lib.hid (heap_alloc_new w6 (.cells #[.string ⟨#[109]⟩, .slice none 0 0, .int .i64 1, .string ⟨#[]⟩, .bool three, .bool false, .int .i64 0, .slice none 0 0, .slice none 0 0] 42))
      replace HS := Lib.hid (HS.out.below (below_alR w6 (.cells #[.string ⟨#[109]⟩, .slice none 0 0, .int .i64 1, .string ⟨#[]⟩, .bool three, .bool false, .int .i64 0, .slice none 0 0, .slice none 0 0] 42)))
      have HBc := Lib.hid (HBb.out.trans ((below_alR w6 (.cells #[.string ⟨#[109]⟩, .slice none 0 0, .int .i64 1, .string ⟨#[]⟩, .bool three, .bool false, .int .i64 0, .slice none 0 0, .slice none 0 0] 42)).mono HBb.out.size))
      refine hKX.out _ _ HS.out.held (fun hHeld => ?_)
      clear hKX KX
      try go_frame
      refine wpAnyH_take (i := 10) (oi := _) (v := ?_) (by simp only [List.getElem?_toArray, List.getElem?_cons_succ, List.getElem?_cons_zero]; rfl) (by kernel_rfl) (by kernel_rfl) (by kernel_rfl) (by intro _ _ _ h; exact h) (Or.inl ⟨by rfl, fun W hSw => ?_⟩) hHeld ?_
      rotate_left 1
      · (clear hSw; first | (go_simp; done) | (go_simp; with_reducible rfl))
      try go_frame
      refine wpAnyH_take (i := 11) (oi := _) (v := ?_) (by simp only [List.getElem?_toArray, List.getElem?_cons_succ, List.getElem?_cons_zero]; rfl) (by kernel_rfl) (by kernel_rfl) (by kernel_rfl) (by intro _ _ _ h; exact h) (Or.inl ⟨by rfl, fun W hSw => ?_⟩) hHeld ?_
      rotate_left 1
      · (clear hSw; first | (go_simp; done) | (go_simp; with_reducible rfl))
      try go_frame
      refine wpAnyH_ready (rs := [12]) (by kernel_rfl) (by simp) ?_
      refine AllReadyH.cons (o := _) (by simp only [List.getElem?_toArray, List.getElem?_cons_succ, List.getElem?_cons_zero]; rfl) (fun KX hKX => ?_) AllReadyH.nil
      clear hHeld
      obtain ⟨e1, e2, e3, e4⟩ := HS.out.row
      go_simp
      have HS2 := Lib.hid (HS.out.put HNX.out (.slice (some ⟨w6.heap.size, 0, none⟩) 1 1))
      clear HS e1 e2 e3 e4
      have HS := HS2
      clear HS2
      refine hKX.out _ _ HS.out.held (fun hHeld => ?_)
      clear hKX KX
      try go_frame
      refine wpAnyH_done (by kernel_rfl) ?_ _
      have k7 : Kpt [gc] (w6.alloc (.cells #[.string ⟨#[109]⟩, .slice none 0 0, .int .i64 1, .string ⟨#[]⟩, .bool three, .bool false, .int .i64 0, .slice none 0 0, .slice none 0 0] 42)) ((w6.alloc (.cells #[.string ⟨#[109]⟩, .slice none 0 0, .int .i64 1, .string ⟨#[]⟩, .bool three, .bool false, .int .i64 0, .slice none 0 0, .slice none 0 0] 42)).setCell ⟨gc, 11, none⟩ (.slice (some ⟨w6.heap.size, 0, none⟩) 1 1)) := Kpt.set _ _ _ _ _ (by simp)
      have HM7 := Lib.hid ((k7.2 _ (Array.getElem?_eq_some_iff.1 HM.out).1 (by have := HGC.out; simp; omega)).trans HM.out)
      have HB7 := Lib.hid (((HB5.out.drew).trans (HBc.out.mono HB5.out.size)).trans (k7.below (B := w.heap.size) (fun x hx => by simp at hx; have := HGE.out; omega) (by have := HB5.out.size; have := HBc.out.size; simp at this; simp; omega)))
      obtain ⟨W7, hW7⟩ : ∃ x, x = (w6.alloc (.cells #[.string ⟨#[109]⟩, .slice none 0 0, .int .i64 1, .string ⟨#[]⟩, .bool three, .bool false, .int .i64 0, .slice none 0 0, .slice none 0 0] 42)).setCell ⟨gc, 11, none⟩ (.slice (some ⟨w6.heap.size, 0, none⟩) 1 1) := ⟨_, rfl⟩
      rw [← hW7] at HS HM7 HB7 ⊢
      clear hW7 k7 hHeld HM HGC HBb HBc HB5
      have hck := check_h (ovA one two (some (three, 1))) (some ⟨gc, 0, none⟩) 3 anyB W7 (ov_rd HS.out.2.1 HS.out.2.2.1 HS.out.2.2.2 (rd_m1 HM7.out)) (ckA_of (ov_ck2 one two three))
      rw [show (ovA one two (some (three, 1))).length = 3 from rfl, ov_2] at hck
      have HCK := Lib.hid hck
      clear hck
      have x_0 := HS.out.held
      have x_l := (Array.getElem?_eq_some_iff.1 HS.out.1).1
      clear HS HM7
      go_upto_region 6 with fail
      go_wp2_with fail
      have hck := HCK.out
      clear HCK
      cases one <;> cases two
      all_goals
        simp only [reduceIte, reduceCtorEq] at hck
        refine hck.mono ?_
        rintro e w8 ⟨rfl, hb8⟩
        have HB8 := Lib.hid (HB7.out.trans (hb8.mono HB7.out.size))
        clear hck hb8 x_l x_0
        go_wp2_with fail
        go_ret
        exact ⟨rfl, HB8.out⟩
end Go.Proofs.YtlmpnmnfloeoiaaGreat.R
