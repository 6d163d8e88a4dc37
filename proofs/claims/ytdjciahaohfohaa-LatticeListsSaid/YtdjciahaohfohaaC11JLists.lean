/- Texts that the proof is made of, joined. No condition. -/
import Derived.Test.YtdjciahaohfohaaC11JTwo
import Derived.Deep.DeepCutAuto
import Derived.Deep.CutBlock
import Derived.Test.YtdjciahaohfohaaC11H
set_option linter.unusedVariables false
set_option linter.unusedSimpArgs false
set_option maxRecDepth 100000
set_option maxHeartbeats 16000000
namespace Go.Proofs.Ytdjciahaohfohaa.R
open Go.RowKit Go.Proofs.Ytdjciahaohfohaa.D Go.Proofs.Ytdjciahaohfohaa.O Go.Proofs.Ytdjciahaohfohaa.A
theorem rd_fix {w : World} {al : Addr} {n c i : Nat} {l : List UInt8} {x : UInt8} (h : Rd w (.slice (some al) n c) l) (hx : l[i]? = some x) : w.cell? (al.add i) = some (.int .u8 (x.toNat : Int)) := by
  obtain ⟨a, e, hc⟩ := rd_place6 h hx
  cases e
  exact hc
theorem lists_swap (b3 b6 b2 : Bool) {l : List UInt8} {y i : Nat} {u v : Ty} (hu : (tyL ⟨#[65]⟩ l)[i]? = some u) (hv : (tyL ⟨#[66]⟩ (rotL l y))[i]? = some v) : joinT (tabT b3 b6 b2) u v = joinT (tabT b3 b6 b2) v u := by
  unfold tyL at hu hv
  rw [List.getElem?_map] at hu hv
  obtain ⟨x, -, rfl⟩ := Option.map_eq_some_iff.1 hu
  obtain ⟨z, -, rfl⟩ := Option.map_eq_some_iff.1 hv
  exact jo_swap b3 b6 b2 _ _
theorem wp_grow1 {w : World} {ops : Array Oper} {rest : List Oper} {o : Oper} {a : Act} {Q : Exit → Act → World → Prop} (hgd : o.guard = none) (s x : Operand)
    (ho : o.op = .call { callee := .builtin .append, args := #[s, x], argTypes := #[37, 37] })
    (B : Nat) (p : Option Addr) (n cap : Nat) (A : List Ty) (hown : OT w B (.slice p n cap) A) (hn : A.length = n) (hs : a.eval s = .slice p n n) (g off : Nat) (t : Ty) (hx : a.eval x = .slice (some ⟨g, off, none⟩) 1 1) (hr : RdX 2 (sP tyC) anyB w (.slice (some ⟨g, off, none⟩) 1 1) [t])
    (hb : n ≤ 100000)
    (h : ∀ v' w', OT w' w.heap.size v' (A ++ [t]) → Below w.heap.size w w' → wpList Try.prog ops Q rest (a.put o.dst v') w') :
    wpList Try.prog ops Q (o :: rest) a w := by
  obtain ⟨hi1, hu, hz, hsz, hbb⟩ := inf_typ
  obtain ⟨i0, hi, hz0, hz1, hz2⟩ := info_parts hi1
  obtain ⟨cs, h1, h2⟩ := hown
  have hnone : p = none → n = 0 ∧ n = 0 := fun e => by
    subst e
    rcases h1.2 with ⟨e, hh⟩ | ⟨g, cap', cur, e, _⟩
    · rw [hn] at hh; exact ⟨hh, hh⟩
    · cases e
  have hcl : cs.length = n * 2 := by rw [← hn]; exact h1.1
  obtain ⟨b, o2, e, -, -, -, hbl, hc⟩ := hr.place (by simp)
  cases e
  have hct := sP_at (hc 0 t rfl)
  refine wpList_append_grows w hgd s x _ ho 24 i0 _ 2 24 hu hi hz0 hz1 hz2 hz hsz p n n cs hs hnone hcl (fun b e j u hj => by
    subst e
    rcases h1.2 with ⟨e, hh⟩ | ⟨g', cap', cur, e, _⟩
    · cases e
    · simp only [Value.slice.injEq, Option.some.injEq] at e
      obtain ⟨rfl, -, -⟩ := e
      exact World.ownsRow.cells h1 (g := g') rfl j u hj) ⟨g, off, none⟩ 1 1 (tyC t) hx rfl (fun j u hj => by
    have := hct j u hj
    rw [Nat.zero_mul, Nat.add_zero] at this
    rw [← this]
    unfold Addr.add
    split <;> simp_all) (by simp [tyC, Value.oneCell']) (by omega) (by unfold maxLen; omega) (by omega) ?_
  intro v' w' hw hg
  refine h v' w' ⟨_, by rw [List.length_append, hn]; exact hw, fun i y hy => ?_⟩ (Kpt.below (Kpt.of_grown (S := []) hg (fun g h => by cases h)) (by simp) (Nat.le_refl _))
  show _ = tyC y
  by_cases hin : i < n
  · rw [List.getElem?_append_left (by omega)] at hy
    have e := h2 i y hy
    rw [List.drop_append_of_le_length (by omega), List.take_append_of_le_length (by rw [List.length_drop]; omega)]
    exact e
  · obtain rfl : i = n := by have := (List.getElem?_eq_some_iff.1 hy).1; rw [List.length_append, hn] at this; simp at this; omega
    rw [List.getElem?_append_right (by omega), hn, Nat.sub_self] at hy
    obtain rfl : t = y := by simpa using hy
    rw [List.drop_append_of_le_length (by omega), List.drop_of_length_le (by omega)]
    rfl
theorem lists_sz (b3 b6 b2 : Bool) {l : List UInt8} {y i : Nat} {u v : Ty} (hu : (tyL ⟨#[65]⟩ l)[i]? = some u) (hv : (tyL ⟨#[66]⟩ (rotL l y))[i]? = some v) : (joinT (tabT b3 b6 b2) u v).2.size ≤ maxLen := by
  unfold tyL at hu hv
  rw [List.getElem?_map] at hu hv
  obtain ⟨x, -, rfl⟩ := Option.map_eq_some_iff.1 hu
  obtain ⟨z, -, rfl⟩ := Option.map_eq_some_iff.1 hv
  exact sz_at (jo_at b3 b6 b2 (of_ix (s := ⟨#[65]⟩) (sx := 7) rfl _).1 (of_ix (s := ⟨#[66]⟩) (sx := 8) rfl _).1)
set_option maxHeartbeats 8000000 in
set_option maxRecDepth 100000 in
theorem lists_l (l : List UInt8) (pl : Option Addr) (cl : Nat) (lg : Bool) (k0 k1 k2 k3 y : Nat) (w : World) (h0 : k0 < 256) (h1 : k1 < 256) (h2 : k2 < 256) (h3 : k3 < 256) (hy : y < 256) (hl : Rd w (.slice pl l.length cl) l) (hpl : l = [] ∨ ∀ g, (Value.slice pl l.length cl).ownBlock = some g → g < w.heap.size) (_hll : l.length ≤ 9223372036854775807) :
    Calls Try.prog 6 #[.agg #[.int .u8 (k0 : Int), .int .u8 (k1 : Int), .int .u8 (k2 : Int), .int .u8 (k3 : Int)], .slice pl l.length cl, .int .u8 (y : Int), .bool lg] w fun e w' => e = .returned (.bool true) ∧ Below w.heap.size w w' := by
  have HL0 := Lib.hid hl
  have HP0 := Lib.hid hpl
  clear hl hpl
  obtain ⟨w0, hw0⟩ : ∃ x, x = w.alloc (.cells #[.int .u8 (k0 : Int), .int .u8 (k1 : Int), .int .u8 (k2 : Int), .int .u8 (k3 : Int)] 22) := ⟨_, rfl⟩
  have HB0 : Hid (Below w.heap.size w w0) := Lib.hid (by rw [hw0]; exact below_alR _ _)
  have HX0 : Hid (w0.heap[w.heap.size]? = some (.cells #[.int .u8 (k0 : Int), .int .u8 (k1 : Int), .int .u8 (k2 : Int), .int .u8 (k3 : Int)] 22 (0, 0))) := Lib.hid (by rw [hw0]; exact heap_alloc_new _ _)
  go_enter Try.func6, Try.ntmps6
  try simp only [List.append_eq, List.cons_append, List.nil_append]
  go_wp2_with fail
  rw [← hw0]
  clear hw0
  obtain ⟨kb, hkb⟩ : ∃ x, w.heap.size = x := ⟨_, rfl⟩
  rw [hkb] at HX0 ⊢
  have HKB := Lib.hid hkb
  clear hkb
  refine (known_11 w0).mono ?_
  rintro e w1 ⟨rfl, hb1⟩
  have hX1 := (hb1.block _ (Array.getElem?_eq_some_iff.1 HX0.out).1).trans HX0.out
  have HB1 := Lib.hid (HB0.out.trans (hb1.mono HB0.out.size))
  obtain ⟨xl, xc, -⟩ := boxN hX1
  have x0 := xc 0 _ rfl
  have x1 := xc 1 _ rfl
  have x2 := xc 2 _ rfl
  have x3 := xc 3 _ rfl
  simp only [Nat.zero_add] at x0 x1 x2 x3
  clear hb1 hX1 HX0 HB0 xc
  by_cases hlen : 20 < l.length
  · have hlen' : (20 : Int) < (l.length : Int) := by omega
    go_wp2_with fail
    go_ret
    exact ⟨rfl, HB1.out⟩
  have hlen' : ¬ (20 : Int) < (l.length : Int) := by omega
  go_wp2_with fail
  refine (archive_0 k0 k1 k2 k3 w1 h0 h1 h2 h3).mono ?_
  rintro e w2 ⟨p1, n1, c1, rfl, hr1, hb2⟩
  obtain ⟨_, _, e1, -⟩ := hr1.len
  simp only [Value.slice.injEq] at e1
  obtain ⟨rfl, rfl, rfl⟩ := e1
  have HR1 := Lib.hid hr1
  have HB2 := Lib.hid (HB1.out.trans (hb2.mono HB1.out.size))
  clear hr1 hb2 HB1 x0 x1 x2 x3 xl HKB
  go_wp2_with fail
  refine (seat_tree k0 k1 k2 k3 w2 _ _ _ HR1.out).mono ?_
  rintro e w3 ⟨tb, mb, vs, ok, K, rfl, hk3, hs3⟩
  have HK := Lib.hid hk3
  have HS := Lib.hid hs3
  obtain ⟨b3, hb3'⟩ : ∃ x, bitS k0 3 = x := ⟨_, rfl⟩
  obtain ⟨b6, hb6'⟩ : ∃ x, bitS k0 6 = x := ⟨_, rfl⟩
  obtain ⟨b2, hb2'⟩ : ∃ x, bitS k2 2 = x := ⟨_, rfl⟩
  rw [hb3', hb6', hb2'] at HK
  clear hk3 hs3 HR1 hb3' hb6' hb2'
  have HB3 := Lib.hid (HB2.out.trans (HS.out.2.2.mono HB2.out.size))
  have HLL := Lib.hid (HL0.out.below HB3.out HP0.out)
  have HPL : Hid (l = [] ∨ ∀ g, (Value.slice pl l.length cl).ownBlock = some g → g < w3.heap.size) := Lib.hid (HP0.out.imp id (fun h g e => Nat.lt_of_lt_of_le (h g e) HB3.out.size))
  clear HL0 HP0
  obtain ⟨B, hB⟩ : ∃ B, w3.heap.size = B := ⟨_, rfl⟩
  have HBW : Hid (Below B w3 w3) := Lib.hid (Below.refl _ _)
  have HT2 : Hid (TwoO w3 B (.slice none 0 0) (.slice none 0 0) (tyL ⟨#[65]⟩ (l.take 0)) (tyL ⟨#[66]⟩ ((rotL l y).take 0))) := Lib.hid (TwoO.nil _ _)
  rw [hB] at HPL
  have HBE := Lib.hid hB
  have HSZ : Hid (∀ W, Below B w3 W → B ≤ W.heap.size) := Lib.hid (fun W h => by rw [← HBE.out]; exact h.size)
  clear hB
  go_wp2_with fail
  go_loopw [10, 11, 12] (fun v10 v11 v12 wr => ∃ (i : Nat) (pa : Option Addr) (na ca : Nat) (pb : Option Addr) (nb cb : Nat), v10 = .slice pa na ca ∧ v11 = .slice pb nb cb ∧ v12 = .int .i64 (i : Int) ∧ i ≤ l.length ∧ Hid (TwoO wr B (.slice pa na ca) (.slice pb nb cb) (tyL ⟨#[65]⟩ (l.take i)) (tyL ⟨#[66]⟩ ((rotL l y).take i))) ∧ Hid (Below B w3 wr)) (fun _ _ x _ => l.length - (intOf x).toNat)
  case atStart => exact ⟨0, none, 0, 0, none, 0, 0, rfl, rfl, rfl, by omega, HT2, HBW⟩
  case round =>
    clear HT2 HBW
    obtain ⟨i, pa, na, ca, pb, nb, cb, rfl, rfl, rfl, hin, HT2, HBW⟩ := hrel
    by_cases hlt : i < l.length
    · have hlt' : (i : Int) < (l.length : Int) := by omega
      obtain ⟨x, hx⟩ : ∃ x, l[i]? = some x := ⟨_, List.getElem?_eq_getElem hlt⟩
      obtain ⟨j, hj⟩ : ∃ j, (i + y) % l.length = j := ⟨_, rfl⟩
      have hjl : j < l.length := by rw [← hj]; exact Nat.mod_lt _ (by omega)
      have hjl' : (j : Int) < (l.length : Int) := by omega
      obtain ⟨z, hz⟩ : ∃ z, l[j]? = some z := ⟨_, List.getElem?_eq_getElem hjl⟩
      have hmod : ((i : Int) + (y : Int)).tmod (l.length : Int) = (j : Int) := by rw [Int.tmod_eq_emod_of_nonneg (by omega), ← hj]; simp
      have hnl : ¬ l = [] := fun e => by rw [e] at hlt; simp at hlt
      have hwy : IntKind.i64.wrap (y : Int) = (y : Int) := IntWalk.i64_in _ (by omega)
      have hwi : IntKind.i64.wrap ((i : Int) + (y : Int)) = (i : Int) + (y : Int) := IntWalk.i64_in _ (by omega)
      have HNA := Lib.hid (tyL_next (s := ⟨#[65]⟩) hx)
      have HNB := Lib.hid (tyL_next (s := ⟨#[66]⟩) (rot_at hlt (by rw [hj]; exact hz)))
      obtain ⟨u, hu⟩ : ∃ u, ofJ x.toNat ⟨#[65]⟩ = u := ⟨_, rfl⟩
      obtain ⟨v, hv⟩ : ∃ v, ofJ z.toNat ⟨#[66]⟩ = v := ⟨_, rfl⟩
      have HU := Lib.hid hu
      have HV := Lib.hid hv
      have HXL := Lib.hid hx
      have HZL := Lib.hid hz
      have HLA : Hid ((tyL ⟨#[65]⟩ (l.take i)).length ≤ 100) := Lib.hid (by rw [tyL_len, List.length_take]; omega)
      have HLB : Hid ((tyL ⟨#[66]⟩ ((rotL l y).take i)).length ≤ 100) := Lib.hid (by rw [tyL_len, List.length_take]; omega)
      rw [hu] at HNA
      rw [hv] at HNB
      obtain ⟨al, hal, -⟩ := rd_place6 HLL.out hx
      subst hal
      clear hu hv hx hz hj
      go_upto_region 10 with fail
      replace HT2 : Hid (TwoO wr.drew B _ _ _ _) := Lib.hid HT2.out
      replace HBW := Lib.hid HBW.out.drew
      refine wp_region_held_drew (S := fun W => W.cell? (al.add i) = some (.int .u8 (x.toNat : Int)) ∧ W.cell? (al.add j) = some (.int .u8 (z.toNat : Int))) (by kernel_rfl) ⟨(rd_fix (HLL.out.below HBW.out HPL.out) HXL.out), (rd_fix (HLL.out.below HBW.out HPL.out) HZL.out)⟩ (fun hHeld => ?_)
      refine wpAnyH_take (i := 0) (oi := _) (v := ?_) (by simp only [List.getElem?_toArray, List.getElem?_cons_zero]; rfl) (by kernel_rfl) (by kernel_rfl) (by kernel_rfl) (by intro _ _ _ h; exact h) (Or.inl ⟨by rfl, fun W hSw => ?_⟩) hHeld ?_
      rotate_left 1
      · (clear hSw; first | (go_simp; done) | (go_simp; with_reducible rfl))
      try go_frame
      refine wpAnyH_take (i := 1) (oi := _) (v := ?_) (by simp only [List.getElem?_toArray, List.getElem?_cons_succ, List.getElem?_cons_zero]; rfl) (by kernel_rfl) (by kernel_rfl) (by kernel_rfl) (by intro _ _ _ h; exact h) (Or.inl ⟨by rfl, fun W hSw => ?_⟩) hHeld ?_
      rotate_left 1
      · (clear hSw; first | (go_simp; done) | (go_simp; with_reducible rfl))
      try go_frame
      refine wpAnyH_take (i := 2) (oi := _) (v := ?_) (by simp only [List.getElem?_toArray, List.getElem?_cons_succ, List.getElem?_cons_zero]; rfl) (by kernel_rfl) (by kernel_rfl) (by kernel_rfl) (by intro _ _ _ h; exact h) (Or.inl ⟨by rfl, fun W hSw => ?_⟩) hHeld ?_
      rotate_left 1
      · (clear hSw; first | (go_simp; done) | (go_simp; with_reducible rfl))
      try go_frame
      refine wpAnyH_take (i := 3) (oi := _) (v := ?_) (by simp only [List.getElem?_toArray, List.getElem?_cons_succ, List.getElem?_cons_zero]; rfl) (by kernel_rfl) (by kernel_rfl) (by kernel_rfl) (by intro _ _ _ h; exact h) (Or.inl ⟨by rfl, fun W hSw => ?_⟩) hHeld ?_
      rotate_left 1
      · (clear hSw; first | (go_simp; done) | (go_simp; with_reducible rfl))
      try go_frame
      refine wpAnyH_take (i := 4) (oi := _) (v := ?_) (by simp only [List.getElem?_toArray, List.getElem?_cons_succ, List.getElem?_cons_zero]; rfl) (by kernel_rfl) (by kernel_rfl) (by kernel_rfl) (by intro _ _ _ h; exact h) (Or.inl ⟨by rfl, fun W hSw => ?_⟩) hHeld ?_
      rotate_left 1
      · (try dsimp only at hSw); first | (go_simp; done) | (go_simp; with_reducible rfl)
      try go_frame
      refine wpAnyH_take (i := 8) (oi := _) (v := ?_) (by simp only [List.getElem?_toArray, List.getElem?_cons_succ, List.getElem?_cons_zero]; rfl) (by kernel_rfl) (by kernel_rfl) (by kernel_rfl) (by intro _ _ _ h; exact h) (Or.inl ⟨by rfl, fun W hSw => ?_⟩) hHeld ?_
      rotate_left 1
      · (clear hSw; first | (go_simp; done) | (go_simp; with_reducible rfl))
      try go_frame
      refine wpAnyH_take (i := 9) (oi := _) (v := ?_) (by simp only [List.getElem?_toArray, List.getElem?_cons_succ, List.getElem?_cons_zero]; rfl) (by kernel_rfl) (by kernel_rfl) (by kernel_rfl) (by intro _ _ _ h; exact h) (Or.inl ⟨by rfl, fun W hSw => ?_⟩) hHeld ?_
      rotate_left 1
      · (clear hSw; first | (go_simp; done) | (go_simp; with_reducible rfl))
      try go_frame
      refine wpAnyH_take (i := 10) (oi := _) (v := ?_) (by simp only [List.getElem?_toArray, List.getElem?_cons_succ, List.getElem?_cons_zero]; rfl) (by kernel_rfl) (by kernel_rfl) (by kernel_rfl) (by intro _ _ _ h; exact h) (Or.inl ⟨by rfl, fun W hSw => ?_⟩) hHeld ?_
      rotate_left 1
      · (clear hSw; first | (go_simp; done) | (go_simp; with_reducible rfl))
      try go_frame
      refine wpAnyH_take (i := 11) (oi := _) (v := ?_) (by simp only [List.getElem?_toArray, List.getElem?_cons_succ, List.getElem?_cons_zero]; rfl) (by kernel_rfl) (by kernel_rfl) (by kernel_rfl) (by intro _ _ _ h; exact h) (Or.inl ⟨by rfl, fun W hSw => ?_⟩) hHeld ?_
      rotate_left 1
      · (clear hSw; first | (go_simp; done) | (go_simp; with_reducible rfl))
      try go_frame
      refine wpAnyH_take (i := 12) (oi := _) (v := ?_) (by simp only [List.getElem?_toArray, List.getElem?_cons_succ, List.getElem?_cons_zero]; rfl) (by kernel_rfl) (by kernel_rfl) (by kernel_rfl) (by intro _ _ _ h; exact h) (Or.inl ⟨by rfl, fun W hSw => ?_⟩) hHeld ?_
      rotate_left 1
      · (clear hSw; first | (go_simp; done) | (go_simp; with_reducible rfl))
      try go_frame
      refine wpAnyH_take (i := 13) (oi := _) (v := ?_) (by simp only [List.getElem?_toArray, List.getElem?_cons_succ, List.getElem?_cons_zero]; rfl) (by kernel_rfl) (by kernel_rfl) (by kernel_rfl) (by intro _ _ _ h; exact h) (Or.inl ⟨by rfl, fun W hSw => ?_⟩) hHeld ?_
      rotate_left 1
      · (clear hSw; first | (go_simp; done) | (go_simp; with_reducible rfl))
      try go_frame
      refine wpAnyH_take (i := 14) (oi := _) (v := ?_) (by simp only [List.getElem?_toArray, List.getElem?_cons_succ, List.getElem?_cons_zero]; rfl) (by kernel_rfl) (by kernel_rfl) (by kernel_rfl) (by intro _ _ _ h; exact h) (Or.inl ⟨by rfl, fun W hSw => ?_⟩) hHeld ?_
      rotate_left 1
      · (clear hSw; first | (go_simp; done) | (go_simp; with_reducible rfl))
      try go_frame
      refine wpAnyH_take (i := 15) (oi := _) (v := ?_) (by simp only [List.getElem?_toArray, List.getElem?_cons_succ, List.getElem?_cons_zero]; rfl) (by kernel_rfl) (by kernel_rfl) (by kernel_rfl) (by intro _ _ _ h; exact h) (Or.inl ⟨by rfl, fun W hSw => ?_⟩) hHeld ?_
      rotate_left 1
      · (clear hSw; first | (go_simp; done) | (go_simp; with_reducible rfl))
      try go_frame
      refine wpAnyH_take (i := 16) (oi := _) (v := ?_) (by simp only [List.getElem?_toArray, List.getElem?_cons_succ, List.getElem?_cons_zero]; rfl) (by kernel_rfl) (by kernel_rfl) (by kernel_rfl) (by intro _ _ _ h; exact h) (Or.inl ⟨by rfl, fun W hSw => ?_⟩) hHeld ?_
      rotate_left 1
      · (clear hSw; first | (go_simp; done) | (go_simp; with_reducible rfl))
      try go_frame
      refine wpAnyH_take (i := 17) (oi := _) (v := ?_) (by simp only [List.getElem?_toArray, List.getElem?_cons_succ, List.getElem?_cons_zero]; rfl) (by kernel_rfl) (by kernel_rfl) (by kernel_rfl) (by intro _ _ _ h; exact h) (Or.inl ⟨by rfl, fun W hSw => ?_⟩) hHeld ?_
      rotate_left 1
      · (clear hSw; first | (go_simp; done) | (go_simp; with_reducible rfl))
      try go_frame
      refine wpAnyH_take (i := 18) (oi := _) (v := ?_) (by simp only [List.getElem?_toArray, List.getElem?_cons_succ, List.getElem?_cons_zero]; rfl) (by kernel_rfl) (by kernel_rfl) (by kernel_rfl) (by intro _ _ _ h; exact h) (Or.inl ⟨by rfl, fun W hSw => ?_⟩) hHeld ?_
      rotate_left 1
      · (try dsimp only at hSw); first | (go_simp; done) | (go_simp; with_reducible rfl)
      try go_frame
      refine wpAnyH_ready (rs := [5]) (by kernel_rfl) (by simp) ?_
      refine AllReadyH.cons (o := _) (by simp only [List.getElem?_toArray, List.getElem?_cons_succ, List.getElem?_cons_zero]; rfl) (fun KX hKX => ?_) AllReadyH.nil
      clear hHeld
      go_simp
      refine (of_y x.toNat _ _ x.toNat_lt).mono ?_
      rw [HU.out, tyv_eta]
      rintro e wa ⟨rfl, hbn⟩
      replace HT2 := Lib.hid (HT2.out.below hbn)
      replace HBW := Lib.hid (HBW.out.trans (hbn.mono (HSZ.out _ HBW.out)))
      clear hbn
      refine hKX.out _ _ ⟨(rd_fix (HLL.out.below HBW.out HPL.out) HXL.out), (rd_fix (HLL.out.below HBW.out HPL.out) HZL.out)⟩ (fun hHeld => ?_)
      clear hKX KX
      try go_frame
      refine wpAnyH_ready (rs := [6]) (by kernel_rfl) (by simp) ?_
      refine AllReadyH.cons (o := _) (by simp only [List.getElem?_toArray, List.getElem?_cons_succ, List.getElem?_cons_zero]; rfl) (fun KX hKX => ?_) AllReadyH.nil
      clear hHeld
      go_simp
      have hsrc := Lib.hid (rdX_lit1 (sz := 2) (c := tyC) (fun _ => rfl) wa u #[.int .i64 u.1, .string u.2] 24 rfl)
      have hbn := below_alR wa (.cells #[.int .i64 u.1, .string u.2] 24)
      replace HT2 := Lib.hid (HT2.out.below hbn)
      replace HBW := Lib.hid (HBW.out.trans (hbn.mono (HSZ.out _ HBW.out)))
      clear hbn
      refine hKX.out _ _ ⟨(rd_fix (HLL.out.below HBW.out HPL.out) HXL.out), (rd_fix (HLL.out.below HBW.out HPL.out) HZL.out)⟩ (fun hHeld => ?_)
      clear hKX KX
      try go_frame
      refine wpAnyH_ready (rs := [7]) (by kernel_rfl) (by simp) ?_
      refine AllReadyH.cons (o := _) (by simp only [List.getElem?_toArray, List.getElem?_cons_succ, List.getElem?_cons_zero]; rfl) (fun KX hKX => ?_) AllReadyH.nil
      clear hHeld
      refine step_appM inf_typ shape_typ (by rfl) _ _ (by rfl) B _ (tyL ⟨#[65]⟩ (l.take i)) (by rfl) HT2.out.1 _ 0 1 1 [u] (by rfl) hsrc.out (by have := HLA.out; simp; omega) (HSZ.out _ HBW.out) ?_
      intro v6 wb ho6 hg6 hl6
      obtain ⟨pa2, na2, ca2, hv6⟩ := ho6.slice
      subst hv6
      have hbn := grown_bel HT2.out.1 hg6 (HSZ.out _ HBW.out)
      replace HT2 := Lib.hid (HT2.out.appA ho6 hg6 hl6)
      replace HBW := Lib.hid (HBW.out.trans hbn)
      clear hbn ho6 hg6 hl6 hsrc
      refine hKX.out _ _ ⟨(rd_fix (HLL.out.below HBW.out HPL.out) HXL.out), (rd_fix (HLL.out.below HBW.out HPL.out) HZL.out)⟩ (fun hHeld => ?_)
      clear hKX KX
      try go_frame
      refine wpAnyH_ready (rs := [19]) (by kernel_rfl) (by simp) ?_
      refine AllReadyH.cons (o := _) (by simp only [List.getElem?_toArray, List.getElem?_cons_succ, List.getElem?_cons_zero]; rfl) (fun KX hKX => ?_) AllReadyH.nil
      clear hHeld
      go_simp
      refine (of_y z.toNat _ _ z.toNat_lt).mono ?_
      rw [HV.out, tyv_eta]
      rintro e wc ⟨rfl, hbn⟩
      replace HT2 := Lib.hid (HT2.out.below hbn)
      replace HBW := Lib.hid (HBW.out.trans (hbn.mono (HSZ.out _ HBW.out)))
      clear hbn
      refine hKX.out _ _ ⟨(rd_fix (HLL.out.below HBW.out HPL.out) HXL.out), (rd_fix (HLL.out.below HBW.out HPL.out) HZL.out)⟩ (fun hHeld => ?_)
      clear hKX KX
      try go_frame
      refine wpAnyH_ready (rs := [20]) (by kernel_rfl) (by simp) ?_
      refine AllReadyH.cons (o := _) (by simp only [List.getElem?_toArray, List.getElem?_cons_succ, List.getElem?_cons_zero]; rfl) (fun KX hKX => ?_) AllReadyH.nil
      clear hHeld
      go_simp
      have hsrc := Lib.hid (rdX_lit1 (sz := 2) (c := tyC) (fun _ => rfl) wc v #[.int .i64 v.1, .string v.2] 24 rfl)
      have hbn := below_alR wc (.cells #[.int .i64 v.1, .string v.2] 24)
      replace HT2 := Lib.hid (HT2.out.below hbn)
      replace HBW := Lib.hid (HBW.out.trans (hbn.mono (HSZ.out _ HBW.out)))
      clear hbn
      refine hKX.out _ _ ⟨(rd_fix (HLL.out.below HBW.out HPL.out) HXL.out), (rd_fix (HLL.out.below HBW.out HPL.out) HZL.out)⟩ (fun hHeld => ?_)
      clear hKX KX
      try go_frame
      refine wpAnyH_ready (rs := [21]) (by kernel_rfl) (by simp) ?_
      refine AllReadyH.cons (o := _) (by simp only [List.getElem?_toArray, List.getElem?_cons_succ, List.getElem?_cons_zero]; rfl) (fun KX hKX => ?_) AllReadyH.nil
      clear hHeld
      refine step_appM inf_typ shape_typ (by rfl) _ _ (by rfl) B _ (tyL ⟨#[66]⟩ ((rotL l y).take i)) (by rfl) HT2.out.2.1 _ 0 1 1 [v] (by rfl) hsrc.out (by have := HLB.out; simp; omega) (HSZ.out _ HBW.out) ?_
      intro v6 wd ho6 hg6 hl6
      obtain ⟨pb2, nb2, cb2, hv6⟩ := ho6.slice
      subst hv6
      have hbn := grown_bel HT2.out.2.1 hg6 (HSZ.out _ HBW.out)
      replace HT2 := Lib.hid (HT2.out.appB ho6 hg6 hl6)
      replace HBW := Lib.hid (HBW.out.trans hbn)
      clear hbn ho6 hg6 hl6 hsrc
      refine hKX.out _ _ ⟨(rd_fix (HLL.out.below HBW.out HPL.out) HXL.out), (rd_fix (HLL.out.below HBW.out HPL.out) HZL.out)⟩ (fun hHeld => ?_)
      clear hKX KX
      try go_frame
      refine wpAnyH_take (i := 22) (oi := _) (v := ?_) (by simp only [List.getElem?_toArray, List.getElem?_cons_succ, List.getElem?_cons_zero]; rfl) (by kernel_rfl) (by kernel_rfl) (by kernel_rfl) (by intro _ _ _ h; exact h) (Or.inl ⟨by rfl, fun W hSw => ?_⟩) hHeld ?_
      rotate_left 1
      · (clear hSw; first | (go_simp; done) | (go_simp; with_reducible rfl))
      try go_frame
      refine wpAnyH_take (i := 23) (oi := _) (v := ?_) (by simp only [List.getElem?_toArray, List.getElem?_cons_succ, List.getElem?_cons_zero]; rfl) (by kernel_rfl) (by kernel_rfl) (by kernel_rfl) (by intro _ _ _ h; exact h) (Or.inl ⟨by rfl, fun W hSw => ?_⟩) hHeld ?_
      rotate_left 1
      · (clear hSw; first | (go_simp; done) | (go_simp; with_reducible rfl))
      try go_frame
      refine wpAnyH_done (by kernel_rfl) ?_ _
      clear hHeld HLL HPL
      rw [HNA.out, HNB.out] at HT2
      go_wp2_with fail
      go_roundw
      case rel => exact ⟨i + 1, pa2, na2, ca2, pb2, nb2, cb2, rfl, rfl, by go_num, by omega, HT2, HBW⟩
      case measure => simp [intOf]; omega
    · obtain rfl : i = l.length := by omega
      have hlt' : ¬ (l.length : Int) < (l.length : Int) := by omega
      have hn0 : l.length ≤ 20 := by omega
      obtain ⟨n, hn⟩ : ∃ n, l.length = n := ⟨_, rfl⟩
      have h2 := HT2.out
      rw [List.take_length, show (rotL l y).take l.length = rotL l y by rw [← rot_len l y, List.take_length]] at h2
      have hsw := fun i u v => lists_swap b3 b6 b2 (l := l) (y := y) (i := i) (u := u) (v := v)
      have hjz := fun i u v => lists_sz b3 b6 b2 (l := l) (y := y) (i := i) (u := u) (v := v)
      have hAl : (tyL ⟨#[65]⟩ l).length = n := (tyL_len _ _).trans hn
      have hLl : (tyL ⟨#[66]⟩ (rotL l y)).length = n := (tyL_len _ _).trans ((rot_len _ _).trans hn)
      have hzA : ∀ t ∈ tyL ⟨#[65]⟩ l, t.2.size ≤ maxLen := tyL_sz (by unfold maxLen; omega) (sz_small (by decide))
      have hzL : ∀ t ∈ tyL ⟨#[66]⟩ (rotL l y), t.2.size ≤ maxLen := tyL_sz (by unfold maxLen; omega) (sz_small (by decide))
      obtain ⟨A, hA⟩ : ∃ A, tyL ⟨#[65]⟩ l = A := ⟨_, rfl⟩
      obtain ⟨L, hL⟩ : ∃ L, tyL ⟨#[66]⟩ (rotL l y) = L := ⟨_, rfl⟩
      rw [hA, hL] at h2
      rw [hA] at hAl hzA
      rw [hL] at hLl hzL
      simp only [hA, hL] at hsw hjz
      obtain ⟨_, _, e1, hcp⟩ := (h2.1.rd (sP.grow _)).len
      simp only [Value.slice.injEq] at e1
      obtain ⟨rfl, rfl, rfl⟩ := e1
      obtain ⟨_, _, e1, -⟩ := (h2.2.1.rd (sP.grow _)).len
      simp only [Value.slice.injEq] at e1
      obtain ⟨rfl, rfl, rfl⟩ := e1
      have hbx : Below w3.heap.size w3 wr := by rw [HBE.out]; exact HBW.out
      replace HT2 := Lib.hid h2
      have HSW := Lib.hid hsw
      have HCP : Hid (n ≤ ca) := Lib.hid (by omega)
      have HJZ := Lib.hid hjz
      have HZA := Lib.hid hzA
      have HZL := Lib.hid hzL
      have HAL := Lib.hid hAl
      have HLL2 := Lib.hid hLl
      have HN20 : Hid (n ≤ 20) := Lib.hid (by omega)
      have HBX := Lib.hid hbx
      rw [hAl, hLl] at HT2 ⊢
      clear hcp h2 hsw hjz hzA hzL hAl hLl hbx hA hL hn hn0 HLL HPL HBW HSZ HBE hlen hin hlt
      go_wp2_with fail
      refine (All_y ok (fun b => B ≤ b) (fun b => B ≤ b) tb mb vs K _ _ A L wr (HS.out.below HBX.out).1 (HT2.out.1.rd (sP.grow _)) (HT2.out.2.1.rd (sP.grow _)) HZA.out HZL.out (by have := HAL.out; have := HN20.out; omega) (by have := HLL2.out; have := HN20.out; omega)).mono ?_
      rw [decide_eq_true (HAL.out.trans HLL2.out.symm), if_pos (HAL.out.trans HLL2.out.symm)]
      rintro e w5 ⟨vc, rfl, hoc, hb5⟩
      obtain ⟨pc, cc, hvc, -⟩ := (hoc.rd (sP.grow _)).len
      subst hvc
      rw [allT_len (HAL.out.trans HLL2.out.symm), HAL.out] at hoc ⊢
      replace HT2 := Lib.hid (HT2.out.below hb5)
      replace HBX := Lib.hid (HBX.out.trans (hb5.mono HBX.out.size))
      have HOC := Lib.hid hoc
      clear hoc hb5
      go_wp2_with fail
      refine (All_y ok (fun b => B ≤ b) (fun b => B ≤ b) tb mb vs K _ _ L A w5 (HS.out.below HBX.out).1 (HT2.out.2.1.rd (sP.grow _)) (HT2.out.1.rd (sP.grow _)) HZL.out HZA.out (by have := HLL2.out; have := HN20.out; omega) (by have := HAL.out; have := HN20.out; omega)).mono ?_
      rw [decide_eq_true (HLL2.out.trans HAL.out.symm), if_pos (HLL2.out.trans HAL.out.symm)]
      rintro e w6 ⟨vd, rfl, hod, hb6⟩
      obtain ⟨pd, cd, hvd, -⟩ := (hod.rd (sP.grow _)).len
      subst hvd
      rw [allT_len (HLL2.out.trans HAL.out.symm), HLL2.out] at hod ⊢
      replace HT2 := Lib.hid (HT2.out.below hb6)
      have HB7 := Lib.hid (HBX.out.trans (hb6.mono HBX.out.size))
      replace HOC := Lib.hid (HOC.out.kptS (.of_below hb6 : Kpt [] _ _) (fun _ _ => by simp))
      have HOD := Lib.hid hod
      have HRA := Lib.hid (HT2.out.1.rd (sP.grow _))
      have HRB := Lib.hid (HT2.out.2.1.rd (sP.grow _))
      have HRC := Lib.hid (HOC.out.rd (sP.grow _))
      have HRD := Lib.hid (HOD.out.rd (sP.grow _))
      have HBW : Hid (Below w6.heap.size w6 w6) := Lib.hid (Below.refl _ _)
      clear hod hb6 HBX HOC HOD
      go_wp2_with fail
      go_loopw [17] (fun v17 wr => ∃ i : Nat, v17 = .int .i64 (i : Int) ∧ i ≤ n ∧ Hid (Below w6.heap.size w6 wr)) (fun x _ => n - (intOf x).toNat)
      case atStart => exact ⟨0, rfl, by omega, HBW⟩
      case round =>
        clear HBW
        obtain ⟨i, rfl, hin, HBW⟩ := hrel
        by_cases hlt : i < n
        · have hlt' : (i : Int) < (n : Int) := by omega
          have hn20 := HN20.out
          obtain ⟨u, hu⟩ : ∃ x, A[i]? = some x := ⟨_, List.getElem?_eq_getElem (by have := HAL.out; omega)⟩
          obtain ⟨v, hv⟩ : ∃ x, L[i]? = some x := ⟨_, List.getElem?_eq_getElem (by have := HLL2.out; omega)⟩
          have zu := Lib.hid (HZA.out u (List.mem_of_getElem? hu))
          have zv := Lib.hid (HZL.out v (List.mem_of_getElem? hv))
          obtain ⟨q, hq⟩ : ∃ q, joinT (K.map skOf) u v = q := ⟨_, rfl⟩
          have hC := allT_at (T := K.map skOf) hu hv
          have hD := allT_at (T := K.map skOf) hv hu
          have hs := HSW.out i u v hu hv
          rw [← HK.out] at hs
          rw [← hs, hq] at hD
          rw [hq] at hC
          have HQ := Lib.hid hq
          obtain ⟨ga, oa, rfl, hga, hca⟩ := cells_at (HRA.out.any (sP.grow _) HBW.out) hu
          obtain ⟨gb, ob, rfl, hgb, hcb⟩ := cells_at (HRB.out.any (sP.grow _) HBW.out) hv
          obtain ⟨gc, oc, rfl, hgc, hcc⟩ := cells_at (HRC.out.any (sP.grow _) HBW.out) hC
          obtain ⟨gd, od, rfl, hgd, hcd⟩ := cells_at (HRD.out.any (sP.grow _) HBW.out) hD
          have HCA := Lib.hid hca
          have HCB := Lib.hid hcb
          have HCC := Lib.hid hcc
          have HCD := Lib.hid hcd
          have HGA := Lib.hid hga
          have HGB := Lib.hid hgb
          have HGC := Lib.hid hgc
          have HGD := Lib.hid hgd
          clear hca hcb hcc hcd hga hgb hgc hgd hs hC hD hq hu hv
          go_upto_region 18 with fail
          replace HBW := Lib.hid HBW.out.drew
          replace HCA : Hid (CellsAt wr.drew _ _ _) := Lib.hid HCA.out
          replace HCB : Hid (CellsAt wr.drew _ _ _) := Lib.hid HCB.out
          replace HCC : Hid (CellsAt wr.drew _ _ _) := Lib.hid HCC.out
          replace HCD : Hid (CellsAt wr.drew _ _ _) := Lib.hid HCD.out
          replace HGA : Hid (ga < wr.drew.heap.size) := Lib.hid HGA.out
          replace HGB : Hid (gb < wr.drew.heap.size) := Lib.hid HGB.out
          replace HGC : Hid (gc < wr.drew.heap.size) := Lib.hid HGC.out
          replace HGD : Hid (gd < wr.drew.heap.size) := Lib.hid HGD.out
          refine wp_region_held_drew (S := fun W => (W.cell? ⟨gc, oc + i * 2, none⟩ = some (.int .i64 q.1) ∧ W.cell? ⟨gc, oc + i * 2 + 1, none⟩ = some (.string q.2)) ∧ (W.cell? ⟨ga, oa + i * 2, none⟩ = some (.int .i64 u.1) ∧ W.cell? ⟨ga, oa + i * 2 + 1, none⟩ = some (.string u.2)) ∧ (W.cell? ⟨gb, ob + i * 2, none⟩ = some (.int .i64 v.1) ∧ W.cell? ⟨gb, ob + i * 2 + 1, none⟩ = some (.string v.2)) ∧ (W.cell? ⟨gd, od + i * 2, none⟩ = some (.int .i64 q.1) ∧ W.cell? ⟨gd, od + i * 2 + 1, none⟩ = some (.string q.2))) (by kernel_rfl) ⟨HCC.out.two, HCA.out.two, HCB.out.two, HCD.out.two⟩ (fun hHeld => ?_)
          refine wpAnyH_take (i := 0) (oi := _) (v := ?_) (by simp only [List.getElem?_toArray, List.getElem?_cons_zero]; rfl) (by kernel_rfl) (by kernel_rfl) (by kernel_rfl) (by intro _ _ _ h; exact h) (Or.inl ⟨by rfl, fun W hSw => ?_⟩) hHeld ?_
          rotate_left 1
          · (clear hSw; first | (go_simp; done) | (go_simp; with_reducible rfl))
          try go_frame
          refine wpAnyH_take (i := 1) (oi := _) (v := ?_) (by simp only [List.getElem?_toArray, List.getElem?_cons_succ, List.getElem?_cons_zero]; rfl) (by kernel_rfl) (by kernel_rfl) (by kernel_rfl) (by intro _ _ _ h; exact h) (Or.inl ⟨by rfl, fun W hSw => ?_⟩) hHeld ?_
          rotate_left 1
          · (clear hSw; first | (go_simp; done) | (go_simp; with_reducible rfl))
          try go_frame
          refine wpAnyH_take (i := 2) (oi := _) (v := ?_) (by simp only [List.getElem?_toArray, List.getElem?_cons_succ, List.getElem?_cons_zero]; rfl) (by kernel_rfl) (by kernel_rfl) (by kernel_rfl) (by intro _ _ _ h; exact h) (Or.inl ⟨by rfl, fun W hSw => ?_⟩) hHeld ?_
          rotate_left 1
          · (clear hSw; first | (go_simp; done) | (go_simp; with_reducible rfl))
          try go_frame
          refine wpAnyH_take (i := 3) (oi := _) (v := ?_) (by simp only [List.getElem?_toArray, List.getElem?_cons_succ, List.getElem?_cons_zero]; rfl) (by kernel_rfl) (by kernel_rfl) (by kernel_rfl) (by intro _ _ _ h; exact h) (Or.inl ⟨by rfl, fun W hSw => ?_⟩) hHeld ?_
          rotate_left 1
          · (try dsimp only at hSw); first | (go_simp; done) | (go_simp; with_reducible rfl)
          try go_frame
          refine wpAnyH_take (i := 4) (oi := _) (v := ?_) (by simp only [List.getElem?_toArray, List.getElem?_cons_succ, List.getElem?_cons_zero]; rfl) (by kernel_rfl) (by kernel_rfl) (by kernel_rfl) (by intro _ _ _ h; exact h) (Or.inl ⟨by rfl, fun W hSw => ?_⟩) hHeld ?_
          rotate_left 1
          · (clear hSw; first | (go_simp; done) | (go_simp; with_reducible rfl))
          try go_frame
          refine wpAnyH_take (i := 5) (oi := _) (v := ?_) (by simp only [List.getElem?_toArray, List.getElem?_cons_succ, List.getElem?_cons_zero]; rfl) (by kernel_rfl) (by kernel_rfl) (by kernel_rfl) (by intro _ _ _ h; exact h) (Or.inl ⟨by rfl, fun W hSw => ?_⟩) hHeld ?_
          rotate_left 1
          · (clear hSw; first | (go_simp; done) | (go_simp; with_reducible rfl))
          try go_frame
          refine wpAnyH_take (i := 6) (oi := _) (v := ?_) (by simp only [List.getElem?_toArray, List.getElem?_cons_succ, List.getElem?_cons_zero]; rfl) (by kernel_rfl) (by kernel_rfl) (by kernel_rfl) (by intro _ _ _ h; exact h) (Or.inl ⟨by rfl, fun W hSw => ?_⟩) hHeld ?_
          rotate_left 1
          · (clear hSw; first | (go_simp; done) | (go_simp; with_reducible rfl))
          try go_frame
          refine wpAnyH_take (i := 7) (oi := _) (v := ?_) (by simp only [List.getElem?_toArray, List.getElem?_cons_succ, List.getElem?_cons_zero]; rfl) (by kernel_rfl) (by kernel_rfl) (by kernel_rfl) (by intro _ _ _ h; exact h) (Or.inl ⟨by rfl, fun W hSw => ?_⟩) hHeld ?_
          rotate_left 1
          · (clear hSw; first | (go_simp; done) | (go_simp; with_reducible rfl))
          try go_frame
          refine wpAnyH_take (i := 8) (oi := _) (v := ?_) (by simp only [List.getElem?_toArray, List.getElem?_cons_succ, List.getElem?_cons_zero]; rfl) (by kernel_rfl) (by kernel_rfl) (by kernel_rfl) (by intro _ _ _ h; exact h) (Or.inl ⟨by rfl, fun W hSw => ?_⟩) hHeld ?_
          rotate_left 1
          · (try dsimp only at hSw); first | (go_simp; done) | (go_simp; with_reducible rfl)
          try go_frame
          refine wpAnyH_take (i := 9) (oi := _) (v := ?_) (by simp only [List.getElem?_toArray, List.getElem?_cons_succ, List.getElem?_cons_zero]; rfl) (by kernel_rfl) (by kernel_rfl) (by kernel_rfl) (by intro _ _ _ h; exact h) (Or.inl ⟨by rfl, fun W hSw => ?_⟩) hHeld ?_
          rotate_left 1
          · (clear hSw; first | (go_simp; done) | (go_simp; with_reducible rfl))
          try go_frame
          refine wpAnyH_take (i := 10) (oi := _) (v := ?_) (by simp only [List.getElem?_toArray, List.getElem?_cons_succ, List.getElem?_cons_zero]; rfl) (by kernel_rfl) (by kernel_rfl) (by kernel_rfl) (by intro _ _ _ h; exact h) (Or.inl ⟨by rfl, fun W hSw => ?_⟩) hHeld ?_
          rotate_left 1
          · (clear hSw; first | (go_simp; done) | (go_simp; with_reducible rfl))
          try go_frame
          refine wpAnyH_take (i := 11) (oi := _) (v := ?_) (by simp only [List.getElem?_toArray, List.getElem?_cons_succ, List.getElem?_cons_zero]; rfl) (by kernel_rfl) (by kernel_rfl) (by kernel_rfl) (by intro _ _ _ h; exact h) (Or.inl ⟨by rfl, fun W hSw => ?_⟩) hHeld ?_
          rotate_left 1
          · (clear hSw; first | (go_simp; done) | (go_simp; with_reducible rfl))
          try go_frame
          refine wpAnyH_take (i := 12) (oi := _) (v := ?_) (by simp only [List.getElem?_toArray, List.getElem?_cons_succ, List.getElem?_cons_zero]; rfl) (by kernel_rfl) (by kernel_rfl) (by kernel_rfl) (by intro _ _ _ h; exact h) (Or.inl ⟨by rfl, fun W hSw => ?_⟩) hHeld ?_
          rotate_left 1
          · (try dsimp only at hSw); first | (go_simp; done) | (go_simp; with_reducible rfl)
          try go_frame
          refine wpAnyH_ready (rs := [13]) (by kernel_rfl) (by simp) ?_
          refine AllReadyH.cons (o := _) (by simp only [List.getElem?_toArray, List.getElem?_cons_succ, List.getElem?_cons_zero]; rfl) (fun KX hKX => ?_) AllReadyH.nil
          clear hHeld
          go_simp
          refine (Join_y ok tb mb vs K u v _ (HS.out.below (HB7.out.trans (HBW.out.mono HB7.out.size))).1 zu.out zv.out).mono ?_
          rw [HQ.out, tyv_eta]
          rintro e wn ⟨rfl, hbn⟩
          replace HCA := Lib.hid (HCA.out.below hbn HGA.out)
          replace HCB := Lib.hid (HCB.out.below hbn HGB.out)
          replace HCC := Lib.hid (HCC.out.below hbn HGC.out)
          replace HCD := Lib.hid (HCD.out.below hbn HGD.out)
          replace HGA := Lib.hid (Nat.lt_of_lt_of_le HGA.out hbn.size)
          replace HGB := Lib.hid (Nat.lt_of_lt_of_le HGB.out hbn.size)
          replace HGC := Lib.hid (Nat.lt_of_lt_of_le HGC.out hbn.size)
          replace HGD := Lib.hid (Nat.lt_of_lt_of_le HGD.out hbn.size)
          replace HBW := Lib.hid (HBW.out.trans (hbn.mono HBW.out.size))
          clear hbn
          refine hKX.out _ _ ⟨HCC.out.two, HCA.out.two, HCB.out.two, HCD.out.two⟩ (fun hHeld => ?_)
          clear hKX KX
          try go_frame
          refine wpAnyH_take (i := 14) (oi := _) (v := ?_) (by simp only [List.getElem?_toArray, List.getElem?_cons_succ, List.getElem?_cons_zero]; rfl) (by kernel_rfl) (by kernel_rfl) (by kernel_rfl) (by intro _ _ _ h; exact h) (Or.inl ⟨by rfl, fun W hSw => ?_⟩) hHeld ?_
          rotate_left 1
          · (clear hSw; first | (go_simp; done) | (go_simp; with_reducible rfl))
          try go_frame
          refine wpAnyH_take (i := 15) (oi := _) (v := ?_) (by simp only [List.getElem?_toArray, List.getElem?_cons_succ, List.getElem?_cons_zero]; rfl) (by kernel_rfl) (by kernel_rfl) (by kernel_rfl) (by intro _ _ _ h; exact h) (Or.inl ⟨by rfl, fun W hSw => ?_⟩) hHeld ?_
          rotate_left 1
          · (clear hSw; first | (go_simp; done) | (go_simp; with_reducible rfl))
          try go_frame
          refine wpAnyH_take (i := 16) (oi := _) (v := ?_) (by simp only [List.getElem?_toArray, List.getElem?_cons_succ, List.getElem?_cons_zero]; rfl) (by kernel_rfl) (by kernel_rfl) (by kernel_rfl) (by intro _ _ _ h; exact h) (Or.inl ⟨by rfl, fun W hSw => ?_⟩) hHeld ?_
          rotate_left 1
          · (clear hSw; first | (go_simp; done) | (go_simp; with_reducible rfl))
          try go_frame
          refine wpAnyH_take (i := 17) (oi := _) (v := ?_) (by simp only [List.getElem?_toArray, List.getElem?_cons_succ, List.getElem?_cons_zero]; rfl) (by kernel_rfl) (by kernel_rfl) (by kernel_rfl) (by intro _ _ _ h; exact h) (Or.inl ⟨by rfl, fun W hSw => ?_⟩) hHeld ?_
          rotate_left 1
          · (clear hSw; first | (go_simp; done) | (go_simp; with_reducible rfl))
          try go_frame
          refine wpAnyH_take (i := 18) (oi := _) (v := ?_) (by simp only [List.getElem?_toArray, List.getElem?_cons_succ, List.getElem?_cons_zero]; rfl) (by kernel_rfl) (by kernel_rfl) (by kernel_rfl) (by intro _ _ _ h; exact h) (Or.inl ⟨by rfl, fun W hSw => ?_⟩) hHeld ?_
          rotate_left 1
          · (clear hSw; first | (go_simp; done) | (go_simp; with_reducible rfl))
          try go_frame
          refine wpAnyH_take (i := 19) (oi := _) (v := ?_) (by simp only [List.getElem?_toArray, List.getElem?_cons_succ, List.getElem?_cons_zero]; rfl) (by kernel_rfl) (by kernel_rfl) (by kernel_rfl) (by intro _ _ _ h; exact h) (Or.inl ⟨by rfl, fun W hSw => ?_⟩) hHeld ?_
          rotate_left 1
          · (try dsimp only at hSw); first | (go_simp; done) | (go_simp; with_reducible rfl)
          try go_frame
          refine wpAnyH_take (i := 20) (oi := _) (v := ?_) (by simp only [List.getElem?_toArray, List.getElem?_cons_succ, List.getElem?_cons_zero]; rfl) (by kernel_rfl) (by kernel_rfl) (by kernel_rfl) (by intro _ _ _ h; exact h) (Or.inl ⟨by rfl, fun W hSw => ?_⟩) hHeld ?_
          rotate_left 1
          · (clear hSw; first | (go_simp; done) | (go_simp; with_reducible rfl))
          try go_frame
          refine wpAnyH_take (i := 21) (oi := _) (v := ?_) (by simp only [List.getElem?_toArray, List.getElem?_cons_succ, List.getElem?_cons_zero]; rfl) (by kernel_rfl) (by kernel_rfl) (by kernel_rfl) (by intro _ _ _ h; exact h) (Or.inl ⟨by rfl, fun W hSw => ?_⟩) hHeld ?_
          rotate_left 1
          · (clear hSw; first | (go_simp; done) | (go_simp; with_reducible rfl))
          try go_frame
          refine wpAnyH_take (i := 22) (oi := _) (v := ?_) (by simp only [List.getElem?_toArray, List.getElem?_cons_succ, List.getElem?_cons_zero]; rfl) (by kernel_rfl) (by kernel_rfl) (by kernel_rfl) (by intro _ _ _ h; exact h) (Or.inl ⟨by rfl, fun W hSw => ?_⟩) hHeld ?_
          rotate_left 1
          · (clear hSw; first | (go_simp; done) | (go_simp; with_reducible rfl))
          try go_frame
          refine wpAnyH_take (i := 23) (oi := _) (v := ?_) (by simp only [List.getElem?_toArray, List.getElem?_cons_succ, List.getElem?_cons_zero]; rfl) (by kernel_rfl) (by kernel_rfl) (by kernel_rfl) (by intro _ _ _ h; exact h) (Or.inl ⟨by rfl, fun W hSw => ?_⟩) hHeld ?_
          rotate_left 1
          · (try dsimp only at hSw); first | (go_simp; done) | (go_simp; with_reducible rfl)
          try go_frame
          refine wpAnyH_take (i := 24) (oi := _) (v := ?_) (by simp only [List.getElem?_toArray, List.getElem?_cons_succ, List.getElem?_cons_zero]; rfl) (by kernel_rfl) (by kernel_rfl) (by kernel_rfl) (by intro _ _ _ h; exact h) (Or.inl ⟨by rfl, fun W hSw => ?_⟩) hHeld ?_
          rotate_left 1
          · (clear hSw; first | (go_simp; done) | (go_simp; with_reducible rfl))
          try go_frame
          refine wpAnyH_take (i := 25) (oi := _) (v := ?_) (by simp only [List.getElem?_toArray, List.getElem?_cons_succ, List.getElem?_cons_zero]; rfl) (by kernel_rfl) (by kernel_rfl) (by kernel_rfl) (by intro _ _ _ h; exact h) (Or.inl ⟨by rfl, fun W hSw => ?_⟩) hHeld ?_
          rotate_left 1
          · (clear hSw; first | (go_simp; done) | (go_simp; with_reducible rfl))
          try go_frame
          refine wpAnyH_done (by kernel_rfl) ?_ _
          clear hHeld HCA HCB HCC HCD
          go_wp2_with fail
          go_roundw
          case rel => exact ⟨i + 1, by go_num, by omega, HBW⟩
          case measure => simp [intOf]; omega
        · obtain rfl : i = n := by omega
          have hlt' : ¬ (i : Int) < (i : Int) := by omega
          have HB8 := Lib.hid (HB7.out.trans (HBW.out.mono HB7.out.size))
          have HB9 := Lib.hid (HB3.out.trans (HB8.out.mono HB3.out.size))
          cases lg with
          | true =>
            replace HT2 := Lib.hid (HT2.out.below HBW.out)
            have HAL2 : Hid ((A ++ [((1, ⟨#[]⟩) : Ty)]).length ≠ L.length) := Lib.hid (by rw [List.length_append, HAL.out, HLL2.out]; simp)
            have HSRC := Lib.hid (rdX_lit1 (sz := 2) (c := tyC) (fun _ => rfl) wr ((1, ⟨#[]⟩) : Ty) #[.int .i64 1, .string ⟨#[]⟩] 24 rfl)
            have hbn := below_alR wr (.cells #[.int .i64 1, .string ⟨#[]⟩] 24)
            replace HT2 := Lib.hid (HT2.out.below hbn)
            replace HB8 := Lib.hid (HB8.out.trans (hbn.mono HB8.out.size))
            replace HB9 := Lib.hid (HB9.out.trans (hbn.mono HB9.out.size))
            clear hbn HBW
            have hic : i ≤ ca := HCP.out
            have hpa : Option.map (fun x : Addr => x.add 0) pa = pa := by cases pa <;> simp [Addr.add]
            go_wp2_with (at_builtin; refine wp_grow1 rfl _ _ rfl B pa i _ A HT2.out.1 HAL.out rfl wr.heap.size 0 (1, ⟨#[]⟩) rfl HSRC.out (by have := HN20.out; omega) ?_)
            intro ve w8 hoe hbe
            replace hbe : Below (wr.alloc (.cells #[.int .i64 1, .string ⟨#[]⟩] 24)).heap.size (wr.alloc (.cells #[.int .i64 1, .string ⟨#[]⟩] 24)) w8 := by rw [World.size_alloc]; exact hbe
            have HOE := Lib.hid hoe
            have HB10 := Lib.hid (HB9.out.trans (hbe.mono HB9.out.size))
            replace HB8 := Lib.hid (HB8.out.trans (hbe.mono HB8.out.size))
            replace HT2 := Lib.hid (HT2.out.below hbe)
            clear hoe hbe HB9
            obtain ⟨pe, ne, ce, hve⟩ := HOE.out.slice
            subst hve
            go_wp2_with fail
            refine (All_y ok (fun b => _ ≤ b) (fun b => B ≤ b) tb mb vs K _ _ (A ++ [(1, ⟨#[]⟩)]) L w8 (HS.out.below HB8.out).1 (HOE.out.rd (sP.grow _)) (HT2.out.2.1.rd (sP.grow _)) (by
              intro t ht
              rcases List.mem_append.1 ht with ht | ht
              · exact HZA.out t ht
              · rw [List.mem_singleton.1 ht]; exact Nat.zero_le _) HZL.out (by rw [List.length_append, HAL.out]; have := HN20.out; simp; omega) (by have := HLL2.out; have := HN20.out; omega)).mono ?_
            rw [decide_eq_false HAL2.out, if_neg HAL2.out]
            rintro e w9 ⟨vf, rfl, hof, hb9⟩
            obtain ⟨pf, cf, hvf, -⟩ := (hof.rd (sP.grow _)).len
            subst hvf
            have HB11 := Lib.hid (HB10.out.trans (hb9.mono HB10.out.size))
            clear hof hb9 HB10
            go_wp2_with fail
            go_ret
            exact ⟨rfl, HB11.out⟩
          | false =>
            have hzC : ∀ t ∈ allT (K.map skOf) A L, t.2.size ≤ maxLen := fun t ht => by
              obtain ⟨k, hk⟩ := List.mem_iff_getElem?.1 ht
              have hkl := (List.getElem?_eq_some_iff.1 hk).1
              rw [allT_len (HAL.out.trans HLL2.out.symm)] at hkl
              have e := allT_at (T := K.map skOf) (List.getElem?_eq_getElem hkl) (List.getElem?_eq_getElem (by rw [HLL2.out, ← HAL.out]; exact hkl : k < L.length))
              rw [hk] at e
              rw [Option.some.inj e]
              rw [HK.out]
              exact HJZ.out k _ _ (List.getElem?_eq_getElem _) (List.getElem?_eq_getElem _)
            have HZC := Lib.hid hzC
            have HCL := Lib.hid ((allT_len (T := K.map skOf) (HAL.out.trans HLL2.out.symm)).trans HAL.out)
            clear hzC
            go_wp2_with fail
            refine (All_y ok _ _ tb mb vs K _ _ (allT (K.map skOf) A L) (allT (K.map skOf) A L) wr (HS.out.below HB8.out).1 (HRC.out.any (sP.grow _) HBW.out) (HRC.out.any (sP.grow _) HBW.out) HZC.out HZC.out (by have := HCL.out; have := HN20.out; omega) (by have := HCL.out; have := HN20.out; omega)).mono ?_
            rw [decide_eq_true rfl, if_pos rfl]
            rintro e w9 ⟨vf, rfl, hof, hb9⟩
            obtain ⟨pf, cf, hvf, -⟩ := (hof.rd (sP.grow _)).len
            subst hvf
            rw [allT_len rfl, HCL.out]
            have HB11 := Lib.hid (HB9.out.trans (hb9.mono HB9.out.size))
            clear hof hb9 HB9
            go_wp2_with fail
            go_ret
            exact ⟨rfl, HB11.out⟩
end Go.Proofs.Ytdjciahaohfohaa.R
