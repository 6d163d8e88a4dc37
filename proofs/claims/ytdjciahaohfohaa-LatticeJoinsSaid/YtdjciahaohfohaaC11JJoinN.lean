/- Texts that the proof is made of, joined. No condition. -/
import Derived.Test.YtdjciahaohfohaaC11JJoinF
import Derived.Deep.DeepCutAuto
import Derived.Deep.CutBlock
import Derived.Test.YtdjciahaohfohaaC11H
set_option linter.unusedVariables false
set_option linter.unusedSimpArgs false
set_option maxRecDepth 100000
set_option maxHeartbeats 16000000
namespace Go.Proofs.Ytdjciahaohfohaa.R
open Go.RowKit Go.Proofs.Ytdjciahaohfohaa.D Go.Proofs.Ytdjciahaohfohaa.O Go.Proofs.Ytdjciahaohfohaa.A
set_option maxHeartbeats 8000000 in
set_option maxRecDepth 100000 in
theorem joins_n (k0 k1 k2 k3 x y z u : Nat) (w : World) (h0 : k0 < 256) (h1 : k1 < 256) (h2 : k2 < 256) (h3 : k3 < 256) (hx : x < 256) (hy : y < 256) (hz : z < 256) (hu : u < 256) (xo : Nat) (hxo : xo < 256) (hor : bits .or .u8 (x : Int) 1 = (xo : Int)) (hany : (((ofJ xo ⟨#[65]⟩).2.toList == [78, 111, 98, 111, 100, 121]) || (((ofJ y ⟨#[65]⟩).2.toList == [78, 111, 98, 111, 100, 121]) || (((ofJ z ⟨#[65]⟩).2.toList == [78, 111, 98, 111, 100, 121]) || ((ofJ u ⟨#[65]⟩).2.toList == [78, 111, 98, 111, 100, 121])))) = true) :
    Calls Try.prog 4 #[.agg #[.int .u8 (k0 : Int), .int .u8 (k1 : Int), .int .u8 (k2 : Int), .int .u8 (k3 : Int)], .int .u8 (x : Int), .int .u8 (y : Int), .int .u8 (z : Int), .int .u8 (u : Int)] w fun e w' => e = .returned (.bool true) ∧ Below w.heap.size w w' := by
  obtain ⟨w0, hw0⟩ : ∃ x, x = w.alloc (.cells #[.int .u8 (k0 : Int), .int .u8 (k1 : Int), .int .u8 (k2 : Int), .int .u8 (k3 : Int)] 22) := ⟨_, rfl⟩
  have HB0 : Hid (Below w.heap.size w w0) := Lib.hid (by rw [hw0]; exact below_alR _ _)
  have HX0 : Hid (w0.heap[w.heap.size]? = some (.cells #[.int .u8 (k0 : Int), .int .u8 (k1 : Int), .int .u8 (k2 : Int), .int .u8 (k3 : Int)] 22 (0, 0))) := Lib.hid (by rw [hw0]; exact heap_alloc_new _ _)
  go_enter Try.func4, Try.ntmps4
  try simp only [List.append_eq, List.cons_append, List.nil_append]
  go_wp2_with fail
  rw [← hw0]
  clear hw0
  obtain ⟨kb, hkb⟩ : ∃ x, w.heap.size = x := ⟨_, rfl⟩
  rw [hkb] at HX0 ⊢
  have HKB := Lib.hid hkb
  clear hkb
  refine (known_11 w0).mono ?_
  rintro e w1 ⟨rfl, hb1⟩
  have hX1 := (hb1.block _ (Array.getElem?_eq_some_iff.1 HX0.out).1).trans HX0.out
  have HB1 := Lib.hid (HB0.out.trans (hb1.mono HB0.out.size))
  obtain ⟨xl, xc, -⟩ := boxN hX1
  have x0 := xc 0 _ rfl
  have x1 := xc 1 _ rfl
  have x2 := xc 2 _ rfl
  have x3 := xc 3 _ rfl
  simp only [Nat.zero_add] at x0 x1 x2 x3
  clear hb1 hX1 HX0 HB0 xc
  go_wp2_with fail
  refine (archive_0 k0 k1 k2 k3 w1 h0 h1 h2 h3).mono ?_
  rintro e w2 ⟨p1, n1, c1, rfl, hr1, hb2⟩
  obtain ⟨_, _, e1, -⟩ := hr1.len
  simp only [Value.slice.injEq] at e1
  obtain ⟨rfl, rfl, rfl⟩ := e1
  have HR1 := Lib.hid hr1
  have HB2 := Lib.hid (HB1.out.trans (hb2.mono HB1.out.size))
  clear hr1 hb2 HB1 x0 x1 x2 x3 xl HKB
  go_wp2_with fail
  refine (seat_tree k0 k1 k2 k3 w2 _ _ _ HR1.out).mono ?_
  rintro e w3 ⟨tb, mb, vs, ok, K, rfl, hk3, hs3⟩
  have HS := Lib.hid hs3
  obtain ⟨T, hT⟩ : ∃ t, (tabT (bitS k0 3) (bitS k0 6) (bitS k2 2)) = t := ⟨_, rfl⟩
  rw [hT] at hk3
  have HK := Lib.hid hk3
  clear hk3 hs3 HR1
  obtain ⟨a, ha⟩ : ∃ t, ofJ xo ⟨#[65]⟩ = t := ⟨_, rfl⟩
  have ia := (of_ix (s := ⟨#[65]⟩) (sx := 7) rfl xo).1
  rw [ha] at ia
  obtain ⟨b, hb⟩ : ∃ t, ofJ y ⟨#[65]⟩ = t := ⟨_, rfl⟩
  have ib := (of_ix (s := ⟨#[65]⟩) (sx := 7) rfl y).1
  rw [hb] at ib
  obtain ⟨c, hc⟩ : ∃ t, ofJ z ⟨#[65]⟩ = t := ⟨_, rfl⟩
  have ic := (of_ix (s := ⟨#[65]⟩) (sx := 7) rfl z).1
  rw [hc] at ic
  obtain ⟨d, hd⟩ : ∃ t, ofJ u ⟨#[65]⟩ = t := ⟨_, rfl⟩
  have id := (of_ix (s := ⟨#[65]⟩) (sx := 7) rfl u).1
  rw [hd] at id
  rw [ha, hb, hc, hd] at hany
  have HANY := Lib.hid hany
  clear ia ib ic id hT hany
  go_upto_region 4 with fail
  go_upto_region 5 with (go_at_call 11; refine (of_y _ ⟨#[65]⟩ _ (by assumption)).mono ?_; (first | rw [ha] | rw [hb] | rw [hc] | rw [hd]); rw [tyv_eta]; rintro e wn ⟨rfl, hbn⟩; replace HS := Lib.hid (HS.out.below hbn); clear hbn)
  obtain ⟨wj, hwj⟩ : ∃ x, x = ((((wn.alloc (.cells #[.int .i64 a.1, .string a.2] 24)).alloc (.cells #[.int .i64 b.1, .string b.2] 24)).alloc (.cells #[.int .i64 c.1, .string c.2] 24)).alloc (.cells #[.int .i64 d.1, .string d.2] 24)) := ⟨_, rfl⟩
  have hsj : StJ w2 wj ok tb mb vs K [(wn.heap.size + 3, d), (wn.heap.size + 2, c), (wn.heap.size + 1, b), (wn.heap.size, a)] := by
    rw [hwj]
    have := ((((HS.out.box a).box b).box c).box d)
    simp only [World.size_alloc] at this
    exact this
  rw [← hwj]
  clear hwj
  obtain ⟨g, hg⟩ : ∃ z, wn.heap.size = z := ⟨_, rfl⟩
  rw [hg] at hsj ⊢
  replace HS := Lib.hid hsj
  clear hg hsj
  obtain ⟨al, a0, a1⟩ := HS.out.cell (g := g) (a := a) (by simp)
  obtain ⟨bl, b0, b1⟩ := HS.out.cell (g := g + 1) (a := b) (by simp)
  obtain ⟨cl, c0, c1⟩ := HS.out.cell (g := g + 2) (a := c) (by simp)
  obtain ⟨dl, d0, d1⟩ := HS.out.cell (g := g + 3) (a := d) (by simp)
  try dsimp only at a0 a1 b0 b1 c0 c1 d0 d1
  have hany := HANY.out
  clear HANY ha hb hc hd hor HK
  cases n1 : (a.2.toList == [78, 111, 98, 111, 100, 121]) with
  | true =>
    go_wp2_with fail
    go_ret
    exact ⟨rfl, HB2.out.trans (HS.out.2.2.mono HB2.out.size)⟩
  | false =>
    cases n2 : (b.2.toList == [78, 111, 98, 111, 100, 121]) with
    | true =>
      go_wp2_with fail
      go_ret
      exact ⟨rfl, HB2.out.trans (HS.out.2.2.mono HB2.out.size)⟩
    | false =>
      cases n3 : (c.2.toList == [78, 111, 98, 111, 100, 121]) with
      | true =>
        go_wp2_with fail
        go_ret
        exact ⟨rfl, HB2.out.trans (HS.out.2.2.mono HB2.out.size)⟩
      | false =>
        cases n4 : (d.2.toList == [78, 111, 98, 111, 100, 121]) with
        | true =>
          go_wp2_with fail
          go_ret
          exact ⟨rfl, HB2.out.trans (HS.out.2.2.mono HB2.out.size)⟩
        | false =>
          rw [n1, n2, n3, n4] at hany
          cases hany
end Go.Proofs.Ytdjciahaohfohaa.R
