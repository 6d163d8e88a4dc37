/- Texts that the proof is made of, joined. No condition. -/
import Derived.Test.YtjegocecgncpkaaC916
import Derived.Test.YtjegocecgncpkaaC9H
set_option linter.unusedVariables false
set_option linter.unusedSimpArgs false
set_option maxRecDepth 100000
set_option maxHeartbeats 16000000
namespace Go.Proofs.Ytjegocecgncpkaa.R
open Go.RowKit Go.Proofs.Ytjegocecgncpkaa.D Go.Proofs.Ytjegocecgncpkaa.O Go.Proofs.Ytjegocecgncpkaa.A
theorem eq_fld (w : World) : (binOp .eql 37 (.agg #[.string ⟨#[120]⟩, .int .i64 2, .string es, .bool false]) (.agg #[.string ⟨#[120]⟩, .int .i64 2, .string es, .bool false])).run Try.prog w = .ok (.bool true) w := by
  kernel_rfl
theorem tmod6 (x : Nat) : ∃ (i : Nat) (c : ByteArray), nmC[i]? = some c ∧ i < 6 ∧ ((x : Int).tmod 6) = (i : Int) ∧ i = x % 6 := by
  have h : x % 6 < 6 := Nat.mod_lt _ (by decide)
  exact ⟨x % 6, _, List.getElem?_eq_getElem (show x % 6 < nmC.length from h), h, by rw [Int.tmod_eq_emod_of_nonneg (by omega)]; omega, rfl⟩
theorem map_atR {β : Type} {f : ByteArray → β} {g : Nat → β} (h : nmC.map f = (List.range 6).map g) {i : Nat} {c : ByteArray} (hi : i < 6) (ha : nmC[i]? = some c) : f c = g i := by
  have := congrArg (fun L => L[i]?) h
  simpa [List.getElem?_map, ha, List.getElem?_range hi] using this
theorem nmC_sz : ∀ c ∈ nmC, c.size ≤ 1000 := by decide
theorem nmC_D {i : Nat} {c : ByteArray} (hi : i < 6) (h : nmC[i]? = some c) : (i = 5 → c = ⟨#[68]⟩) ∧ (i ≠ 5 → c ≠ ⟨#[68]⟩) := by
  match i, hi with
  | 0, _ => cases h; exact ⟨by decide, by decide⟩
  | 1, _ => cases h; exact ⟨by decide, by decide⟩
  | 2, _ => cases h; exact ⟨by decide, by decide⟩
  | 3, _ => cases h; exact ⟨by decide, by decide⟩
  | 4, _ => cases h; exact ⟨by decide, by decide⟩
  | 5, _ => cases h; exact ⟨by decide, by decide⟩
theorem slT_form (i : Nat) : ∃ l, slT i = xI :: l ∧ 3 ≤ l.length ∧ l.length ≤ 10 ∧ (i = 5 → l.length = 4 ∧ l[3]? = some xS) := by
  unfold slT
  split
  · rename_i h
    exact ⟨_, rfl, by decide, by decide, fun e => by omega⟩
  · split
    · exact ⟨_, rfl, by decide, by decide, fun _ => ⟨rfl, rfl⟩⟩
    · exact ⟨_, rfl, by decide, by decide, fun e => by omega⟩
theorem fld_box {w : World} {B : Nat} {v : Value} {xs : List Fld} (h : OwnX 4 37 (sP fldC) w B v xs) {i : Nat} {x : Fld} (hx : xs[i]? = some x) : ∃ g c, v = .slice (some ⟨g, 0, none⟩) xs.length c ∧ g < w.heap.size ∧ CellsAt w g (i * 4) (fldC x) := by
  obtain ⟨g, cap, e, -, -, hg, -, hc, -⟩ := own_put4 h hx x
  exact ⟨g, cap, e, hg, hc⟩
set_option maxHeartbeats 8000000 in
set_option maxRecDepth 100000 in
theorem near_l (k0 k1 k2 k3 x : Nat) (w : World) (h0 : k0 < 256) (h1 : k1 < 256) (h2 : k2 < 256) (h3 : k3 < 256) (hx : x < 256) :
    Calls Try.prog 3 #[.agg #[.int .u8 (k0 : Int), .int .u8 (k1 : Int), .int .u8 (k2 : Int), .int .u8 (k3 : Int)], .int .u8 (x : Int)] w fun e w' => e = .returned (.bool true) ∧ Below w.heap.size w w' := by
  obtain ⟨w0, hw0⟩ : ∃ x, x = w.alloc (.cells #[.int .u8 (k0 : Int), .int .u8 (k1 : Int), .int .u8 (k2 : Int), .int .u8 (k3 : Int)] 22) := ⟨_, rfl⟩
  have HB0 : Hid (Below w.heap.size w w0) := Lib.hid (by rw [hw0]; exact below_alR _ _)
  have HX0 : Hid (w0.heap[w.heap.size]? = some (.cells #[.int .u8 (k0 : Int), .int .u8 (k1 : Int), .int .u8 (k2 : Int), .int .u8 (k3 : Int)] 22 (0, 0))) := Lib.hid (by rw [hw0]; exact heap_alloc_new _ _)
  go_enter Try.func3, Try.ntmps3
  try simp only [List.append_eq, List.cons_append, List.nil_append]
  go_wp2_with fail
  rw [← hw0]
  clear hw0
  obtain ⟨kb, hkb⟩ : ∃ x, w.heap.size = x := ⟨_, rfl⟩
  rw [hkb] at HX0 ⊢
  have HKB := Lib.hid hkb
  clear hkb
  refine (known_9 w0).mono ?_
  rintro e w1 ⟨rfl, hb1⟩
  have hX1 := (hb1.block _ (Array.getElem?_eq_some_iff.1 HX0.out).1).trans HX0.out
  have HB1 := Lib.hid (HB0.out.trans (hb1.mono HB0.out.size))
  obtain ⟨xl, xc, -⟩ := boxN hX1
  have x0 := xc 0 _ rfl
  have x1 := xc 1 _ rfl
  have x2 := xc 2 _ rfl
  have x3 := xc 3 _ rfl
  simp only [Nat.zero_add] at x0 x1 x2 x3
  clear hb1 hX1 HX0 HB0 xc
  go_wp2_with fail
  refine (archive_0 k0 k1 k2 k3 w1 h0 h1 h2 h3).mono ?_
  rintro e w2 ⟨p1, n1, c1, rfl, hr1, hb2⟩
  obtain ⟨_, _, e1, -⟩ := hr1.len
  simp only [Value.slice.injEq] at e1
  obtain ⟨rfl, rfl, rfl⟩ := e1
  have HR1 := Lib.hid hr1
  have HB2 := Lib.hid (HB1.out.trans (hb2.mono HB1.out.size))
  clear hr1 hb2 HB1 x0 x1 x2 x3 xl HKB
  go_wp2_with fail
  refine (New_t _ _ _ _ w2 HR1.out (seat_sz8 k0 k1 k2 k3) (seat_few k0 k1 k2 k3)).mono ?_
  rintro e w3 ⟨tb, mb, vs, rfl, ht3, hb3⟩
  rw [seat_id] at ht3
  have HT := Lib.hid ht3
  have HW := Lib.hid (HB2.out.trans (hb3.mono HB2.out.size))
  have HA := Lib.hid (seat_ask k0 k1 k2 k3)
  obtain ⟨i, c, hc, hi6, hmod, -⟩ := tmod6 x
  have HS := Lib.hid (map_atR (near_slots k0 k1 k2 k3) hi6 hc)
  have HF := Lib.hid (map_atR (near_field k0 k1 k2 k3) hi6 hc)
  have HCH := Lib.hid (of_decide_eq_true (List.all_eq_true.1 (near_chain k0 k1 k2 k3) c (List.mem_of_getElem? hc)))
  have HM := Lib.hid (List.all_eq_true.1 (near_method k0 k1 k2 k3) c (List.mem_of_getElem? hc))
  obtain ⟨K, hK⟩ : ∃ x, archS k0 k1 k2 k3 [] [] = x := ⟨_, rfl⟩
  rw [hK] at HT HA HS HF HCH HM
  obtain ⟨ok, hok⟩ : ∃ x, (fun b => w2.heap.size ≤ b) = x := ⟨_, rfl⟩
  rw [hok] at HT
  have HD := Lib.hid (nmC_D hi6 hc)
  have hcs : c.size ≤ maxLen := sz_small (nmC_sz c (List.mem_of_getElem? hc))
  clear hK hok ht3 hb3 HR1 HB2
  go_upto_region 4 with fail
  obtain ⟨w4, hw4⟩ : ∃ z, z = w3.alloc (.cells #[.string ⟨#[65]⟩, .string ⟨#[66]⟩, .string ⟨#[66, 97, 115, 101]⟩, .string ⟨#[77, 105, 100]⟩, .string ⟨#[67]⟩, .string ⟨#[68]⟩] 9) := ⟨_, rfl⟩
  have hX4 : w4.heap[w3.heap.size]? = some (.cells #[.string ⟨#[65]⟩, .string ⟨#[66]⟩, .string ⟨#[66, 97, 115, 101]⟩, .string ⟨#[77, 105, 100]⟩, .string ⟨#[67]⟩, .string ⟨#[68]⟩] 9 (0, 0)) := by rw [hw4]; exact heap_alloc_new _ _
  have HB4 : Hid (Below w3.heap.size w3 w4) := Lib.hid (by rw [hw4]; exact below_alR _ _)
  have hcell : w4.cell? ⟨w3.heap.size, i, none⟩ = some (.string c) := by
    simp only [World.cell?, hX4]
    have e : (#[.string ⟨#[65]⟩, .string ⟨#[66]⟩, .string ⟨#[66, 97, 115, 101]⟩, .string ⟨#[77, 105, 100]⟩, .string ⟨#[67]⟩, .string ⟨#[68]⟩] : Array Value) = (nmC.map Value.string).toArray := rfl
    rw [e]
    simp [hc]
  have hw4s := HB4.out.size
  have xl : w3.heap.size < w4.heap.size := (Array.getElem?_eq_some_iff.1 hX4).1
  rw [hw4] at hcell xl
  have i0 : (0 : Int) ≤ (i : Int) := by omega
  have i1 : (i : Int) < 6 := by omega
  clear hX4 hc
  go_upto_region 5 with fail
  rw [← hw4]
  clear hw4 hcell xl hmod
  go_wp2_with fail
  refine (Slots_m ok tb mb vs K c w4 (HT.out.below HB4.out) hcs HA.out).mono ?_
  rw [HS.out]
  rintro e w5 ⟨p5, c5, rfl, ho5, hb5⟩
  have HB5 := Lib.hid (HB4.out.trans (hb5.mono HB4.out.size))
  obtain ⟨l, hl, hl3, hl10, hl5⟩ := slT_form i
  rw [hl] at ho5 ⊢
  have HL5 := Lib.hid hl5
  have HO5 := Lib.hid ho5
  rw [List.length_cons]
  clear hb5 ho5 hl hl5 HB4 hw4s
  go_wp2_with fail
  refine (Chain_t ok tb mb vs K c w5 (HT.out.below HB5.out) hcs).mono ?_
  rintro e w6 ⟨p6, c6, rfl, -, hb6⟩
  have HB6 := Lib.hid (HB5.out.trans (hb6.mono HB5.out.size))
  have HO6 := Lib.hid (HO5.out.kptS (.of_below hb6 : Kpt [] w5 w6) (fun _ _ => by simp))
  obtain ⟨cl, hcl⟩ : ∃ z, (chainT (K.map skOf) c).1.length = z := ⟨_, rfl⟩
  rw [hcl] at HCH ⊢
  have q2 : ¬ ((cl : Int) < 2) := by have := HCH.out; omega
  have q3 : ¬ (((l.length + 1 : Nat) : Int) < 4) := by omega
  have q3' : ¬ ((l.length : Int) + 1 < 4) := by omega
  have q4 : (0 : Int) < (l.length : Int) + 1 := by omega
  obtain ⟨g, cc, e6, hlg, hcells⟩ := fld_box HO6.out (i := 0) rfl
  simp only [Value.slice.injEq] at e6
  obtain ⟨rfl, -, rfl⟩ := e6
  obtain ⟨y0, y1, -, -⟩ := (show CellsAt w6 g (0 * 4) [.string ⟨#[120]⟩, .int .i64 1, .string es, .bool false] from hcells).four
  rw [Nat.zero_mul] at y0 y1
  simp only [Nat.zero_add] at y1
  clear hb6 hcl hcells HO5 HB5
  go_upto_region 9 with fail
  clear y0 y1 q2 q3 q3' q4
  go_wp2_with fail
  refine (Field_m ok tb mb vs K c _ _ w6 (HT.out.below HB6.out) hcs HA.out).mono ?_
  rw [HF.out]
  rintro e w7 ⟨rfl, hb7⟩
  have HB7 := Lib.hid (HB6.out.trans (hb7.mono HB6.out.size))
  have HO7 := Lib.hid (HO6.out.kptS (.of_below hb7 : Kpt [] w6 w7) (fun _ _ => by simp))
  clear hb7 HO6 HB6
  have hmm := HM.out
  obtain ⟨ov, hov⟩ : ∃ z, virtualK K c ⟨#[110, 97, 109, 101]⟩ ⟨#[40, 41, 83]⟩ = z := ⟨_, rfl⟩
  obtain ⟨om, hom⟩ : ∃ z, methodK K c ⟨#[110, 97, 109, 101]⟩ ⟨#[40, 41, 83]⟩ = z := ⟨_, rfl⟩
  rw [hov, hom] at hmm
  have HOV := Lib.hid hov
  have HOM := Lib.hid hom
  clear hov hom HM
  obtain ⟨⟨v1, m1⟩, rfl⟩ : ∃ z, ov = some z := by cases ov with
    | none => simp [sameO] at hmm
    | some z => exact ⟨z, rfl⟩
  obtain ⟨⟨v2, m2⟩, rfl⟩ : ∃ z, om = some z := by cases om with
    | none => simp [sameO] at hmm
    | some z => exact ⟨z, rfl⟩
  simp only [sameO, Bool.and_eq_true, decide_eq_true_eq, Bool.not_eq_true'] at hmm
  have hst := hmm.2
  have hve := Go.Proofs.Ytjegocecgncpkaa.txt_eq hmm.1
  clear hmm
  by_cases hi5 : i = 5
  · have hcD : (c.toList == [68]) = true := by rw [show ([68] : List UInt8) = (⟨#[68]⟩ : ByteArray).toList from by decide +kernel]; exact Go.Proofs.Ytjegocecgncpkaa.txt_eq (HD.out.1 hi5)
    rw [if_pos hi5]
    simp only [nmO, fdO, Option.isSome, xS]
    obtain ⟨hl4, hlx⟩ := HL5.out hi5
    have HLX := Lib.hid hlx
    clear hlx
    rw [hl4]
    obtain ⟨w8, hw8⟩ : ∃ z, z = w7.alloc (.cells #[.string ⟨#[120]⟩, .int .i64 2, .string es, .bool false] 37) := ⟨_, rfl⟩
    have hb8 : Below w7.heap.size w7 w8 := by rw [hw8]; exact below_alR _ _
    have HXF : Hid (w8.heap[w7.heap.size]? = some (.cells #[.string ⟨#[120]⟩, .int .i64 2, .string es, .bool false] 37 (0, 0))) := Lib.hid (by rw [hw8]; exact heap_alloc_new _ _)
    have HO8 := Lib.hid (HO7.out.kptS (.of_below hb8 : Kpt [] w7 w8) (fun _ _ => by simp))
    have HB8 := Lib.hid (HB7.out.trans (hb8.mono HB7.out.size))
    clear hb8
    go_upto_region 10 with fail
    rw [← hw8]
    clear hw8
    obtain ⟨fb, hfb⟩ : ∃ z, w7.heap.size = z := ⟨_, rfl⟩
    rw [hfb] at HXF ⊢
    clear hfb
    go_wp2_with fail
    refine (Virtual_m ok tb mb vs K c _ _ w8 (HT.out.below HB8.out) hcs HA.out).mono ?_
    rw [HOV.out]
    rintro e w9 ⟨pp, np, cp, pc, nc, cc', ph, nh, ch, rfl, -, hb9⟩
    simp only [nmO, mtO, Option.isSome]
    rw [hst]
    obtain ⟨w10, hw10⟩ : ∃ z, z = w9.alloc (.cells #[.string m1.name, .slice pp np cp, .int .i64 m1.ret.1, .string m1.ret.2, .bool false, .bool m1.ab, .int .i64 m1.locals, .slice pc nc cc', .slice ph nh ch] 44) := ⟨_, rfl⟩
    have hX10 : w10.heap[w9.heap.size]? = some (.cells #[.string m1.name, .slice pp np cp, .int .i64 m1.ret.1, .string m1.ret.2, .bool false, .bool m1.ab, .int .i64 m1.locals, .slice pc nc cc', .slice ph nh ch] 44 (0, 0)) := by rw [hw10]; exact heap_alloc_new _ _
    have hb10 : Below w8.heap.size w8 w10 := by rw [hw10]; exact hb9.trans ((below_alR _ _).mono hb9.size)
    have HB10 := Lib.hid (HB8.out.trans (hb10.mono HB8.out.size))
    have HX10 := Lib.hid hX10
    have HXF10 := Lib.hid ((hb10.block _ (Array.getElem?_eq_some_iff.1 HXF.out).1).trans HXF.out)
    have HO10 := Lib.hid (HO8.out.kptS (.of_below hb10 : Kpt [] w8 w10) (fun _ _ => by simp))
    go_upto_region 14 with fail
    rw [← hw10]
    clear hw10 hb9 hb10 hX10
    obtain ⟨b10, hb10⟩ : ∃ z, w9.heap.size = z := ⟨_, rfl⟩
    rw [hb10] at HX10 ⊢
    clear hb10
    go_wp2_with fail
    refine (Method_m ok tb mb vs K c _ _ w10 (HT.out.below HB10.out) hcs HA.out).mono ?_
    rw [HOM.out]
    rintro e w11 ⟨qp, mp, dp, qc, mc, dc, qh, mh, dh, rfl, -, hb11⟩
    simp only [nmO, mtO, Option.isSome]
    have hb12 : Below w10.heap.size w10 (w11.alloc (.cells #[.string m2.name, .slice qp mp dp, .int .i64 m2.ret.1, .string m2.ret.2, .bool m2.st, .bool m2.ab, .int .i64 m2.locals, .slice qc mc dc, .slice qh mh dh] 44)) := hb11.trans ((below_alR _ _).mono hb11.size)
    obtain ⟨w12, hw12⟩ : ∃ z, z = w11.alloc (.cells #[.string m2.name, .slice qp mp dp, .int .i64 m2.ret.1, .string m2.ret.2, .bool m2.st, .bool m2.ab, .int .i64 m2.locals, .slice qc mc dc, .slice qh mh dh] 44) := ⟨_, rfl⟩
    rw [← hw12] at hb12
    have HB12 := Lib.hid (HB10.out.trans (hb12.mono HB10.out.size))
    obtain ⟨xl, xc, -⟩ := boxN ((hb12.block _ (Array.getElem?_eq_some_iff.1 HX10.out).1).trans HX10.out)
    have x4 := xc 4 _ rfl
    simp only [Nat.zero_add] at x4
    obtain ⟨fl, fc, -⟩ := boxN ((hb12.block _ (Array.getElem?_eq_some_iff.1 HXF10.out).1).trans HXF10.out)
    have f0 := fc 0 _ rfl
    have f1 := fc 1 _ rfl
    have f2 := fc 2 _ rfl
    have f3 := fc 3 _ rfl
    simp only [Nat.zero_add] at f0 f1 f2 f3
    have ho12 := HO10.out.kptS (.of_below hb12 : Kpt [] w10 w12) (fun _ _ => by simp)
    obtain ⟨g', cc', e12, hlg12, hcells⟩ := fld_box ho12 (i := 4) (x := xS) (by rw [List.getElem?_cons_succ]; exact HLX.out)
    simp only [Value.slice.injEq, Option.some.injEq, Addr.mk.injEq, and_true] at e12
    obtain ⟨rfl, -, rfl⟩ := e12
    obtain ⟨y0, y1, y2, y3⟩ := (show CellsAt w12 g (4 * 4) [.string ⟨#[120]⟩, .int .i64 2, .string es, .bool false] from hcells).four
    simp only [Nat.reduceMul, Nat.reduceAdd] at y0 y1 y2 y3
    have hEQ := @eq_fld
    clear xc fc hb11 hb12 ho12 hcells
    go_upto_region 15 with fail
    rw [← hw12]
    clear hw12
    go_quiet (fail)
    go_wp2_with fail
    go_ret
    exact ⟨rfl, HW.out.trans ((HB12.out.trans (S.below_drewN _ w12 nq)).mono HW.out.size)⟩
  · have hcD : (c.toList == [68]) = false := by rw [show ([68] : List UInt8) = (⟨#[68]⟩ : ByteArray).toList from by decide +kernel]; exact Go.Proofs.Ytjegocecgncpkaa.txt_ne (HD.out.2 hi5)
    rw [if_neg hi5]
    simp only [nmO, fdO, Option.isSome, xI]
    obtain ⟨w8, hw8⟩ : ∃ z, z = w7.alloc (.cells #[.string ⟨#[120]⟩, .int .i64 1, .string es, .bool false] 37) := ⟨_, rfl⟩
    have hb8 : Below w7.heap.size w7 w8 := by rw [hw8]; exact below_alR _ _
    have HB8 := Lib.hid (HB7.out.trans (hb8.mono HB7.out.size))
    clear hb8
    go_upto_region 10 with fail
    rw [← hw8]
    clear hw8
    go_wp2_with fail
    refine (Virtual_m ok tb mb vs K c _ _ w8 (HT.out.below HB8.out) hcs HA.out).mono ?_
    rw [HOV.out]
    rintro e w9 ⟨pp, np, cp, pc, nc, cc', ph, nh, ch, rfl, -, hb9⟩
    simp only [nmO, mtO, Option.isSome]
    rw [hst]
    obtain ⟨w10, hw10⟩ : ∃ z, z = w9.alloc (.cells #[.string m1.name, .slice pp np cp, .int .i64 m1.ret.1, .string m1.ret.2, .bool false, .bool m1.ab, .int .i64 m1.locals, .slice pc nc cc', .slice ph nh ch] 44) := ⟨_, rfl⟩
    have hX10 : w10.heap[w9.heap.size]? = some (.cells #[.string m1.name, .slice pp np cp, .int .i64 m1.ret.1, .string m1.ret.2, .bool false, .bool m1.ab, .int .i64 m1.locals, .slice pc nc cc', .slice ph nh ch] 44 (0, 0)) := by rw [hw10]; exact heap_alloc_new _ _
    have hb10 : Below w8.heap.size w8 w10 := by rw [hw10]; exact hb9.trans ((below_alR _ _).mono hb9.size)
    have HB10 := Lib.hid (HB8.out.trans (hb10.mono HB8.out.size))
    have HX10 := Lib.hid hX10
    go_upto_region 14 with fail
    rw [← hw10]
    clear hw10 hb9 hb10 hX10
    obtain ⟨b10, hb10⟩ : ∃ z, w9.heap.size = z := ⟨_, rfl⟩
    rw [hb10] at HX10 ⊢
    clear hb10
    go_wp2_with fail
    refine (Method_m ok tb mb vs K c _ _ w10 (HT.out.below HB10.out) hcs HA.out).mono ?_
    rw [HOM.out]
    rintro e w11 ⟨qp, mp, dp, qc, mc, dc, qh, mh, dh, rfl, -, hb11⟩
    simp only [nmO, mtO, Option.isSome]
    have hb12 : Below w10.heap.size w10 (w11.alloc (.cells #[.string m2.name, .slice qp mp dp, .int .i64 m2.ret.1, .string m2.ret.2, .bool m2.st, .bool m2.ab, .int .i64 m2.locals, .slice qc mc dc, .slice qh mh dh] 44)) := hb11.trans ((below_alR _ _).mono hb11.size)
    obtain ⟨w12, hw12⟩ : ∃ z, z = w11.alloc (.cells #[.string m2.name, .slice qp mp dp, .int .i64 m2.ret.1, .string m2.ret.2, .bool m2.st, .bool m2.ab, .int .i64 m2.locals, .slice qc mc dc, .slice qh mh dh] 44) := ⟨_, rfl⟩
    rw [← hw12] at hb12
    have HB12 := Lib.hid (HB10.out.trans (hb12.mono HB10.out.size))
    obtain ⟨xl, xc, -⟩ := boxN ((hb12.block _ (Array.getElem?_eq_some_iff.1 HX10.out).1).trans HX10.out)
    have x4 := xc 4 _ rfl
    simp only [Nat.zero_add] at x4
    clear xc hb11 hb12
    go_upto_region 15 with fail
    rw [← hw12]
    clear hw12
    go_quiet (fail)
    go_wp2_with fail
    go_ret
    exact ⟨rfl, HW.out.trans ((HB12.out.trans (S.below_drewN _ w12 nq)).mono HW.out.size)⟩
end Go.Proofs.Ytjegocecgncpkaa.R
