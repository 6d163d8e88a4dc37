/- Texts that the proof is made of, joined. No condition. -/
import Derived.Test.YtghihbjcjobdoaaC812
import Derived.Test.YtghihbjcjobdoaaC8H
set_option linter.unusedVariables false
set_option linter.unusedSimpArgs false
set_option maxRecDepth 100000
set_option maxHeartbeats 16000000
namespace Go.Proofs.Ytghihbjcjobdoaa.R
open Go.RowKit Go.Proofs.Ytghihbjcjobdoaa.D Go.Proofs.Ytghihbjcjobdoaa.O Go.Proofs.Ytghihbjcjobdoaa.A
theorem nm_size : ∀ b ∈ nmT, b.size ≤ 1000 := by decide
theorem nm_at {b i : Nat} {w : World} (h : w.heap[b]? = some (.cells #[.string ⟨#[65]⟩, .string ⟨#[66]⟩, .string ⟨#[66, 97, 115, 101]⟩, .string ⟨#[73]⟩, .string ⟨#[74]⟩, .string ⟨#[77, 105, 100]⟩, .string ⟨#[67]⟩, .string ⟨#[68]⟩, .string ⟨#[69, 114, 114]⟩, .string ⟨#[69, 114, 114, 50]⟩, .string ⟨#[77, 97, 105, 110]⟩, .string ⟨#[79, 98, 106, 101, 99, 116]⟩, .string ⟨#[70, 97, 117, 108, 116]⟩, .string ⟨#[67, 97, 115, 116, 70, 97, 117, 108, 116]⟩] 9 (0, 0))) {y : ByteArray} (hy : nmT[i]? = some y) : w.cell? ⟨b, i, none⟩ = some (.string y) := by
  have : (#[.string ⟨#[65]⟩, .string ⟨#[66]⟩, .string ⟨#[66, 97, 115, 101]⟩, .string ⟨#[73]⟩, .string ⟨#[74]⟩, .string ⟨#[77, 105, 100]⟩, .string ⟨#[67]⟩, .string ⟨#[68]⟩, .string ⟨#[69, 114, 114]⟩, .string ⟨#[69, 114, 114, 50]⟩, .string ⟨#[77, 97, 105, 110]⟩, .string ⟨#[79, 98, 106, 101, 99, 116]⟩, .string ⟨#[70, 97, 117, 108, 116]⟩, .string ⟨#[67, 97, 115, 116, 70, 97, 117, 108, 116]⟩] : Array Value)[i]? = some (.string y) := by
    have e : (#[.string ⟨#[65]⟩, .string ⟨#[66]⟩, .string ⟨#[66, 97, 115, 101]⟩, .string ⟨#[73]⟩, .string ⟨#[74]⟩, .string ⟨#[77, 105, 100]⟩, .string ⟨#[67]⟩, .string ⟨#[68]⟩, .string ⟨#[69, 114, 114]⟩, .string ⟨#[69, 114, 114, 50]⟩, .string ⟨#[77, 97, 105, 110]⟩, .string ⟨#[79, 98, 106, 101, 99, 116]⟩, .string ⟨#[70, 97, 117, 108, 116]⟩, .string ⟨#[67, 97, 115, 116, 70, 97, 117, 108, 116]⟩] : Array Value) = (nmT.map Value.string).toArray := rfl
    rw [e]
    simp [hy]
  simp only [World.cell?, h]
  exact this
theorem and_all {b6 : Bool} {i j k : Nat} (hi : i < 14) (hj : j < 14) (hk : k < 14) : subI b6 i i = true ∧ (subI b6 i j = true → subI b6 j k = true → subI b6 i k = true) ∧ (subI b6 i j = true → subI b6 j i = true → i = j) ∧ subI b6 i (comI i j) = true ∧ subI b6 j (comI i j) = true ∧ comI i j = comI j i ∧ comI i (comI j k) = comI (comI i j) k ∧ subI b6 i 11 = true := by
  have h := ord_all b6 ⟨i, hi⟩ ⟨j, hj⟩ ⟨k, hk⟩
  unfold ordI at h
  simp only [Bool.and_eq_true, Bool.or_eq_true, Bool.not_eq_true', decide_eq_true_eq] at h
  obtain ⟨⟨⟨⟨⟨⟨⟨h1, h2⟩, h3⟩, h4⟩, h5⟩, h6⟩, h7⟩, h8⟩ := h
  refine ⟨h1, fun a b => ?_, fun a b => ?_, h4, h5, h6, h7, h8⟩
  · rcases h2 with (h | h) | h
    · rw [a] at h; cases h
    · rw [b] at h; cases h
    · exact h
  · rcases h3 with (h | h) | h
    · rw [a] at h; cases h
    · rw [b] at h; cases h
    · exact h
theorem facts_at (b3 b6 b2 : Bool) {i j k : Nat} {a b c : ByteArray} (ha : nmT[i]? = some a) (hb : nmT[j]? = some b) (hc : nmT[k]? = some c) : ∃ d e f : ByteArray, a.size ≤ maxLen ∧ b.size ≤ maxLen ∧ c.size ≤ maxLen ∧ d.size ≤ maxLen ∧ e.size ≤ maxLen ∧
    subT (tabT b3 b6 b2) a a = true ∧ commonT (tabT b3 b6 b2) a b = d ∧ commonT (tabT b3 b6 b2) b a = d ∧ commonT (tabT b3 b6 b2) b c = e ∧ commonT (tabT b3 b6 b2) a e = f ∧ commonT (tabT b3 b6 b2) d c = f ∧ subT (tabT b3 b6 b2) a d = true ∧ subT (tabT b3 b6 b2) b d = true ∧ subT (tabT b3 b6 b2) a ⟨#[79, 98, 106, 101, 99, 116]⟩ = true ∧
    (subT (tabT b3 b6 b2) a b = true → subT (tabT b3 b6 b2) b c = true → subT (tabT b3 b6 b2) a c = true) ∧ (subT (tabT b3 b6 b2) a b = true → subT (tabT b3 b6 b2) b a = true → a = b) := by
  obtain ⟨h1, h2, h3, h4, h5, h6, h7, h8⟩ := and_all (b6 := b6) (List.getElem?_eq_some_iff.1 ha).1 (List.getElem?_eq_some_iff.1 hb).1 (List.getElem?_eq_some_iff.1 hc).1
  have hd := com_at b3 b6 b2 ha hb
  have hd2 := com_at b3 b6 b2 hb ha
  have he := com_at b3 b6 b2 hb hc
  have hf := com_at b3 b6 b2 ha he
  have hg := com_at b3 b6 b2 hd hc
  rw [← h6, hd, Option.some.injEq] at hd2
  rw [← h7, hf, Option.some.injEq] at hg
  have sz : ∀ {n : Nat} {y : ByteArray}, nmT[n]? = some y → y.size ≤ maxLen := fun h => sz_small (nm_size _ (List.mem_of_getElem? h))
  refine ⟨_, _, _, sz ha, sz hb, sz hc, sz hd, sz he, ?_, rfl, hd2.symm, rfl, rfl, hg.symm, ?_, ?_, ?_, fun p q => ?_, fun p q => ?_⟩
  · rw [sub_at b3 b6 b2 ha ha]; exact h1
  · rw [sub_at b3 b6 b2 ha hd]; exact h4
  · rw [sub_at b3 b6 b2 hb hd]; exact h5
  · rw [sub_at b3 b6 b2 ha (show nmT[11]? = some _ from rfl)]; exact h8
  · rw [sub_at b3 b6 b2 ha hb] at p
    rw [sub_at b3 b6 b2 hb hc] at q
    rw [sub_at b3 b6 b2 ha hc]
    exact h2 p q
  · rw [sub_at b3 b6 b2 ha hb] at p
    rw [sub_at b3 b6 b2 hb ha] at q
    have e := h3 p q
    rw [e, hb, Option.some.injEq] at ha
    exact ha.symm
theorem tmod_at (x : Nat) : ∃ y, nmT[((x : Int).tmod 14).toNat]? = some y ∧ 0 ≤ (x : Int).tmod 14 ∧ (x : Int).tmod 14 < 14 ∧ ((x : Int).tmod 14).toNat = x % 14 := by
  have e : (x : Int).tmod 14 = ((x % 14 : Nat) : Int) := by rw [Int.tmod_eq_emod_of_nonneg (by omega)]; omega
  have h : x % 14 < 14 := Nat.mod_lt _ (by decide)
  rw [e]
  exact ⟨_, List.getElem?_eq_getElem (show x % 14 < nmT.length from h), by omega, by omega, Int.toNat_natCast _⟩
set_option maxHeartbeats 8000000 in
set_option maxRecDepth 100000 in
theorem order_l (k0 k1 k2 k3 x y z : Nat) (w : World) (h0 : k0 < 256) (h1 : k1 < 256) (h2 : k2 < 256) (h3 : k3 < 256) (hx : x < 256) (hy : y < 256) (hz : z < 256) :
    Calls Try.prog 3 #[.agg #[.int .u8 (k0 : Int), .int .u8 (k1 : Int), .int .u8 (k2 : Int), .int .u8 (k3 : Int)], .int .u8 (x : Int), .int .u8 (y : Int), .int .u8 (z : Int)] w fun e w' => e = .returned (.bool true) ∧ Below w.heap.size w w' := by
  obtain ⟨w0, hw0⟩ : ∃ x, x = w.alloc (.cells #[.int .u8 (k0 : Int), .int .u8 (k1 : Int), .int .u8 (k2 : Int), .int .u8 (k3 : Int)] 22) := ⟨_, rfl⟩
  have HB0 : Hid (Below w.heap.size w w0) := Lib.hid (by rw [hw0]; exact below_alR _ _)
  have HX0 : Hid (w0.heap[w.heap.size]? = some (.cells #[.int .u8 (k0 : Int), .int .u8 (k1 : Int), .int .u8 (k2 : Int), .int .u8 (k3 : Int)] 22 (0, 0))) := Lib.hid (by rw [hw0]; exact heap_alloc_new _ _)
  go_enter Try.func3, Try.ntmps3
  try simp only [List.append_eq, List.cons_append, List.nil_append]
  go_wp2_with fail
  rw [← hw0]
  clear hw0
  obtain ⟨kb, hkb⟩ : ∃ x, w.heap.size = x := ⟨_, rfl⟩
  rw [hkb] at HX0 ⊢
  have HKB := Lib.hid hkb
  clear hkb
  refine (known_8 w0).mono ?_
  rintro e w1 ⟨rfl, hb1⟩
  have hX1 := (hb1.block _ (Array.getElem?_eq_some_iff.1 HX0.out).1).trans HX0.out
  have HB1 := Lib.hid (HB0.out.trans (hb1.mono HB0.out.size))
  obtain ⟨xl, xc, -⟩ := boxN hX1
  have x0 := xc 0 _ rfl
  have x1 := xc 1 _ rfl
  have x2 := xc 2 _ rfl
  have x3 := xc 3 _ rfl
  simp only [Nat.zero_add] at x0 x1 x2 x3
  clear hb1 hX1 HX0 HB0 xc
  go_wp2_with fail
  refine (archive_0 k0 k1 k2 k3 w1 h0 h1 h2 h3).mono ?_
  rintro e w2 ⟨p1, n1, c1, rfl, hr1, hb2⟩
  obtain ⟨_, _, e1, -⟩ := hr1.len
  simp only [Value.slice.injEq] at e1
  obtain ⟨rfl, rfl, rfl⟩ := e1
  have HR1 := Lib.hid hr1
  have HB2 := Lib.hid (HB1.out.trans (hb2.mono HB1.out.size))
  clear hr1 hb2 HB1 x0 x1 x2 x3 xl HKB
  go_wp2_with fail
  refine (New_t _ _ _ _ w2 HR1.out (seat_sz8 k0 k1 k2 k3) (seat_few k0 k1 k2 k3)).mono ?_
  rintro e w3 ⟨tb, mb, vs, rfl, ht3, hb3⟩
  have HT := Lib.hid ht3
  have HW := Lib.hid (HB2.out.trans (hb3.mono HB2.out.size))
  have HK := Lib.hid (seat_kept k0 k1 k2 k3)
  obtain ⟨K, hK⟩ : ∃ x, keepL (archS k0 k1 k2 k3 [] []) = x := ⟨_, rfl⟩
  rw [hK] at HT HK
  obtain ⟨ok, hok⟩ : ∃ x, (fun b => w2.heap.size ≤ b) = x := ⟨_, rfl⟩
  rw [hok] at HT
  obtain ⟨b3, hb3'⟩ : ∃ x, bitS k0 3 = x := ⟨_, rfl⟩
  obtain ⟨b6, hb6'⟩ : ∃ x, bitS k0 6 = x := ⟨_, rfl⟩
  obtain ⟨b2, hb2'⟩ : ∃ x, bitS k2 2 = x := ⟨_, rfl⟩
  rw [hb3', hb6', hb2'] at HK
  clear hK hok ht3 hb3 HR1 HB2 hb3' hb6' hb2'
  obtain ⟨a, ha, a1, a2, a3⟩ := tmod_at x
  obtain ⟨b, hb, g1, g2, g3⟩ := tmod_at y
  obtain ⟨c, hc, d1, d2, d3⟩ := tmod_at z
  go_upto_region 5 with fail
  obtain ⟨w4, hw4⟩ : ∃ x, x = w3.alloc (.cells #[.string ⟨#[65]⟩, .string ⟨#[66]⟩, .string ⟨#[66, 97, 115, 101]⟩, .string ⟨#[73]⟩, .string ⟨#[74]⟩, .string ⟨#[77, 105, 100]⟩, .string ⟨#[67]⟩, .string ⟨#[68]⟩, .string ⟨#[69, 114, 114]⟩, .string ⟨#[69, 114, 114, 50]⟩, .string ⟨#[77, 97, 105, 110]⟩, .string ⟨#[79, 98, 106, 101, 99, 116]⟩, .string ⟨#[70, 97, 117, 108, 116]⟩, .string ⟨#[67, 97, 115, 116, 70, 97, 117, 108, 116]⟩] 9) := ⟨_, rfl⟩
  have hX4 : w4.heap[w3.heap.size]? = some (.cells #[.string ⟨#[65]⟩, .string ⟨#[66]⟩, .string ⟨#[66, 97, 115, 101]⟩, .string ⟨#[73]⟩, .string ⟨#[74]⟩, .string ⟨#[77, 105, 100]⟩, .string ⟨#[67]⟩, .string ⟨#[68]⟩, .string ⟨#[69, 114, 114]⟩, .string ⟨#[69, 114, 114, 50]⟩, .string ⟨#[77, 97, 105, 110]⟩, .string ⟨#[79, 98, 106, 101, 99, 116]⟩, .string ⟨#[70, 97, 117, 108, 116]⟩, .string ⟨#[67, 97, 115, 116, 70, 97, 117, 108, 116]⟩] 9 (0, 0)) := by rw [hw4]; exact heap_alloc_new _ _
  have HB4 : Hid (Below w3.heap.size w3 w4) := Lib.hid (by rw [hw4]; exact below_alR _ _)
  rw [← hw4]
  clear hw4
  have q0 := nm_at hX4 ha
  have q1 := nm_at hX4 hb
  have q2 := nm_at hX4 hc
  have xl := (Array.getElem?_eq_some_iff.1 hX4).1
  clear hX4
  rw [a3] at ha
  rw [g3] at hb
  rw [d3] at hc
  have Ha := Lib.hid ha
  have Hb := Lib.hid hb
  have Hc := Lib.hid hc
  clear ha hb hc a3 g3 d3
  have v0 : IntKind.i64.wrap (x : Int) = (x : Int) := IntWalk.i64_in _ (by omega)
  have v1 : IntKind.i64.wrap (y : Int) = (y : Int) := IntWalk.i64_in _ (by omega)
  have v2 : IntKind.i64.wrap (z : Int) = (z : Int) := IntWalk.i64_in _ (by omega)
  go_quiet (fail)
  go_upto_region 6 with fail
  clear q0 q1 q2 v0 v1 v2 a1 a2 g1 g2 d1 d2 xl
  have HB5 : Hid (Below w3.heap.size w3 (w4.drewN nq)) := Lib.hid (HB4.out.trans ((S.below_drewN _ w4 nq).mono HB4.out.size))
  clear HB4
  obtain ⟨w5, hw5⟩ : ∃ x, w4.drewN nq = x := ⟨_, rfl⟩
  rw [hw5] at HB5 ⊢
  clear hw5
  obtain ⟨T, hT⟩ : ∃ x, tabT b3 b6 b2 = x := ⟨_, rfl⟩
  have HF := facts_at b3 b6 b2 Ha.out Hb.out Hc.out
  rw [hT] at HF HK
  clear hT Ha Hb Hc
  obtain ⟨d, e1, f, hsa, hsb, hsc, hsd, hse, s_aa, c_ab, c_ba, c_bc, c_ae, c_dc, s_ad, s_bd, s_ao, hac, hab⟩ := HF
  have HAC := Lib.hid hac
  have HAB := Lib.hid hab
  clear hac hab
  obtain ⟨sab, s_ab⟩ : ∃ x, subT T a b = x := ⟨_, rfl⟩
  obtain ⟨sbc, s_bc⟩ : ∃ x, subT T b c = x := ⟨_, rfl⟩
  obtain ⟨sba, s_ba⟩ : ∃ x, subT T b a = x := ⟨_, rfl⟩
  have HB := HB5
  clear HB5
  cases sab with
  | false =>
    clear s_bc s_ba HAC HAB
    go_wp2_with first
      | (go_at_call 10; refine (Sub_t ok tb mb vs K _ _ _ (HT.out.below HB.out) (by assumption) (by first | assumption | exact sz_small (by decide))).mono ?_; rw [HK.out]; (first | rw [s_aa] | rw [s_ab] | rw [s_bc] | rw [s_ba] | rw [s_ad] | rw [s_bd] | rw [s_ao] | rw [s_ac]); rintro e wn ⟨rfl, hbn⟩; replace HB := Lib.hid (HB.out.trans (hbn.mono HB.out.size)); clear hbn)
      | (go_at_call 9; refine (Common_t ok tb mb vs K _ _ _ (HT.out.below HB.out) (by assumption) (by assumption)).mono ?_; rw [HK.out]; (first | rw [c_ab] | rw [c_ba] | rw [c_bc] | rw [c_ae] | rw [c_dc]); rintro e wn ⟨rfl, hbn⟩; replace HB := Lib.hid (HB.out.trans (hbn.mono HB.out.size)); clear hbn)
    go_ret
    exact ⟨rfl, HW.out.trans (HB.out.mono HW.out.size)⟩
  | true =>
    cases sba with
    | true =>
      have he : (a.toList == b.toList) = true := Go.Proofs.Ytghihbjcjobdoaa.txt_eq (HAB.out s_ab s_ba)
      cases sbc with
      | true =>
        have s_ac := HAC.out s_ab s_bc
        clear HAC HAB
        go_wp2_with first
          | (go_at_call 10; refine (Sub_t ok tb mb vs K _ _ _ (HT.out.below HB.out) (by assumption) (by first | assumption | exact sz_small (by decide))).mono ?_; rw [HK.out]; (first | rw [s_aa] | rw [s_ab] | rw [s_bc] | rw [s_ba] | rw [s_ad] | rw [s_bd] | rw [s_ao] | rw [s_ac]); rintro e wn ⟨rfl, hbn⟩; replace HB := Lib.hid (HB.out.trans (hbn.mono HB.out.size)); clear hbn)
          | (go_at_call 9; refine (Common_t ok tb mb vs K _ _ _ (HT.out.below HB.out) (by assumption) (by assumption)).mono ?_; rw [HK.out]; (first | rw [c_ab] | rw [c_ba] | rw [c_bc] | rw [c_ae] | rw [c_dc]); rintro e wn ⟨rfl, hbn⟩; replace HB := Lib.hid (HB.out.trans (hbn.mono HB.out.size)); clear hbn)
        go_ret
        exact ⟨rfl, HW.out.trans (HB.out.mono HW.out.size)⟩
      | false =>
        clear HAC HAB
        go_wp2_with first
          | (go_at_call 10; refine (Sub_t ok tb mb vs K _ _ _ (HT.out.below HB.out) (by assumption) (by first | assumption | exact sz_small (by decide))).mono ?_; rw [HK.out]; (first | rw [s_aa] | rw [s_ab] | rw [s_bc] | rw [s_ba] | rw [s_ad] | rw [s_bd] | rw [s_ao] | rw [s_ac]); rintro e wn ⟨rfl, hbn⟩; replace HB := Lib.hid (HB.out.trans (hbn.mono HB.out.size)); clear hbn)
          | (go_at_call 9; refine (Common_t ok tb mb vs K _ _ _ (HT.out.below HB.out) (by assumption) (by assumption)).mono ?_; rw [HK.out]; (first | rw [c_ab] | rw [c_ba] | rw [c_bc] | rw [c_ae] | rw [c_dc]); rintro e wn ⟨rfl, hbn⟩; replace HB := Lib.hid (HB.out.trans (hbn.mono HB.out.size)); clear hbn)
        go_ret
        exact ⟨rfl, HW.out.trans (HB.out.mono HW.out.size)⟩
    | false =>
      cases sbc with
      | true =>
        have s_ac := HAC.out s_ab s_bc
        clear HAC HAB
        go_wp2_with first
          | (go_at_call 10; refine (Sub_t ok tb mb vs K _ _ _ (HT.out.below HB.out) (by assumption) (by first | assumption | exact sz_small (by decide))).mono ?_; rw [HK.out]; (first | rw [s_aa] | rw [s_ab] | rw [s_bc] | rw [s_ba] | rw [s_ad] | rw [s_bd] | rw [s_ao] | rw [s_ac]); rintro e wn ⟨rfl, hbn⟩; replace HB := Lib.hid (HB.out.trans (hbn.mono HB.out.size)); clear hbn)
          | (go_at_call 9; refine (Common_t ok tb mb vs K _ _ _ (HT.out.below HB.out) (by assumption) (by assumption)).mono ?_; rw [HK.out]; (first | rw [c_ab] | rw [c_ba] | rw [c_bc] | rw [c_ae] | rw [c_dc]); rintro e wn ⟨rfl, hbn⟩; replace HB := Lib.hid (HB.out.trans (hbn.mono HB.out.size)); clear hbn)
        go_ret
        exact ⟨rfl, HW.out.trans (HB.out.mono HW.out.size)⟩
      | false =>
        clear HAC HAB
        go_wp2_with first
          | (go_at_call 10; refine (Sub_t ok tb mb vs K _ _ _ (HT.out.below HB.out) (by assumption) (by first | assumption | exact sz_small (by decide))).mono ?_; rw [HK.out]; (first | rw [s_aa] | rw [s_ab] | rw [s_bc] | rw [s_ba] | rw [s_ad] | rw [s_bd] | rw [s_ao] | rw [s_ac]); rintro e wn ⟨rfl, hbn⟩; replace HB := Lib.hid (HB.out.trans (hbn.mono HB.out.size)); clear hbn)
          | (go_at_call 9; refine (Common_t ok tb mb vs K _ _ _ (HT.out.below HB.out) (by assumption) (by assumption)).mono ?_; rw [HK.out]; (first | rw [c_ab] | rw [c_ba] | rw [c_bc] | rw [c_ae] | rw [c_dc]); rintro e wn ⟨rfl, hbn⟩; replace HB := Lib.hid (HB.out.trans (hbn.mono HB.out.size)); clear hbn)
        go_ret
        exact ⟨rfl, HW.out.trans (HB.out.mono HW.out.size)⟩
end Go.Proofs.Ytghihbjcjobdoaa.R
