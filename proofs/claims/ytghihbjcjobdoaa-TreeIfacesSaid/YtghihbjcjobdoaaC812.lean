/- Texts that the proof is made of, joined. No condition. -/
import Derived.Test.YtghihbjcjobdoaaC88
import Derived.Test.YtghihbjcjobdoaaC811
import Derived.Test.YtghihbjcjobdoaaC8H
set_option linter.unusedVariables false
set_option linter.unusedSimpArgs false
set_option maxRecDepth 100000
set_option maxHeartbeats 16000000
namespace Go.Proofs.Ytghihbjcjobdoaa.R
open Go.RowKit Go.Proofs.Ytghihbjcjobdoaa.D Go.Proofs.Ytghihbjcjobdoaa.O Go.Proofs.Ytghihbjcjobdoaa.A
theorem f_class : superT (tabT false false false) ⟨#[66]⟩ = ⟨#[65]⟩ := by decide +kernel
theorem f_kb : knownT (tabT false false false) ⟨#[66]⟩ = true := by decide +kernel
theorem f_chain : (chainT (tabT false false false) ⟨#[66]⟩).1 = [⟨#[66]⟩, ⟨#[65]⟩, ⟨#[66, 97, 115, 101]⟩, ⟨#[79, 98, 106, 101, 99, 116]⟩] := by decide +kernel
theorem f_sub1 : subT (tabT false false false) ⟨#[66]⟩ ⟨#[73]⟩ = true := by decide +kernel
theorem f_sub2 : subT (tabT false false false) ⟨#[73]⟩ ⟨#[66]⟩ = false := by decide +kernel
theorem f_com : commonT (tabT false false false) ⟨#[66]⟩ ⟨#[67]⟩ = ⟨#[66, 97, 115, 101]⟩ := by decide +kernel
theorem f_sup : superT (tabT false false false) ⟨#[70, 97, 117, 108, 116]⟩ = ⟨#[79, 98, 106, 101, 99, 116]⟩ := by decide +kernel
theorem f_blt : (bltS ⟨#[90, 101, 114, 111, 70, 97, 117, 108, 116]⟩).isSome = true := by decide +kernel
theorem f_loops : loopsT (tabT false false false) ⟨#[66]⟩ = false := by decide +kernel
theorem f_dir : (directT (tabT false false false) ⟨#[66, 97, 115, 101]⟩).length = 3 := by decide +kernel
theorem f_if : (ifacesT (tabT false false false) ⟨#[66]⟩).length = 1 := by decide +kernel
theorem f_no : knownT (tabT false false false) ⟨#[78, 111, 98, 111, 100, 121]⟩ = false := by decide +kernel
theorem f_sub3 : subT (tabT false false false) ⟨#[68]⟩ ⟨#[74]⟩ = true := by decide +kernel
set_option maxHeartbeats 8000000 in
set_option maxRecDepth 100000 in
theorem known_8 (w : World) : Calls Try.prog 6 #[] w fun e w' => e = .returned (.bool true) ∧ Below w.heap.size w w' := by
  go_enter Try.func6, Try.ntmps6
  try simp only [List.append_eq, List.cons_append, List.nil_append]
  go_wp2_with fail
  refine (archive_0 0 0 0 0 w (by decide) (by decide) (by decide) (by decide)).mono ?_
  rintro e w1 ⟨p1, n1, c1, rfl, hr1, hb1⟩
  obtain ⟨_, _, e1, -⟩ := hr1.len
  simp only [Value.slice.injEq] at e1
  obtain ⟨rfl, rfl, rfl⟩ := e1
  have HR1 := Lib.hid hr1
  have HB1 := Lib.hid hb1
  clear hr1 hb1
  go_wp2_with fail
  refine (New_t _ _ _ _ w1 HR1.out (seat_sz8 0 0 0 0) (seat_few 0 0 0 0)).mono ?_
  rintro e w2 ⟨tb, mb, vs, rfl, ht2, hb2⟩
  have HT := Lib.hid ht2
  have HB := Lib.hid (HB1.out.trans (hb2.mono HB1.out.size))
  have HK : Hid ((keepL (archS 0 0 0 0 [] [])).map skOf = (tabT false false false)) := Lib.hid (seat_kept 0 0 0 0)
  have HFW := Lib.hid (keep_few (seat_few 0 0 0 0))
  obtain ⟨K, hK⟩ : ∃ x, keepL (archS 0 0 0 0 [] []) = x := ⟨_, rfl⟩
  rw [hK] at HT HK HFW
  obtain ⟨ok, hok⟩ : ∃ x, (fun b => w1.heap.size ≤ b) = x := ⟨_, rfl⟩
  rw [hok] at HT
  clear hK hok ht2 hb2 HR1 HB1
  go_wp2_with fail
  refine (Class_t ok tb mb vs K _ w2 HT.out (sz_small (by decide)) HFW.out).mono ?_
  rintro e w3 ⟨pi, ni, ci, pf, nf, cf, pm, nm, cm, rfl, -, hb3⟩
  rw [← super_sk, ← known_sk, HK.out, f_class, f_kb]
  have HB3 := Lib.hid hb3
  clear hb3
  obtain ⟨nn, hnn⟩ : ∃ x, ((findC K ⟨#[66]⟩).getD noC).name = x := ⟨_, rfl⟩
  obtain ⟨kk, hkk⟩ : ∃ x, ((findC K ⟨#[66]⟩).getD noC).kind = x := ⟨_, rfl⟩
  rw [hnn, hkk]
  clear hnn hkk
  obtain ⟨w4, hw4⟩ : ∃ x, x = w3.alloc (.cells #[.string nn, .string ⟨#[65]⟩, .slice pi ni ci, .int .i64 kk, .slice pf nf cf, .slice pm nm cm] 37) := ⟨_, rfl⟩
  have HX4 : Hid (w4.heap[w3.heap.size]? = some (.cells #[.string nn, .string ⟨#[65]⟩, .slice pi ni ci, .int .i64 kk, .slice pf nf cf, .slice pm nm cm] 37 (0, 0))) := Lib.hid (by rw [hw4]; exact heap_alloc_new _ _)
  have HB4 : Hid (Below w2.heap.size w2 w4) := Lib.hid (by rw [hw4]; exact HB3.out.trans ((below_alR _ _).mono HB3.out.size))
  go_upto_region 5 with fail
  rw [← hw4]
  clear hw4
  obtain ⟨bx, hbx⟩ : ∃ x, w3.heap.size = x := ⟨_, rfl⟩
  rw [hbx] at HX4 ⊢
  clear hbx HB3
  go_wp2_with fail
  refine (Chain_t ok tb mb vs K _ w4 (HT.out.below HB4.out) (sz_small (by decide))).mono ?_
  rw [HK.out, f_chain]
  rintro e w5 ⟨p5, c5, rfl, ho5, hb5⟩
  have hX5 := (hb5.block _ (Array.getElem?_eq_some_iff.1 HX4.out).1).trans HX4.out
  obtain ⟨xl, xc, -⟩ := boxN hX5
  have x1 := xc 1 _ rfl
  simp only [Nat.zero_add] at x1
  obtain ⟨g5, cc5, -, ee, -, gl5, -, hc5, -, hcc, -, -⟩ | ⟨ee, _⟩ := (Or.symm ho5.cells)
  · simp only [Value.slice.injEq] at ee
    obtain ⟨rfl, -, rfl⟩ := ee
    have z3 := hcc 3 _ rfl
    have HB5 := Lib.hid (HB4.out.trans (hb5.mono HB4.out.size))
    clear hb5 ho5 hcc hX5 xc HX4 HB4
    go_wp2_with fail
    refine (Sub_t ok tb mb vs K _ _ w5 (HT.out.below HB5.out) (sz_small (by decide)) (sz_small (by decide))).mono ?_
    rw [HK.out, f_sub1]
    rintro e w6 ⟨rfl, hb⟩
    have HB6 := Lib.hid (HB5.out.trans (hb.mono HB5.out.size))
    clear hb HB5
    go_wp2_with fail
    refine (Sub_t ok tb mb vs K _ _ w6 (HT.out.below HB6.out) (sz_small (by decide)) (sz_small (by decide))).mono ?_
    rw [HK.out, f_sub2]
    rintro e w7 ⟨rfl, hb⟩
    have HB7 := Lib.hid (HB6.out.trans (hb.mono HB6.out.size))
    clear hb HB6
    go_wp2_with fail
    refine (Common_t ok tb mb vs K _ _ w7 (HT.out.below HB7.out) (sz_small (by decide)) (sz_small (by decide))).mono ?_
    rw [HK.out, f_com]
    rintro e w8 ⟨rfl, hb⟩
    have HB8 := Lib.hid (HB7.out.trans (hb.mono HB7.out.size))
    clear hb HB7
    go_wp2_with fail
    refine (super_t ok tb mb vs K _ w8 (HT.out.below HB8.out) (sz_small (by decide))).mono ?_
    rw [HK.out, f_sup]
    rintro e w9 ⟨rfl, hb⟩
    have HB9 := Lib.hid (HB8.out.trans (hb.mono HB8.out.size))
    clear hb HB8
    go_wp2_with fail
    refine (builtin_t _ w9).mono ?_
    rw [f_blt]
    rintro e w10 ⟨rfl, hb⟩
    have HB10 := Lib.hid (HB9.out.trans (hb.mono HB9.out.size))
    clear hb HB9
    go_wp2_with fail
    refine (Loops_t ok tb mb vs K _ w10 (HT.out.below HB10.out) (sz_small (by decide))).mono ?_
    rw [HK.out, f_loops]
    rintro e w11 ⟨rfl, hb⟩
    have HB11 := Lib.hid (HB10.out.trans (hb.mono HB10.out.size))
    clear hb HB10
    go_wp2_with fail
    refine (Direct_t ok tb mb vs K _ w11 (HT.out.below HB11.out) ).mono ?_
    rw [HK.out, f_dir]
    rintro e w12 ⟨p12, c12, rfl, -, hb⟩
    have HB12 := Lib.hid (HB11.out.trans (hb.mono HB11.out.size))
    clear hb HB11
    go_wp2_with fail
    refine (Ifaces_t ok tb mb vs K _ w12 (HT.out.below HB12.out) (sz_small (by decide))).mono ?_
    rw [HK.out, f_if]
    rintro e w13 ⟨p13, c13, rfl, -, hb⟩
    have HB13 := Lib.hid (HB12.out.trans (hb.mono HB12.out.size))
    clear hb HB12
    go_wp2_with fail
    refine (known_t ok tb mb vs K _ w13 (HT.out.below HB13.out) (sz_small (by decide))).mono ?_
    rw [HK.out, f_no]
    rintro e w14 ⟨rfl, hb⟩
    have HB14 := Lib.hid (HB13.out.trans (hb.mono HB13.out.size))
    clear hb HB13
    go_wp2_with fail
    refine (Sub_t ok tb mb vs K _ _ w14 (HT.out.below HB14.out) (sz_small (by decide)) (sz_small (by decide))).mono ?_
    rw [HK.out, f_sub3]
    rintro e w15 ⟨rfl, hb⟩
    have HB15 := Lib.hid (HB14.out.trans (hb.mono HB14.out.size))
    clear hb HB14
    go_wp2_with fail
    go_ret
    exact ⟨rfl, HB.out.trans (HB15.out.mono HB.out.size)⟩
  · simp at ee
end Go.Proofs.Ytghihbjcjobdoaa.R
