/- Texts that the proof is made of, joined. No condition. -/
import Derived.Test.YtghihbjcjobdoaaC812
import Derived.Test.YtghihbjcjobdoaaC8H
set_option linter.unusedVariables false
set_option linter.unusedSimpArgs false
set_option maxRecDepth 100000
set_option maxHeartbeats 16000000
namespace Go.Proofs.Ytghihbjcjobdoaa.R
open Go.RowKit Go.Proofs.Ytghihbjcjobdoaa.D Go.Proofs.Ytghihbjcjobdoaa.O Go.Proofs.Ytghihbjcjobdoaa.A
def blT : List ByteArray := objT :: fltT :: fivT
theorem bl_at {b i : Nat} {w : World} (h : w.heap[b]? = some (.cells #[.string ⟨#[79, 98, 106, 101, 99, 116]⟩, .string ⟨#[70, 97, 117, 108, 116]⟩, .string ⟨#[78, 117, 108, 108, 70, 97, 117, 108, 116]⟩, .string ⟨#[66, 111, 117, 110, 100, 115, 70, 97, 117, 108, 116]⟩, .string ⟨#[67, 97, 115, 116, 70, 97, 117, 108, 116]⟩, .string ⟨#[90, 101, 114, 111, 70, 97, 117, 108, 116]⟩, .string ⟨#[83, 105, 122, 101, 70, 97, 117, 108, 116]⟩] 9 (0, 0))) {y : ByteArray} (hy : blT[i]? = some y) : w.cell? ⟨b, i, none⟩ = some (.string y) := by
  have : (#[.string ⟨#[79, 98, 106, 101, 99, 116]⟩, .string ⟨#[70, 97, 117, 108, 116]⟩, .string ⟨#[78, 117, 108, 108, 70, 97, 117, 108, 116]⟩, .string ⟨#[66, 111, 117, 110, 100, 115, 70, 97, 117, 108, 116]⟩, .string ⟨#[67, 97, 115, 116, 70, 97, 117, 108, 116]⟩, .string ⟨#[90, 101, 114, 111, 70, 97, 117, 108, 116]⟩, .string ⟨#[83, 105, 122, 101, 70, 97, 117, 108, 116]⟩] : Array Value)[i]? = some (.string y) := by
    have e : (#[.string ⟨#[79, 98, 106, 101, 99, 116]⟩, .string ⟨#[70, 97, 117, 108, 116]⟩, .string ⟨#[78, 117, 108, 108, 70, 97, 117, 108, 116]⟩, .string ⟨#[66, 111, 117, 110, 100, 115, 70, 97, 117, 108, 116]⟩, .string ⟨#[67, 97, 115, 116, 70, 97, 117, 108, 116]⟩, .string ⟨#[90, 101, 114, 111, 70, 97, 117, 108, 116]⟩, .string ⟨#[83, 105, 122, 101, 70, 97, 117, 108, 116]⟩] : Array Value) = (blT.map Value.string).toArray := rfl
    rw [e]
    simp [hy]
  simp only [World.cell?, h]
  exact this
theorem bl_known (n : ByteArray) : knownT [] n = S.hasB blT n := by
  unfold knownT findS
  cases hb : bltS n with
  | some s =>
    have h : n ∈ blT := by
      have h1 : knownT [] n = true := by unfold knownT findS; rw [hb]; rfl
      have h2 := known_all h1
      unfold allN at h2
      rw [List.map_nil, List.append_nil] at h2
      exact h2
    rw [S.hasB_in h]; rfl
  | none =>
    have h : n ∉ blT := by
      intro h
      unfold blT at h
      unfold bltS at hb
      rcases List.mem_cons.1 h with h | h
      · rw [if_pos h] at hb; cases hb
      · by_cases h1 : n = objT
        · rw [if_pos h1] at hb; cases hb
        · rw [if_neg h1] at hb
          rcases List.mem_cons.1 h with h | h
          · rw [if_pos h] at hb; cases hb
          · by_cases h2 : n = fltT
            · rw [if_pos h2] at hb; cases hb
            · rw [if_neg h2, if_pos (S.hasB_in h)] at hb; cases hb
    rw [S.hasB_out h]; rfl
theorem bl_some (n : ByteArray) : (bltS n).isSome = S.hasB blT n := by
  rw [← bl_known]
  unfold knownT findS
  cases bltS n <;> rfl
def subF (a b : Nat) : Bool := decide (a = b) || decide (b = 0) || (decide (b = 1) && decide (1 < a))
theorem bl_all : ∀ a : Fin 7, ∀ b : Fin 7, ∀ x y : ByteArray, blT[(a : Nat)]? = some x → blT[(b : Nat)]? = some y → subT [] x y = subF (a : Nat) (b : Nat) ∧ (chainT [] x).1.length = min (a : Nat) 2 + 1 ∧ loopsT [] x = false ∧ (bltS x).isSome = true ∧ x.size ≤ 1000 := by
  have h : ∀ a : Fin 7, ∀ b : Fin 7, (match blT[(a : Nat)]?, blT[(b : Nat)]? with | some x, some y => decide (subT [] x y = subF (a : Nat) (b : Nat)) && decide ((chainT [] x).1.length = min (a : Nat) 2 + 1) && !loopsT [] x && (bltS x).isSome && decide (x.size ≤ 1000) | _, _ => true) = true := by decide +kernel
  intro a b x y hx hy
  have := h a b
  rw [hx, hy] at this
  simp only [Bool.and_eq_true, decide_eq_true_eq, Bool.not_eq_true'] at this
  obtain ⟨⟨⟨⟨h1, h2⟩, h3⟩, h4⟩, h5⟩ := this
  exact ⟨h1, h2, h3, h4, h5⟩
theorem mod7 (x : Nat) : ∃ a : Nat, (x : Int) % 7 = (a : Int) ∧ a < 7 := ⟨x % 7, by omega, Nat.mod_lt _ (by decide)⟩
set_option maxHeartbeats 8000000 in
set_option maxRecDepth 100000 in
theorem builtins_l (n m : Nat) (s : ByteArray) (w : World) (hn : n < 256) (hm : m < 256) (hs : s.size ≤ maxLen) :
    Calls Try.prog 4 #[.int .u8 (n : Int), .int .u8 (m : Int), .string s] w fun e w' => e = .returned (.bool true) ∧ Below w.heap.size w w' := by
  go_enter Try.func4, Try.ntmps4
  try simp only [List.append_eq, List.cons_append, List.nil_append]
  go_wp2_with fail
  refine (known_8 w).mono ?_
  rintro e w1 ⟨rfl, hb1⟩
  have HB1 := Lib.hid hb1
  clear hb1
  by_cases h60 : 60 < s.size
  · have h60' : (60 : Int) < (s.size : Int) := by omega
    go_wp2_with fail
    go_ret
    exact ⟨rfl, HB1.out⟩
  · have h60' : ¬ (60 : Int) < (s.size : Int) := by omega
    go_wp2_with fail
    refine (New_t [] none 0 (fun _ => True) w1 (RdX.nil _ _ _ _) ⟨by simp, fun c hc => by cases hc⟩ (fun c hc => by cases hc)).mono ?_
    rintro e w2 ⟨tb, mb, vs, rfl, ht2, hb2⟩
    have HT := Lib.hid ht2
    have HW := Lib.hid (HB1.out.trans (hb2.mono HB1.out.size))
    obtain ⟨ok, hok⟩ : ∃ x, (fun b => w1.heap.size ≤ b) = x := ⟨_, rfl⟩
    rw [hok] at HT
    clear hok ht2 hb2 HB1
    obtain ⟨w3, hw3⟩ : ∃ x, x = w2.alloc (.cells #[.string ⟨#[79, 98, 106, 101, 99, 116]⟩, .string ⟨#[70, 97, 117, 108, 116]⟩, .string ⟨#[78, 117, 108, 108, 70, 97, 117, 108, 116]⟩, .string ⟨#[66, 111, 117, 110, 100, 115, 70, 97, 117, 108, 116]⟩, .string ⟨#[67, 97, 115, 116, 70, 97, 117, 108, 116]⟩, .string ⟨#[90, 101, 114, 111, 70, 97, 117, 108, 116]⟩, .string ⟨#[83, 105, 122, 101, 70, 97, 117, 108, 116]⟩] 9) := ⟨_, rfl⟩
    have HX3 : Hid (w3.heap[w2.heap.size]? = some (.cells #[.string ⟨#[79, 98, 106, 101, 99, 116]⟩, .string ⟨#[70, 97, 117, 108, 116]⟩, .string ⟨#[78, 117, 108, 108, 70, 97, 117, 108, 116]⟩, .string ⟨#[66, 111, 117, 110, 100, 115, 70, 97, 117, 108, 116]⟩, .string ⟨#[67, 97, 115, 116, 70, 97, 117, 108, 116]⟩, .string ⟨#[90, 101, 114, 111, 70, 97, 117, 108, 116]⟩, .string ⟨#[83, 105, 122, 101, 70, 97, 117, 108, 116]⟩] 9 (0, 0))) := Lib.hid (by rw [hw3]; exact heap_alloc_new _ _)
    have HB3 : Hid (Below w2.heap.size w2 w3) := Lib.hid (by rw [hw3]; exact below_alR _ _)
    go_upto_region 7 with fail
    rw [← hw3]
    clear hw3
    obtain ⟨tt, htt⟩ : ∃ x, w2.heap.size = x := ⟨_, rfl⟩
    rw [htt] at HX3 ⊢
    clear htt
    go_upto_region 8 with fail
    obtain ⟨a, ha, ha7⟩ := mod7 n
    obtain ⟨b, hb, hb7⟩ := mod7 m
    rw [ha, hb]
    clear ha hb
    obtain ⟨x, hx⟩ : ∃ x, blT[a]? = some x := ⟨_, List.getElem?_eq_getElem (show a < blT.length from ha7)⟩
    obtain ⟨y, hy⟩ : ∃ y, blT[b]? = some y := ⟨_, List.getElem?_eq_getElem (show b < blT.length from hb7)⟩
    obtain ⟨r1, r2, r3, r4, r5⟩ := bl_all ⟨a, ha7⟩ ⟨b, hb7⟩ x y hx hy
    obtain ⟨-, -, -, -, r6⟩ := bl_all ⟨b, hb7⟩ ⟨a, ha7⟩ y x hy hx
    dsimp only at r1 r2
    obtain ⟨sx, hsx⟩ := Option.isSome_iff_exists.1 r4
    have hszx := sz_small r5
    have hszy := sz_small r6
    have HX := Lib.hid hx
    have HY := Lib.hid hy
    have q0 := bl_at HX3.out hx
    have tl := (Array.getElem?_eq_some_iff.1 HX3.out).1
    have HSX := Lib.hid hsx
    have a0 : (0 : Int) ≤ (a : Int) := by omega
    have a1 : (a : Int) < 7 := by omega
    clear hx hy hsx r5 r6
    go_wp2_with fail
    refine (Class_t ok tb mb vs _ x w3 (HT.out.below HB3.out) hszx (fun c hc => by cases hc)).mono ?_
    rw [find_blt HSX.out]
    rintro e w4 ⟨pi, ni, ci, pf, nf, cf, pm, nm, cm, rfl, hco, hb4⟩
    obtain ⟨vi, vf, vm, e, -, -, rs, ho, h2⟩ := hco
    obtain ⟨px, cx, e2, -⟩ := ho.rd.len
    have hrs : rs = [] := List.eq_nil_of_length_eq_zero (by rw [h2.len]; rfl)
    subst hrs
    simp only [Option.getD_some, List.cons.injEq, and_true, true_and] at e
    obtain ⟨-, -, rfl⟩ := e
    simp only [Value.slice.injEq, List.length_nil] at e2
    obtain ⟨rfl, rfl, rfl⟩ := e2
    simp only [Option.getD_some, Option.isSome_some]
    have HB4 := Lib.hid (HB3.out.trans (hb4.mono HB3.out.size))
    have hX4 := (hb4.block _ tl).trans HX3.out
    obtain ⟨w5, hw5⟩ : ∃ W, W = w4.alloc (.cells #[.string x, .string sx, .slice pi ni ci, .int .i64 1, .slice pf nf cf, .slice pm 0 cm] 37) := ⟨_, rfl⟩
    have HB5 : Hid (Below w2.heap.size w2 w5) := Lib.hid (by rw [hw5]; exact HB4.out.trans ((below_alR _ _).mono HB4.out.size))
    have HX5 : Hid (w5.heap[tt]? = some (.cells #[.string ⟨#[79, 98, 106, 101, 99, 116]⟩, .string ⟨#[70, 97, 117, 108, 116]⟩, .string ⟨#[78, 117, 108, 108, 70, 97, 117, 108, 116]⟩, .string ⟨#[66, 111, 117, 110, 100, 115, 70, 97, 117, 108, 116]⟩, .string ⟨#[67, 97, 115, 116, 70, 97, 117, 108, 116]⟩, .string ⟨#[90, 101, 114, 111, 70, 97, 117, 108, 116]⟩, .string ⟨#[83, 105, 122, 101, 70, 97, 117, 108, 116]⟩] 9 (0, 0))) := Lib.hid (by rw [hw5, (below_alR w4 _).block _ (by have := hb4.size; omega)]; exact hX4)
    have HC5 : Hid (w5.heap[w4.heap.size]? = some (.cells #[.string x, .string sx, .slice pi ni ci, .int .i64 1, .slice pf nf cf, .slice pm 0 cm] 37 (0, 0))) := Lib.hid (by rw [hw5]; exact heap_alloc_new _ _)
    clear hb4 hX4 HB4 HX3 HB3 q0 tl ho h2
    go_upto_region 9 with fail
    rw [← hw5]
    clear hw5
    obtain ⟨bx, hbx⟩ : ∃ x, w4.heap.size = x := ⟨_, rfl⟩
    rw [hbx] at HC5 ⊢
    clear hbx
    go_wp2_with fail
    go_loopw [13, 14] (fun v u wr => ∃ i : Nat, u = .int .i64 (i : Int) ∧ i ≤ 7 ∧ v = .bool (S.hasB (blT.take i) s) ∧ wr = w5) (fun _ u _ => 7 - (intOf u).toNat)
    case atStart => exact ⟨0, rfl, by omega, by rw [List.take_zero]; rfl, rfl⟩
    case round =>
      obtain ⟨i, rfl, hi, rfl, rfl⟩ := hrel
      by_cases hlt : i < 7
      · obtain ⟨z, hz⟩ : ∃ z, blT[i]? = some z := ⟨_, List.getElem?_eq_getElem (show i < blT.length from hlt)⟩
        have q0 := bl_at HX5.out hz
        have i0 : (0 : Int) ≤ (i : Int) := by omega
        have i1 : (i : Int) < 7 := by omega
        have HN : Hid (S.hasB (blT.take (i + 1)) s = (S.hasB (blT.take i) s || decide (z = s))) := Lib.hid (by
          obtain ⟨hi', e⟩ := List.getElem?_eq_some_iff.1 hz
          rw [List.take_succ_eq_append_getElem hi', e]
          unfold S.hasB
          by_cases h1 : s ∈ blT.take i
          · simp [h1]
          · by_cases h2 : z = s
            · simp [h2]
            · have h3 : ¬ s = z := fun e => h2 e.symm
              simp [h1, h2, h3])
        clear hz
        cases hin : S.hasB (blT.take i) s with
        | true =>
          have HN2 : Hid (S.hasB (blT.take (i + 1)) s = true) := Lib.hid (by rw [HN.out, hin]; rfl)
          go_wp2_with fail
          go_roundw
          case rel => exact ⟨i + 1, by go_num, by omega, by rw [HN2.out], by first | rfl | trivial⟩
          case measure => simp [intOf]; omega
        | false =>
          by_cases hzs : z = s
          · have HN2 : Hid (S.hasB (blT.take (i + 1)) s = true) := Lib.hid (by rw [HN.out, hin, decide_eq_true hzs]; rfl)
            have he := Go.Proofs.Ytghihbjcjobdoaa.txt_eq hzs
            clear hzs
            go_wp2_with fail
            go_roundw
            case rel => exact ⟨i + 1, by go_num, by omega, by rw [HN2.out], by first | rfl | trivial⟩
            case measure => simp [intOf]; omega
          · have HN2 : Hid (S.hasB (blT.take (i + 1)) s = false) := Lib.hid (by rw [HN.out, hin, decide_eq_false hzs]; rfl)
            have he := Go.Proofs.Ytghihbjcjobdoaa.txt_ne hzs
            clear hzs
            go_wp2_with fail
            go_roundw
            case rel => exact ⟨i + 1, by go_num, by omega, by rw [HN2.out], by first | rfl | trivial⟩
            case measure => simp [intOf]; omega
      · have hlt' : ¬ (i : Int) < 7 := by omega
        have hi7 : i = 7 := by omega
        rw [show blT.take i = blT by rw [hi7]; rfl]
        clear hi7
        obtain ⟨kin, hkin⟩ : ∃ x, S.hasB blT s = x := ⟨_, rfl⟩
        rw [hkin]
        go_upto_region 14 with fail
        clear hlt hi hlt'
        go_cut [15] from 52 to 66 (fun v wx => v = .bool (subF a b) ∧ wx = wr)
        case first =>
          by_cases h1 : a = b
          · subst h1
            have hv : Hid (subF a a = true) := Lib.hid (by unfold subF; simp)
            go_wp2_with fail
            go_meet
            exact ⟨by rw [hv.out], rfl⟩
          · have e1 : ((a : Int) == (b : Int)) = false := beq_eq_false_iff_ne.2 (by omega)
            by_cases h2 : b = 0
            · subst h2
              have hv : Hid (subF a 0 = true) := Lib.hid (by unfold subF; simp)
              have e5 : ((a : Int) == 0) = false := e1
              clear h1
              go_wp2_with fail
              go_meet
              exact ⟨by rw [hv.out], rfl⟩
            · have e2 : ((b : Int) == 0) = false := beq_eq_false_iff_ne.2 (by omega)
              by_cases h3 : b = 1
              · subst h3
                have e5 : ((a : Int) == 1) = false := e1
                by_cases h4 : 1 < a
                · have hv : Hid (subF a 1 = true) := Lib.hid (by unfold subF; simp [h4])
                  have e4 : (1 : Int) < (a : Int) := by omega
                  clear h1 h2
                  go_wp2_with fail
                  go_meet
                  exact ⟨by rw [hv.out], rfl⟩
                · have hv : Hid (subF a 1 = false) := Lib.hid (by unfold subF; simp [h1, h4])
                  have e4 : ¬ (1 : Int) < (a : Int) := by omega
                  clear h1 h2
                  go_wp2_with fail
                  go_meet
                  exact ⟨by rw [hv.out], rfl⟩
              · have e3 : ((b : Int) == 1) = false := beq_eq_false_iff_ne.2 (by omega)
                have hv : Hid (subF a b = false) := Lib.hid (by unfold subF; simp [h1, h2, h3])
                clear h1 h2 h3
                go_wp2_with fail
                go_meet
                exact ⟨by rw [hv.out], rfl⟩
        case rest =>
          obtain ⟨rfl, rfl⟩ := hcut
          obtain ⟨sv, hsv⟩ : ∃ v, subF a b = v := ⟨_, rfl⟩
          rw [hsv] at r1 ⊢
          have hks : knownT [] s = kin := by rw [bl_known]; exact hkin
          have hbs : (bltS s).isSome = kin := by rw [bl_some]; exact hkin
          have hkx : knownT [] x = true := by rw [bl_known]; exact S.hasB_in (List.mem_of_getElem? HX.out)
          have b0 : (0 : Int) ≤ (b : Int) := by omega
          have b1 : (b : Int) < 7 := by omega
          obtain ⟨mq, hmq⟩ : ∃ q, min a 2 = q := ⟨_, rfl⟩
          rw [hmq] at r2
          have hif : (if (2 : Int) < (a : Int) then (2 : Int) else (a : Int)) = (mq : Int) := by rw [← hmq]; split <;> omega
          have hwr : IntKind.i64.wrap ((mq : Int) + 1) = (mq : Int) + 1 := IntWalk.i64_in _ (by omega)
          clear hmq
          have Hr1 := Lib.hid r1
          have Hr2 := Lib.hid r2
          have Hr3 := Lib.hid r3
          have Hr4 := Lib.hid r4
          have Hhks := Lib.hid hks
          have Hhbs := Lib.hid hbs
          have Hhkx := Lib.hid hkx
          have HE : Hid ((keepL []).map skOf = []) := Lib.hid rfl
          have tl5 := (Array.getElem?_eq_some_iff.1 HX5.out).1
          have bl5 := (Array.getElem?_eq_some_iff.1 HC5.out).1
          obtain ⟨-, xc, -⟩ := boxN HC5.out
          have x35 := xc 3 _ rfl
          have x55 := xc 5 _ rfl
          simp only [Nat.zero_add] at x35 x55
          have q05 := bl_at HX5.out HX.out
          have q15 := bl_at HX5.out HY.out
          have HBd : Hid (Below w2.heap.size w2 wc.drew) := Lib.hid (HB5.out.trans ((below_drU wc).mono HB5.out.size))
          have HQ : Hid (wc.drew.cell? ⟨tt, a, none⟩ = some (.string x) ∧ wc.drew.cell? ⟨tt, b, none⟩ = some (.string y) ∧ wc.drew.cell? ⟨bx, 3, none⟩ = some (.int .i64 1) ∧ wc.drew.cell? ⟨bx, 5, none⟩ = some (.slice pm 0 cm) ∧ tt < wc.drew.heap.size ∧ bx < wc.drew.heap.size) := Lib.hid ⟨q05, q15, x35, x55, tl5, bl5⟩
          clear hsv hks hbs hkx r1 r2 r3 r4 xc hkin tl5 bl5 q05 q15 x35 x55 HX5 HC5 HB5
          go_upto_region 15 with fail
          refine wp_region_held_drew (S := fun W => W.cell? ⟨tt, a, none⟩ = some (.string x) ∧ W.cell? ⟨tt, b, none⟩ = some (.string y) ∧ W.cell? ⟨bx, 3, none⟩ = some (.int .i64 1) ∧ W.cell? ⟨bx, 5, none⟩ = some (.slice pm 0 cm)) (by kernel_rfl) ⟨HQ.out.1, HQ.out.2.1, HQ.out.2.2.1, HQ.out.2.2.2.1⟩ (fun hHeld => ?_)
          refine wpAnyH_take (i := 0) (oi := _) (v := ?_) (by simp only [List.getElem?_toArray, List.getElem?_cons_zero]; rfl) (by kernel_rfl) (by kernel_rfl) (by kernel_rfl) (by intro _ _ _ h; exact h) (Or.inl ⟨by rfl, fun W hSw => ?_⟩) hHeld ?_
          rotate_left 1
          · (clear hSw; first | (go_simp; done) | (go_simp; with_reducible rfl))
          try go_frame
          refine wpAnyH_take (i := 1) (oi := _) (v := ?_) (by simp only [List.getElem?_toArray, List.getElem?_cons_succ, List.getElem?_cons_zero]; rfl) (by kernel_rfl) (by kernel_rfl) (by kernel_rfl) (by intro _ _ _ h; exact h) (Or.inl ⟨by rfl, fun W hSw => ?_⟩) hHeld ?_
          rotate_left 1
          · (clear hSw; first | (go_simp; done) | (go_simp; with_reducible rfl))
          try go_frame
          refine wpAnyH_take (i := 2) (oi := _) (v := ?_) (by simp only [List.getElem?_toArray, List.getElem?_cons_succ, List.getElem?_cons_zero]; rfl) (by kernel_rfl) (by kernel_rfl) (by kernel_rfl) (by intro _ _ _ h; exact h) (Or.inl ⟨by rfl, fun W hSw => ?_⟩) hHeld ?_
          rotate_left 1
          · (clear hSw; first | (go_simp; done) | (go_simp; with_reducible rfl))
          try go_frame
          refine wpAnyH_take (i := 3) (oi := _) (v := ?_) (by simp only [List.getElem?_toArray, List.getElem?_cons_succ, List.getElem?_cons_zero]; rfl) (by kernel_rfl) (by kernel_rfl) (by kernel_rfl) (by intro _ _ _ h; exact h) (Or.inl ⟨by rfl, fun W hSw => ?_⟩) hHeld ?_
          rotate_left 1
          · (try dsimp only at hSw); first | (go_simp; done) | (go_simp; with_reducible rfl)
          try go_frame
          refine wpAnyH_take (i := 4) (oi := _) (v := ?_) (by simp only [List.getElem?_toArray, List.getElem?_cons_succ, List.getElem?_cons_zero]; rfl) (by kernel_rfl) (by kernel_rfl) (by kernel_rfl) (by intro _ _ _ h; exact h) (Or.inl ⟨by rfl, fun W hSw => ?_⟩) hHeld ?_
          rotate_left 1
          · (clear hSw; first | (go_simp; done) | (go_simp; with_reducible rfl))
          try go_frame
          refine wpAnyH_take (i := 5) (oi := _) (v := ?_) (by simp only [List.getElem?_toArray, List.getElem?_cons_succ, List.getElem?_cons_zero]; rfl) (by kernel_rfl) (by kernel_rfl) (by kernel_rfl) (by intro _ _ _ h; exact h) (Or.inl ⟨by rfl, fun W hSw => ?_⟩) hHeld ?_
          rotate_left 1
          · (clear hSw; first | (go_simp; done) | (go_simp; with_reducible rfl))
          try go_frame
          refine wpAnyH_take (i := 6) (oi := _) (v := ?_) (by simp only [List.getElem?_toArray, List.getElem?_cons_succ, List.getElem?_cons_zero]; rfl) (by kernel_rfl) (by kernel_rfl) (by kernel_rfl) (by intro _ _ _ h; exact h) (Or.inl ⟨by rfl, fun W hSw => ?_⟩) hHeld ?_
          rotate_left 1
          · (clear hSw; first | (go_simp; done) | (go_simp; with_reducible rfl))
          try go_frame
          refine wpAnyH_take (i := 7) (oi := _) (v := ?_) (by simp only [List.getElem?_toArray, List.getElem?_cons_succ, List.getElem?_cons_zero]; rfl) (by kernel_rfl) (by kernel_rfl) (by kernel_rfl) (by intro _ _ _ h; exact h) (Or.inl ⟨by rfl, fun W hSw => ?_⟩) hHeld ?_
          rotate_left 1
          · (clear hSw; first | (go_simp; done) | (go_simp; with_reducible rfl))
          try go_frame
          refine wpAnyH_take (i := 8) (oi := _) (v := ?_) (by simp only [List.getElem?_toArray, List.getElem?_cons_succ, List.getElem?_cons_zero]; rfl) (by kernel_rfl) (by kernel_rfl) (by kernel_rfl) (by intro _ _ _ h; exact h) (Or.inl ⟨by rfl, fun W hSw => ?_⟩) hHeld ?_
          rotate_left 1
          · (try dsimp only at hSw); first | (go_simp; done) | (go_simp; with_reducible rfl)
          try go_frame
          refine wpAnyH_take (i := 9) (oi := _) (v := ?_) (by simp only [List.getElem?_toArray, List.getElem?_cons_succ, List.getElem?_cons_zero]; rfl) (by kernel_rfl) (by kernel_rfl) (by kernel_rfl) (by intro _ _ _ h; exact h) (Or.inl ⟨by rfl, fun W hSw => ?_⟩) hHeld ?_
          rotate_left 1
          · (clear hSw; first | (go_simp; done) | (go_simp; with_reducible rfl))
          try go_frame
          refine wpAnyH_take (i := 10) (oi := _) (v := ?_) (by simp only [List.getElem?_toArray, List.getElem?_cons_succ, List.getElem?_cons_zero]; rfl) (by kernel_rfl) (by kernel_rfl) (by kernel_rfl) (by intro _ _ _ h; exact h) (Or.inl ⟨by rfl, fun W hSw => ?_⟩) hHeld ?_
          rotate_left 1
          · (clear hSw; first | (go_simp; done) | (go_simp; with_reducible rfl))
          try go_frame
          refine wpAnyH_take (i := 11) (oi := _) (v := ?_) (by simp only [List.getElem?_toArray, List.getElem?_cons_succ, List.getElem?_cons_zero]; rfl) (by kernel_rfl) (by kernel_rfl) (by kernel_rfl) (by intro _ _ _ h; exact h) (Or.inl ⟨by rfl, fun W hSw => ?_⟩) hHeld ?_
          rotate_left 1
          · (clear hSw; first | (go_simp; done) | (go_simp; with_reducible rfl))
          try go_frame
          refine wpAnyH_take (i := 12) (oi := _) (v := ?_) (by simp only [List.getElem?_toArray, List.getElem?_cons_succ, List.getElem?_cons_zero]; rfl) (by kernel_rfl) (by kernel_rfl) (by kernel_rfl) (by intro _ _ _ h; exact h) (Or.inl ⟨by rfl, fun W hSw => ?_⟩) hHeld ?_
          rotate_left 1
          · (clear hSw; first | (go_simp; done) | (go_simp; with_reducible rfl))
          try go_frame
          refine wpAnyH_take (i := 13) (oi := _) (v := ?_) (by simp only [List.getElem?_toArray, List.getElem?_cons_succ, List.getElem?_cons_zero]; rfl) (by kernel_rfl) (by kernel_rfl) (by kernel_rfl) (by intro _ _ _ h; exact h) (Or.inl ⟨by rfl, fun W hSw => ?_⟩) hHeld ?_
          rotate_left 1
          · (clear hSw; first | (go_simp; done) | (go_simp; with_reducible rfl))
          try go_frame
          refine wpAnyH_take (i := 14) (oi := _) (v := ?_) (by simp only [List.getElem?_toArray, List.getElem?_cons_succ, List.getElem?_cons_zero]; rfl) (by kernel_rfl) (by kernel_rfl) (by kernel_rfl) (by intro _ _ _ h; exact h) (Or.inl ⟨by rfl, fun W hSw => ?_⟩) hHeld ?_
          rotate_left 1
          · (clear hSw; first | (go_simp; done) | (go_simp; with_reducible rfl))
          try go_frame
          refine wpAnyH_take (i := 15) (oi := _) (v := ?_) (by simp only [List.getElem?_toArray, List.getElem?_cons_succ, List.getElem?_cons_zero]; rfl) (by kernel_rfl) (by kernel_rfl) (by kernel_rfl) (by intro _ _ _ h; exact h) (Or.inl ⟨by rfl, fun W hSw => ?_⟩) hHeld ?_
          rotate_left 1
          · (clear hSw; first | (go_simp; done) | (go_simp; with_reducible rfl))
          try go_frame
          refine wpAnyH_take (i := 16) (oi := _) (v := ?_) (by simp only [List.getElem?_toArray, List.getElem?_cons_succ, List.getElem?_cons_zero]; rfl) (by kernel_rfl) (by kernel_rfl) (by kernel_rfl) (by intro _ _ _ h; exact h) (Or.inl ⟨by rfl, fun W hSw => ?_⟩) hHeld ?_
          rotate_left 1
          · (clear hSw; first | (go_simp; done) | (go_simp; with_reducible rfl))
          try go_frame
          refine wpAnyH_take (i := 17) (oi := _) (v := ?_) (by simp only [List.getElem?_toArray, List.getElem?_cons_succ, List.getElem?_cons_zero]; rfl) (by kernel_rfl) (by kernel_rfl) (by kernel_rfl) (by intro _ _ _ h; exact h) (Or.inl ⟨by rfl, fun W hSw => ?_⟩) hHeld ?_
          rotate_left 1
          · (try dsimp only at hSw); first | (go_simp; done) | (go_simp; with_reducible rfl)
          try go_frame
          refine wpAnyH_ready (rs := [18]) (by kernel_rfl) (by simp) ?_
          refine AllReadyH.cons (o := _) (by simp only [List.getElem?_toArray, List.getElem?_cons_succ, List.getElem?_cons_zero]; rfl) (fun K hK => ?_) AllReadyH.nil
          clear hHeld
          go_simp
          refine (known_t ok tb mb vs _ x _ (HT.out.below HBd.out) hszx).mono ?_
          rw [HE.out, Hhkx.out]
          rintro e wn ⟨rfl, hb⟩
          replace HBd := Lib.hid (HBd.out.trans (hb.mono HBd.out.size))
          obtain ⟨u0, u1, u3, u5, ut, ub⟩ := HQ.out
          have HQ2 := Lib.hid (⟨(hb.cell (p := ⟨tt, a, none⟩) ut).trans u0, (hb.cell (p := ⟨tt, b, none⟩) ut).trans u1, (hb.cell (p := ⟨bx, 3, none⟩) ub).trans u3, (hb.cell (p := ⟨bx, 5, none⟩) ub).trans u5, Nat.lt_of_lt_of_le ut hb.size, Nat.lt_of_lt_of_le ub hb.size⟩ : wn.cell? ⟨tt, a, none⟩ = some (.string x) ∧ wn.cell? ⟨tt, b, none⟩ = some (.string y) ∧ wn.cell? ⟨bx, 3, none⟩ = some (.int .i64 1) ∧ wn.cell? ⟨bx, 5, none⟩ = some (.slice pm 0 cm) ∧ tt < wn.heap.size ∧ bx < wn.heap.size)
          clear hb u0 u1 u3 u5 ut ub HQ
          have HQ := HQ2
          clear HQ2
          refine hK.out _ _ ⟨HQ.out.1, HQ.out.2.1, HQ.out.2.2.1, HQ.out.2.2.2.1⟩ (fun hHeld => ?_)
          clear hK K
          try go_frame
          refine wpAnyH_take (i := 19) (oi := _) (v := ?_) (by simp only [List.getElem?_toArray, List.getElem?_cons_succ, List.getElem?_cons_zero]; rfl) (by kernel_rfl) (by kernel_rfl) (by kernel_rfl) (by intro _ _ _ h; exact h) (Or.inl ⟨by rfl, fun W hSw => ?_⟩) hHeld ?_
          rotate_left 1
          · (clear hSw; first | (go_simp; done) | (go_simp; with_reducible rfl))
          try go_frame
          refine wpAnyH_take (i := 20) (oi := _) (v := ?_) (by simp only [List.getElem?_toArray, List.getElem?_cons_succ, List.getElem?_cons_zero]; rfl) (by kernel_rfl) (by kernel_rfl) (by kernel_rfl) (by intro _ _ _ h; exact h) (Or.inl ⟨by rfl, fun W hSw => ?_⟩) hHeld ?_
          rotate_left 1
          · (clear hSw; first | (go_simp; done) | (go_simp; with_reducible rfl))
          try go_frame
          refine wpAnyH_take (i := 21) (oi := _) (v := ?_) (by simp only [List.getElem?_toArray, List.getElem?_cons_succ, List.getElem?_cons_zero]; rfl) (by kernel_rfl) (by kernel_rfl) (by kernel_rfl) (by intro _ _ _ h; exact h) (Or.inl ⟨by rfl, fun W hSw => ?_⟩) hHeld ?_
          rotate_left 1
          · (clear hSw; first | (go_simp; done) | (go_simp; with_reducible rfl))
          try go_frame
          refine wpAnyH_take (i := 22) (oi := _) (v := ?_) (by simp only [List.getElem?_toArray, List.getElem?_cons_succ, List.getElem?_cons_zero]; rfl) (by kernel_rfl) (by kernel_rfl) (by kernel_rfl) (by intro _ _ _ h; exact h) (Or.inl ⟨by rfl, fun W hSw => ?_⟩) hHeld ?_
          rotate_left 1
          · (clear hSw; first | (go_simp; done) | (go_simp; with_reducible rfl))
          try go_frame
          refine wpAnyH_take (i := 23) (oi := _) (v := ?_) (by simp only [List.getElem?_toArray, List.getElem?_cons_succ, List.getElem?_cons_zero]; rfl) (by kernel_rfl) (by kernel_rfl) (by kernel_rfl) (by intro _ _ _ h; exact h) (Or.inl ⟨by rfl, fun W hSw => ?_⟩) hHeld ?_
          rotate_left 1
          · (clear hSw; first | (go_simp; done) | (go_simp; with_reducible rfl))
          try go_frame
          refine wpAnyH_take (i := 24) (oi := _) (v := ?_) (by simp only [List.getElem?_toArray, List.getElem?_cons_succ, List.getElem?_cons_zero]; rfl) (by kernel_rfl) (by kernel_rfl) (by kernel_rfl) (by intro _ _ _ h; exact h) (Or.inl ⟨by rfl, fun W hSw => ?_⟩) hHeld ?_
          rotate_left 1
          · (try dsimp only at hSw); first | (go_simp; done) | (go_simp; with_reducible rfl)
          try go_frame
          refine wpAnyH_ready (rs := [25]) (by kernel_rfl) (by simp) ?_
          refine AllReadyH.cons (o := _) (by simp only [List.getElem?_toArray, List.getElem?_cons_succ, List.getElem?_cons_zero]; rfl) (fun K hK => ?_) AllReadyH.nil
          clear hHeld
          go_simp
          refine (builtin_t x _).mono ?_
          rw [Hr4.out]
          rintro e wn ⟨rfl, hb⟩
          replace HBd := Lib.hid (HBd.out.trans (hb.mono HBd.out.size))
          obtain ⟨u0, u1, u3, u5, ut, ub⟩ := HQ.out
          have HQ2 := Lib.hid (⟨(hb.cell (p := ⟨tt, a, none⟩) ut).trans u0, (hb.cell (p := ⟨tt, b, none⟩) ut).trans u1, (hb.cell (p := ⟨bx, 3, none⟩) ub).trans u3, (hb.cell (p := ⟨bx, 5, none⟩) ub).trans u5, Nat.lt_of_lt_of_le ut hb.size, Nat.lt_of_lt_of_le ub hb.size⟩ : wn.cell? ⟨tt, a, none⟩ = some (.string x) ∧ wn.cell? ⟨tt, b, none⟩ = some (.string y) ∧ wn.cell? ⟨bx, 3, none⟩ = some (.int .i64 1) ∧ wn.cell? ⟨bx, 5, none⟩ = some (.slice pm 0 cm) ∧ tt < wn.heap.size ∧ bx < wn.heap.size)
          clear hb u0 u1 u3 u5 ut ub HQ
          have HQ := HQ2
          clear HQ2
          refine hK.out _ _ ⟨HQ.out.1, HQ.out.2.1, HQ.out.2.2.1, HQ.out.2.2.2.1⟩ (fun hHeld => ?_)
          clear hK K
          try go_frame
          refine wpAnyH_take (i := 26) (oi := _) (v := ?_) (by simp only [List.getElem?_toArray, List.getElem?_cons_succ, List.getElem?_cons_zero]; rfl) (by kernel_rfl) (by kernel_rfl) (by kernel_rfl) (by intro _ _ _ h; exact h) (Or.inl ⟨by rfl, fun W hSw => ?_⟩) hHeld ?_
          rotate_left 1
          · (clear hSw; first | (go_simp; done) | (go_simp; with_reducible rfl))
          try go_frame
          refine wpAnyH_take (i := 27) (oi := _) (v := ?_) (by simp only [List.getElem?_toArray, List.getElem?_cons_succ, List.getElem?_cons_zero]; rfl) (by kernel_rfl) (by kernel_rfl) (by kernel_rfl) (by intro _ _ _ h; exact h) (Or.inl ⟨by rfl, fun W hSw => ?_⟩) hHeld ?_
          rotate_left 1
          · (clear hSw; first | (go_simp; done) | (go_simp; with_reducible rfl))
          try go_frame
          refine wpAnyH_take (i := 28) (oi := _) (v := ?_) (by simp only [List.getElem?_toArray, List.getElem?_cons_succ, List.getElem?_cons_zero]; rfl) (by kernel_rfl) (by kernel_rfl) (by kernel_rfl) (by intro _ _ _ h; exact h) (Or.inl ⟨by rfl, fun W hSw => ?_⟩) hHeld ?_
          rotate_left 1
          · (clear hSw; first | (go_simp; done) | (go_simp; with_reducible rfl))
          try go_frame
          refine wpAnyH_take (i := 29) (oi := _) (v := ?_) (by simp only [List.getElem?_toArray, List.getElem?_cons_succ, List.getElem?_cons_zero]; rfl) (by kernel_rfl) (by kernel_rfl) (by kernel_rfl) (by intro _ _ _ h; exact h) (Or.inl ⟨by rfl, fun W hSw => ?_⟩) hHeld ?_
          rotate_left 1
          · (clear hSw; first | (go_simp; done) | (go_simp; with_reducible rfl))
          try go_frame
          refine wpAnyH_take (i := 30) (oi := _) (v := ?_) (by simp only [List.getElem?_toArray, List.getElem?_cons_succ, List.getElem?_cons_zero]; rfl) (by kernel_rfl) (by kernel_rfl) (by kernel_rfl) (by intro _ _ _ h; exact h) (Or.inl ⟨by rfl, fun W hSw => ?_⟩) hHeld ?_
          rotate_left 1
          · (clear hSw; first | (go_simp; done) | (go_simp; with_reducible rfl))
          try go_frame
          refine wpAnyH_take (i := 31) (oi := _) (v := ?_) (by simp only [List.getElem?_toArray, List.getElem?_cons_succ, List.getElem?_cons_zero]; rfl) (by kernel_rfl) (by kernel_rfl) (by kernel_rfl) (by intro _ _ _ h; exact h) (Or.inl ⟨by rfl, fun W hSw => ?_⟩) hHeld ?_
          rotate_left 1
          · (clear hSw; first | (go_simp; done) | (go_simp; with_reducible rfl))
          try go_frame
          refine wpAnyH_take (i := 32) (oi := _) (v := ?_) (by simp only [List.getElem?_toArray, List.getElem?_cons_succ, List.getElem?_cons_zero]; rfl) (by kernel_rfl) (by kernel_rfl) (by kernel_rfl) (by intro _ _ _ h; exact h) (Or.inl ⟨by rfl, fun W hSw => ?_⟩) hHeld ?_
          rotate_left 1
          · (try dsimp only at hSw); first | (go_simp; done) | (go_simp; with_reducible rfl)
          try go_frame
          refine wpAnyH_take (i := 33) (oi := _) (v := ?_) (by simp only [List.getElem?_toArray, List.getElem?_cons_succ, List.getElem?_cons_zero]; rfl) (by kernel_rfl) (by kernel_rfl) (by kernel_rfl) (by intro _ _ _ h; exact h) (Or.inl ⟨by rfl, fun W hSw => ?_⟩) hHeld ?_
          rotate_left 1
          · (clear hSw; first | (go_simp; done) | (go_simp; with_reducible rfl))
          try go_frame
          refine wpAnyH_take (i := 34) (oi := _) (v := ?_) (by simp only [List.getElem?_toArray, List.getElem?_cons_succ, List.getElem?_cons_zero]; rfl) (by kernel_rfl) (by kernel_rfl) (by kernel_rfl) (by intro _ _ _ h; exact h) (Or.inl ⟨by rfl, fun W hSw => ?_⟩) hHeld ?_
          rotate_left 1
          · (clear hSw; first | (go_simp; done) | (go_simp; with_reducible rfl))
          try go_frame
          refine wpAnyH_take (i := 35) (oi := _) (v := ?_) (by simp only [List.getElem?_toArray, List.getElem?_cons_succ, List.getElem?_cons_zero]; rfl) (by kernel_rfl) (by kernel_rfl) (by kernel_rfl) (by intro _ _ _ h; exact h) (Or.inl ⟨by rfl, fun W hSw => ?_⟩) hHeld ?_
          rotate_left 1
          · (clear hSw; first | (go_simp; done) | (go_simp; with_reducible rfl))
          try go_frame
          refine wpAnyH_take (i := 36) (oi := _) (v := ?_) (by simp only [List.getElem?_toArray, List.getElem?_cons_succ, List.getElem?_cons_zero]; rfl) (by kernel_rfl) (by kernel_rfl) (by kernel_rfl) (by intro _ _ _ h; exact h) (Or.inl ⟨by rfl, fun W hSw => ?_⟩) hHeld ?_
          rotate_left 1
          · (try dsimp only at hSw); first | (go_simp; done) | (go_simp; with_reducible rfl)
          try go_frame
          refine wpAnyH_take (i := 38) (oi := _) (v := ?_) (by simp only [List.getElem?_toArray, List.getElem?_cons_succ, List.getElem?_cons_zero]; rfl) (by kernel_rfl) (by kernel_rfl) (by kernel_rfl) (by intro _ _ _ h; exact h) (Or.inl ⟨by rfl, fun W hSw => ?_⟩) hHeld ?_
          rotate_left 1
          · (clear hSw; first | (go_simp; done) | (go_simp; with_reducible rfl))
          try go_frame
          refine wpAnyH_ready (rs := [37]) (by kernel_rfl) (by simp) ?_
          refine AllReadyH.cons (o := _) (by simp only [List.getElem?_toArray, List.getElem?_cons_succ, List.getElem?_cons_zero]; rfl) (fun K hK => ?_) AllReadyH.nil
          clear hHeld
          go_simp
          refine (Sub_t ok tb mb vs _ x y _ (HT.out.below HBd.out) hszx hszy).mono ?_
          rw [HE.out, Hr1.out]
          rintro e wn ⟨rfl, hb⟩
          replace HBd := Lib.hid (HBd.out.trans (hb.mono HBd.out.size))
          obtain ⟨u0, u1, u3, u5, ut, ub⟩ := HQ.out
          have HQ2 := Lib.hid (⟨(hb.cell (p := ⟨tt, a, none⟩) ut).trans u0, (hb.cell (p := ⟨tt, b, none⟩) ut).trans u1, (hb.cell (p := ⟨bx, 3, none⟩) ub).trans u3, (hb.cell (p := ⟨bx, 5, none⟩) ub).trans u5, Nat.lt_of_lt_of_le ut hb.size, Nat.lt_of_lt_of_le ub hb.size⟩ : wn.cell? ⟨tt, a, none⟩ = some (.string x) ∧ wn.cell? ⟨tt, b, none⟩ = some (.string y) ∧ wn.cell? ⟨bx, 3, none⟩ = some (.int .i64 1) ∧ wn.cell? ⟨bx, 5, none⟩ = some (.slice pm 0 cm) ∧ tt < wn.heap.size ∧ bx < wn.heap.size)
          clear hb u0 u1 u3 u5 ut ub HQ
          have HQ := HQ2
          clear HQ2
          refine hK.out _ _ ⟨HQ.out.1, HQ.out.2.1, HQ.out.2.2.1, HQ.out.2.2.2.1⟩ (fun hHeld => ?_)
          clear hK K
          try go_frame
          refine wpAnyH_take (i := 39) (oi := _) (v := ?_) (by simp only [List.getElem?_toArray, List.getElem?_cons_succ, List.getElem?_cons_zero]; rfl) (by kernel_rfl) (by kernel_rfl) (by kernel_rfl) (by intro _ _ _ h; exact h) (Or.inl ⟨by rfl, fun W hSw => ?_⟩) hHeld ?_
          rotate_left 1
          · (clear hSw; first | (go_simp; done) | (go_simp; with_reducible rfl))
          try go_frame
          refine wpAnyH_take (i := 40) (oi := _) (v := ?_) (by simp only [List.getElem?_toArray, List.getElem?_cons_succ, List.getElem?_cons_zero]; rfl) (by kernel_rfl) (by kernel_rfl) (by kernel_rfl) (by intro _ _ _ h; exact h) (Or.inl ⟨by rfl, fun W hSw => ?_⟩) hHeld ?_
          rotate_left 1
          · (clear hSw; first | (go_simp; done) | (go_simp; with_reducible rfl))
          try go_frame
          refine wpAnyH_take (i := 41) (oi := _) (v := ?_) (by simp only [List.getElem?_toArray, List.getElem?_cons_succ, List.getElem?_cons_zero]; rfl) (by kernel_rfl) (by kernel_rfl) (by kernel_rfl) (by intro _ _ _ h; exact h) (Or.inl ⟨by rfl, fun W hSw => ?_⟩) hHeld ?_
          rotate_left 1
          · (clear hSw; first | (go_simp; done) | (go_simp; with_reducible rfl))
          try go_frame
          refine wpAnyH_take (i := 42) (oi := _) (v := ?_) (by simp only [List.getElem?_toArray, List.getElem?_cons_succ, List.getElem?_cons_zero]; rfl) (by kernel_rfl) (by kernel_rfl) (by kernel_rfl) (by intro _ _ _ h; exact h) (Or.inl ⟨by rfl, fun W hSw => ?_⟩) hHeld ?_
          rotate_left 1
          · (clear hSw; first | (go_simp; done) | (go_simp; with_reducible rfl))
          try go_frame
          refine wpAnyH_take (i := 43) (oi := _) (v := ?_) (by simp only [List.getElem?_toArray, List.getElem?_cons_succ, List.getElem?_cons_zero]; rfl) (by kernel_rfl) (by kernel_rfl) (by kernel_rfl) (by intro _ _ _ h; exact h) (Or.inl ⟨by rfl, fun W hSw => ?_⟩) hHeld ?_
          rotate_left 1
          · (clear hSw; first | (go_simp; done) | (go_simp; with_reducible rfl))
          try go_frame
          refine wpAnyH_take (i := 45) (oi := _) (v := ?_) (by simp only [List.getElem?_toArray, List.getElem?_cons_succ, List.getElem?_cons_zero]; rfl) (by kernel_rfl) (by kernel_rfl) (by kernel_rfl) (by intro _ _ _ h; exact h) (Or.inl ⟨by rfl, fun W hSw => ?_⟩) hHeld ?_
          rotate_left 1
          · (clear hSw; first | (go_simp; done) | (go_simp; with_reducible rfl))
          try go_frame
          refine wpAnyH_ready (rs := [44]) (by kernel_rfl) (by simp) ?_
          refine AllReadyH.cons (o := _) (by simp only [List.getElem?_toArray, List.getElem?_cons_succ, List.getElem?_cons_zero]; rfl) (fun K hK => ?_) AllReadyH.nil
          clear hHeld
          go_simp
          refine (known_t ok tb mb vs _ s _ (HT.out.below HBd.out) hs).mono ?_
          rw [HE.out, Hhks.out]
          rintro e wn ⟨rfl, hb⟩
          replace HBd := Lib.hid (HBd.out.trans (hb.mono HBd.out.size))
          obtain ⟨u0, u1, u3, u5, ut, ub⟩ := HQ.out
          have HQ2 := Lib.hid (⟨(hb.cell (p := ⟨tt, a, none⟩) ut).trans u0, (hb.cell (p := ⟨tt, b, none⟩) ut).trans u1, (hb.cell (p := ⟨bx, 3, none⟩) ub).trans u3, (hb.cell (p := ⟨bx, 5, none⟩) ub).trans u5, Nat.lt_of_lt_of_le ut hb.size, Nat.lt_of_lt_of_le ub hb.size⟩ : wn.cell? ⟨tt, a, none⟩ = some (.string x) ∧ wn.cell? ⟨tt, b, none⟩ = some (.string y) ∧ wn.cell? ⟨bx, 3, none⟩ = some (.int .i64 1) ∧ wn.cell? ⟨bx, 5, none⟩ = some (.slice pm 0 cm) ∧ tt < wn.heap.size ∧ bx < wn.heap.size)
          clear hb u0 u1 u3 u5 ut ub HQ
          have HQ := HQ2
          clear HQ2
          refine hK.out _ _ ⟨HQ.out.1, HQ.out.2.1, HQ.out.2.2.1, HQ.out.2.2.2.1⟩ (fun hHeld => ?_)
          clear hK K
          try go_frame
          refine wpAnyH_take (i := 46) (oi := _) (v := ?_) (by simp only [List.getElem?_toArray, List.getElem?_cons_succ, List.getElem?_cons_zero]; rfl) (by kernel_rfl) (by kernel_rfl) (by kernel_rfl) (by intro _ _ _ h; exact h) (Or.inl ⟨by rfl, fun W hSw => ?_⟩) hHeld ?_
          rotate_left 1
          · (clear hSw; first | (go_simp; done) | (go_simp; with_reducible rfl))
          try go_frame
          refine wpAnyH_take (i := 47) (oi := _) (v := ?_) (by simp only [List.getElem?_toArray, List.getElem?_cons_succ, List.getElem?_cons_zero]; rfl) (by kernel_rfl) (by kernel_rfl) (by kernel_rfl) (by intro _ _ _ h; exact h) (Or.inl ⟨by rfl, fun W hSw => ?_⟩) hHeld ?_
          rotate_left 1
          · (clear hSw; first | (go_simp; done) | (go_simp; with_reducible rfl))
          try go_frame
          refine wpAnyH_take (i := 48) (oi := _) (v := ?_) (by simp only [List.getElem?_toArray, List.getElem?_cons_succ, List.getElem?_cons_zero]; rfl) (by kernel_rfl) (by kernel_rfl) (by kernel_rfl) (by intro _ _ _ h; exact h) (Or.inl ⟨by rfl, fun W hSw => ?_⟩) hHeld ?_
          rotate_left 1
          · (clear hSw; first | (go_simp; done) | (go_simp; with_reducible rfl))
          try go_frame
          refine wpAnyH_take (i := 49) (oi := _) (v := ?_) (by simp only [List.getElem?_toArray, List.getElem?_cons_succ, List.getElem?_cons_zero]; rfl) (by kernel_rfl) (by kernel_rfl) (by kernel_rfl) (by intro _ _ _ h; exact h) (Or.inl ⟨by rfl, fun W hSw => ?_⟩) hHeld ?_
          rotate_left 1
          · (clear hSw; first | (go_simp; done) | (go_simp; with_reducible rfl))
          try go_frame
          refine wpAnyH_take (i := 51) (oi := _) (v := ?_) (by simp only [List.getElem?_toArray, List.getElem?_cons_succ, List.getElem?_cons_zero]; rfl) (by kernel_rfl) (by kernel_rfl) (by kernel_rfl) (by intro _ _ _ h; exact h) (Or.inl ⟨by rfl, fun W hSw => ?_⟩) hHeld ?_
          rotate_left 1
          · (clear hSw; first | (go_simp; done) | (go_simp; with_reducible rfl))
          try go_frame
          refine wpAnyH_ready (rs := [50]) (by kernel_rfl) (by simp) ?_
          refine AllReadyH.cons (o := _) (by simp only [List.getElem?_toArray, List.getElem?_cons_succ, List.getElem?_cons_zero]; rfl) (fun K hK => ?_) AllReadyH.nil
          clear hHeld
          go_simp
          refine (builtin_t s _).mono ?_
          rw [Hhbs.out]
          rintro e wn ⟨rfl, hb⟩
          replace HBd := Lib.hid (HBd.out.trans (hb.mono HBd.out.size))
          obtain ⟨u0, u1, u3, u5, ut, ub⟩ := HQ.out
          have HQ2 := Lib.hid (⟨(hb.cell (p := ⟨tt, a, none⟩) ut).trans u0, (hb.cell (p := ⟨tt, b, none⟩) ut).trans u1, (hb.cell (p := ⟨bx, 3, none⟩) ub).trans u3, (hb.cell (p := ⟨bx, 5, none⟩) ub).trans u5, Nat.lt_of_lt_of_le ut hb.size, Nat.lt_of_lt_of_le ub hb.size⟩ : wn.cell? ⟨tt, a, none⟩ = some (.string x) ∧ wn.cell? ⟨tt, b, none⟩ = some (.string y) ∧ wn.cell? ⟨bx, 3, none⟩ = some (.int .i64 1) ∧ wn.cell? ⟨bx, 5, none⟩ = some (.slice pm 0 cm) ∧ tt < wn.heap.size ∧ bx < wn.heap.size)
          clear hb u0 u1 u3 u5 ut ub HQ
          have HQ := HQ2
          clear HQ2
          refine hK.out _ _ ⟨HQ.out.1, HQ.out.2.1, HQ.out.2.2.1, HQ.out.2.2.2.1⟩ (fun hHeld => ?_)
          clear hK K
          try go_frame
          refine wpAnyH_take (i := 52) (oi := _) (v := ?_) (by simp only [List.getElem?_toArray, List.getElem?_cons_succ, List.getElem?_cons_zero]; rfl) (by kernel_rfl) (by kernel_rfl) (by kernel_rfl) (by intro _ _ _ h; exact h) (Or.inl ⟨by rfl, fun W hSw => ?_⟩) hHeld ?_
          rotate_left 1
          · (clear hSw; first | (go_simp; done) | (go_simp; with_reducible rfl))
          try go_frame
          refine wpAnyH_take (i := 53) (oi := _) (v := ?_) (by simp only [List.getElem?_toArray, List.getElem?_cons_succ, List.getElem?_cons_zero]; rfl) (by kernel_rfl) (by kernel_rfl) (by kernel_rfl) (by intro _ _ _ h; exact h) (Or.inl ⟨by rfl, fun W hSw => ?_⟩) hHeld ?_
          rotate_left 1
          · (clear hSw; first | (go_simp; done) | (go_simp; with_reducible rfl))
          try go_frame
          refine wpAnyH_take (i := 54) (oi := _) (v := ?_) (by simp only [List.getElem?_toArray, List.getElem?_cons_succ, List.getElem?_cons_zero]; rfl) (by kernel_rfl) (by kernel_rfl) (by kernel_rfl) (by intro _ _ _ h; exact h) (Or.inl ⟨by rfl, fun W hSw => ?_⟩) hHeld ?_
          rotate_left 1
          · (clear hSw; first | (go_simp; done) | (go_simp; with_reducible rfl))
          try go_frame
          refine wpAnyH_take (i := 55) (oi := _) (v := ?_) (by simp only [List.getElem?_toArray, List.getElem?_cons_succ, List.getElem?_cons_zero]; rfl) (by kernel_rfl) (by kernel_rfl) (by kernel_rfl) (by intro _ _ _ h; exact h) (Or.inl ⟨by rfl, fun W hSw => ?_⟩) hHeld ?_
          rotate_left 1
          · (clear hSw; first | (go_simp; done) | (go_simp; with_reducible rfl))
          try go_frame
          refine wpAnyH_take (i := 56) (oi := _) (v := ?_) (by simp only [List.getElem?_toArray, List.getElem?_cons_succ, List.getElem?_cons_zero]; rfl) (by kernel_rfl) (by kernel_rfl) (by kernel_rfl) (by intro _ _ _ h; exact h) (Or.inl ⟨by rfl, fun W hSw => ?_⟩) hHeld ?_
          rotate_left 1
          · (clear hSw; first | (go_simp; done) | (go_simp; with_reducible rfl))
          try go_frame
          refine wpAnyH_take (i := 57) (oi := _) (v := ?_) (by simp only [List.getElem?_toArray, List.getElem?_cons_succ, List.getElem?_cons_zero]; rfl) (by kernel_rfl) (by kernel_rfl) (by kernel_rfl) (by intro _ _ _ h; exact h) (Or.inl ⟨by rfl, fun W hSw => ?_⟩) hHeld ?_
          rotate_left 1
          · (clear hSw; first | (go_simp; done) | (go_simp; with_reducible rfl))
          try go_frame
          refine wpAnyH_take (i := 58) (oi := _) (v := ?_) (by simp only [List.getElem?_toArray, List.getElem?_cons_succ, List.getElem?_cons_zero]; rfl) (by kernel_rfl) (by kernel_rfl) (by kernel_rfl) (by intro _ _ _ h; exact h) (Or.inl ⟨by rfl, fun W hSw => ?_⟩) hHeld ?_
          rotate_left 1
          · (clear hSw; first | (go_simp; done) | (go_simp; with_reducible rfl))
          try go_frame
          refine wpAnyH_take (i := 59) (oi := _) (v := ?_) (by simp only [List.getElem?_toArray, List.getElem?_cons_succ, List.getElem?_cons_zero]; rfl) (by kernel_rfl) (by kernel_rfl) (by kernel_rfl) (by intro _ _ _ h; exact h) (Or.inl ⟨by rfl, fun W hSw => ?_⟩) hHeld ?_
          rotate_left 1
          · (try dsimp only at hSw); first | (go_simp; done) | (go_simp; with_reducible rfl)
          try go_frame
          refine wpAnyH_take (i := 62) (oi := _) (v := ?_) (by simp only [List.getElem?_toArray, List.getElem?_cons_succ, List.getElem?_cons_zero]; rfl) (by kernel_rfl) (by kernel_rfl) (by kernel_rfl) (by intro _ _ _ h; exact h) (Or.inl ⟨by rfl, fun W hSw => ?_⟩) hHeld ?_
          rotate_left 1
          · (clear hSw; first | (go_simp; done) | (go_simp; with_reducible rfl))
          try go_frame
          refine wpAnyH_take (i := 63) (oi := _) (v := ?_) (by simp only [List.getElem?_toArray, List.getElem?_cons_succ, List.getElem?_cons_zero]; rfl) (by kernel_rfl) (by kernel_rfl) (by kernel_rfl) (by intro _ _ _ h; exact h) (Or.inl ⟨by rfl, fun W hSw => ?_⟩) hHeld ?_
          rotate_left 1
          · (clear hSw; first | (go_simp; done) | (go_simp; with_reducible rfl))
          try go_frame
          refine wpAnyH_take (i := 64) (oi := _) (v := ?_) (by simp only [List.getElem?_toArray, List.getElem?_cons_succ, List.getElem?_cons_zero]; rfl) (by kernel_rfl) (by kernel_rfl) (by kernel_rfl) (by intro _ _ _ h; exact h) (Or.inl ⟨by rfl, fun W hSw => ?_⟩) hHeld ?_
          rotate_left 1
          · (clear hSw; first | (go_simp; done) | (go_simp; with_reducible rfl))
          try go_frame
          refine wpAnyH_ready (rs := [60]) (by kernel_rfl) (by simp) ?_
          refine AllReadyH.cons (o := _) (by simp only [List.getElem?_toArray, List.getElem?_cons_succ, List.getElem?_cons_zero]; rfl) (fun K hK => ?_) AllReadyH.nil
          clear hHeld
          go_simp
          refine (Chain_t ok tb mb vs _ x _ (HT.out.below HBd.out) hszx).mono ?_
          rw [HE.out, Hr2.out]
          rintro e wn ⟨pq, cq, rfl, -, hb⟩
          replace HBd := Lib.hid (HBd.out.trans (hb.mono HBd.out.size))
          obtain ⟨u0, u1, u3, u5, ut, ub⟩ := HQ.out
          have HQ2 := Lib.hid (⟨(hb.cell (p := ⟨tt, a, none⟩) ut).trans u0, (hb.cell (p := ⟨tt, b, none⟩) ut).trans u1, (hb.cell (p := ⟨bx, 3, none⟩) ub).trans u3, (hb.cell (p := ⟨bx, 5, none⟩) ub).trans u5, Nat.lt_of_lt_of_le ut hb.size, Nat.lt_of_lt_of_le ub hb.size⟩ : wn.cell? ⟨tt, a, none⟩ = some (.string x) ∧ wn.cell? ⟨tt, b, none⟩ = some (.string y) ∧ wn.cell? ⟨bx, 3, none⟩ = some (.int .i64 1) ∧ wn.cell? ⟨bx, 5, none⟩ = some (.slice pm 0 cm) ∧ tt < wn.heap.size ∧ bx < wn.heap.size)
          clear hb u0 u1 u3 u5 ut ub HQ
          have HQ := HQ2
          clear HQ2
          refine hK.out _ _ ⟨HQ.out.1, HQ.out.2.1, HQ.out.2.2.1, HQ.out.2.2.2.1⟩ (fun hHeld => ?_)
          clear hK K
          try go_frame
          refine wpAnyH_take (i := 61) (oi := _) (v := ?_) (by simp only [List.getElem?_toArray, List.getElem?_cons_succ, List.getElem?_cons_zero]; rfl) (by kernel_rfl) (by kernel_rfl) (by kernel_rfl) (by intro _ _ _ h; exact h) (Or.inl ⟨by rfl, fun W hSw => ?_⟩) hHeld ?_
          rotate_left 1
          · (clear hSw; first | (go_simp; done) | (go_simp; with_reducible rfl))
          try go_frame
          refine wpAnyH_take (i := 65) (oi := _) (v := ?_) (by simp only [List.getElem?_toArray, List.getElem?_cons_succ, List.getElem?_cons_zero]; rfl) (by kernel_rfl) (by kernel_rfl) (by kernel_rfl) (by intro _ _ _ h; exact h) (Or.inl ⟨by rfl, fun W hSw => ?_⟩) hHeld ?_
          rotate_left 1
          · (clear hSw; first | (go_simp; done) | (go_simp; with_reducible rfl))
          try go_frame
          refine wpAnyH_take (i := 66) (oi := _) (v := ?_) (by simp only [List.getElem?_toArray, List.getElem?_cons_succ, List.getElem?_cons_zero]; rfl) (by kernel_rfl) (by kernel_rfl) (by kernel_rfl) (by intro _ _ _ h; exact h) (Or.inl ⟨by rfl, fun W hSw => ?_⟩) hHeld ?_
          rotate_left 1
          · (clear hSw; first | (go_simp; done) | (go_simp; with_reducible rfl))
          try go_frame
          refine wpAnyH_take (i := 67) (oi := _) (v := ?_) (by simp only [List.getElem?_toArray, List.getElem?_cons_succ, List.getElem?_cons_zero]; rfl) (by kernel_rfl) (by kernel_rfl) (by kernel_rfl) (by intro _ _ _ h; exact h) (Or.inl ⟨by rfl, fun W hSw => ?_⟩) hHeld ?_
          rotate_left 1
          · (clear hSw; first | (go_simp; done) | (go_simp; with_reducible rfl))
          try go_frame
          refine wpAnyH_take (i := 68) (oi := _) (v := ?_) (by simp only [List.getElem?_toArray, List.getElem?_cons_succ, List.getElem?_cons_zero]; rfl) (by kernel_rfl) (by kernel_rfl) (by kernel_rfl) (by intro _ _ _ h; exact h) (Or.inl ⟨by rfl, fun W hSw => ?_⟩) hHeld ?_
          rotate_left 1
          · (clear hSw; first | (go_simp; done) | (go_simp; with_reducible rfl))
          try go_frame
          refine wpAnyH_take (i := 69) (oi := _) (v := ?_) (by simp only [List.getElem?_toArray, List.getElem?_cons_succ, List.getElem?_cons_zero]; rfl) (by kernel_rfl) (by kernel_rfl) (by kernel_rfl) (by intro _ _ _ h; exact h) (Or.inl ⟨by rfl, fun W hSw => ?_⟩) hHeld ?_
          rotate_left 1
          · (clear hSw; first | (go_simp; done) | (go_simp; with_reducible rfl))
          try go_frame
          refine wpAnyH_take (i := 70) (oi := _) (v := ?_) (by simp only [List.getElem?_toArray, List.getElem?_cons_succ, List.getElem?_cons_zero]; rfl) (by kernel_rfl) (by kernel_rfl) (by kernel_rfl) (by intro _ _ _ h; exact h) (Or.inl ⟨by rfl, fun W hSw => ?_⟩) hHeld ?_
          rotate_left 1
          · (clear hSw; first | (go_simp; done) | (go_simp; with_reducible rfl))
          try go_frame
          refine wpAnyH_take (i := 71) (oi := _) (v := ?_) (by simp only [List.getElem?_toArray, List.getElem?_cons_succ, List.getElem?_cons_zero]; rfl) (by kernel_rfl) (by kernel_rfl) (by kernel_rfl) (by intro _ _ _ h; exact h) (Or.inl ⟨by rfl, fun W hSw => ?_⟩) hHeld ?_
          rotate_left 1
          · (clear hSw; first | (go_simp; done) | (go_simp; with_reducible rfl))
          try go_frame
          refine wpAnyH_take (i := 72) (oi := _) (v := ?_) (by simp only [List.getElem?_toArray, List.getElem?_cons_succ, List.getElem?_cons_zero]; rfl) (by kernel_rfl) (by kernel_rfl) (by kernel_rfl) (by intro _ _ _ h; exact h) (Or.inl ⟨by rfl, fun W hSw => ?_⟩) hHeld ?_
          rotate_left 1
          · (try dsimp only at hSw); first | (go_simp; done) | (go_simp; with_reducible rfl)
          try go_frame
          refine wpAnyH_ready (rs := [73]) (by kernel_rfl) (by simp) ?_
          refine AllReadyH.cons (o := _) (by simp only [List.getElem?_toArray, List.getElem?_cons_succ, List.getElem?_cons_zero]; rfl) (fun K hK => ?_) AllReadyH.nil
          clear hHeld
          go_simp
          refine (Loops_t ok tb mb vs _ x _ (HT.out.below HBd.out) hszx).mono ?_
          rw [HE.out, Hr3.out]
          rintro e wn ⟨rfl, hb⟩
          replace HBd := Lib.hid (HBd.out.trans (hb.mono HBd.out.size))
          obtain ⟨u0, u1, u3, u5, ut, ub⟩ := HQ.out
          have HQ2 := Lib.hid (⟨(hb.cell (p := ⟨tt, a, none⟩) ut).trans u0, (hb.cell (p := ⟨tt, b, none⟩) ut).trans u1, (hb.cell (p := ⟨bx, 3, none⟩) ub).trans u3, (hb.cell (p := ⟨bx, 5, none⟩) ub).trans u5, Nat.lt_of_lt_of_le ut hb.size, Nat.lt_of_lt_of_le ub hb.size⟩ : wn.cell? ⟨tt, a, none⟩ = some (.string x) ∧ wn.cell? ⟨tt, b, none⟩ = some (.string y) ∧ wn.cell? ⟨bx, 3, none⟩ = some (.int .i64 1) ∧ wn.cell? ⟨bx, 5, none⟩ = some (.slice pm 0 cm) ∧ tt < wn.heap.size ∧ bx < wn.heap.size)
          clear hb u0 u1 u3 u5 ut ub HQ
          have HQ := HQ2
          clear HQ2
          refine hK.out _ _ ⟨HQ.out.1, HQ.out.2.1, HQ.out.2.2.1, HQ.out.2.2.2.1⟩ (fun hHeld => ?_)
          clear hK K
          try go_frame
          refine wpAnyH_take (i := 74) (oi := _) (v := ?_) (by simp only [List.getElem?_toArray, List.getElem?_cons_succ, List.getElem?_cons_zero]; rfl) (by kernel_rfl) (by kernel_rfl) (by kernel_rfl) (by intro _ _ _ h; exact h) (Or.inl ⟨by rfl, fun W hSw => ?_⟩) hHeld ?_
          rotate_left 1
          · (clear hSw; first | (go_simp; done) | (go_simp; with_reducible rfl))
          try go_frame
          refine wpAnyH_take (i := 75) (oi := _) (v := ?_) (by simp only [List.getElem?_toArray, List.getElem?_cons_succ, List.getElem?_cons_zero]; rfl) (by kernel_rfl) (by kernel_rfl) (by kernel_rfl) (by intro _ _ _ h; exact h) (Or.inl ⟨by rfl, fun W hSw => ?_⟩) hHeld ?_
          rotate_left 1
          · (clear hSw; first | (go_simp; done) | (go_simp; with_reducible rfl))
          try go_frame
          refine wpAnyH_take (i := 76) (oi := _) (v := ?_) (by simp only [List.getElem?_toArray, List.getElem?_cons_succ, List.getElem?_cons_zero]; rfl) (by kernel_rfl) (by kernel_rfl) (by kernel_rfl) (by intro _ _ _ h; exact h) (Or.inl ⟨by rfl, fun W hSw => ?_⟩) hHeld ?_
          rotate_left 1
          · (clear hSw; first | (go_simp; done) | (go_simp; with_reducible rfl))
          try go_frame
          refine wpAnyH_done (by kernel_rfl) ?_ _
          go_wp2_with fail
          go_ret
          exact ⟨rfl, HW.out.trans (HBd.out.mono HW.out.size)⟩
end Go.Proofs.Ytghihbjcjobdoaa.R
