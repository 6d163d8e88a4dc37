/- SetOrder's walk. -/
import Derived.Test.YtejjmbfbjagifaaSKnown
import Derived.Test.YtejjmbfbjagifaaSRef
import Derived.Test.YtejjmbfbjagifaaSOpen
namespace Go.Proofs.Ytejjmbfbjagifaa.S
open Go.RowKit Go.Maps

theorem turned {n T j : Nat} (hj : j < n) : ∃ k, k < n ∧ (k + T) % n = j := by
  have ht : T % n < n := Nat.mod_lt _ (by omega)
  by_cases h : T % n ≤ j
  · refine ⟨j - T % n, by omega, ?_⟩
    rw [Nat.add_mod, Nat.mod_eq_of_lt (show j - T % n < n by omega), show j - T % n + T % n = j by omega, Nat.mod_eq_of_lt hj]
  · refine ⟨j + n - T % n, by omega, ?_⟩
    rw [Nat.add_mod, Nat.mod_eq_of_lt (show j + n - T % n < n by omega), show j + n - T % n + T % n = j + n by omega, Nat.add_mod_right, Nat.mod_eq_of_lt hj]

set_option maxHeartbeats 4000000 in
set_option maxRecDepth 100000 in
theorem order_l (a : Option Addr) (len cap : Nat) (xs : List Int) (turn : Nat) (w : World) (h : InC cI okI w a len cap xs) (ht : turn ≤ 255) :
    Calls Try.prog 5 #[.slice a len cap, .int .u8 (turn : Int)] w fun e w' => e = .returned (.bool true) ∧ Below w.heap.size w w' := by
  obtain ⟨hle, hcm⟩ := h.le
  have hxl := h.1
  have hok := h.2.2
  have HI := Lib.hid h
  clear h
  unfold maxLen at hcm
  go_enter Try.func5, Try.ntmps5
  go_wp2_with fail
  refine (known_s w).mono ?_
  rintro e w1 ⟨rfl, hb1⟩
  have HR1 := Lib.hid (HI.out.low rfl hb1)
  have HB1 := Lib.hid hb1
  clear hb1
  by_cases hbig : 30 < len
  · have hbig' : (30 : Int) < (len : Int) := by omega
    go_wp2
    go_ret
    exact ⟨rfl, HB1.out⟩
  · have hsm : (len : Int) ≤ 30 := by omega
    subst hxl
    go_wp2_with fail
    refine (new_I _ xs _ w1 HR1.out hok (by omega)).mono ?_
    rintro e w2 ⟨sb, mb, rfl, hs2, hb2⟩
    have HS2 := Lib.hid hs2
    have HB2 := Lib.hid (HB1.out.trans (hb2.mono HB1.out.size))
    have HW2 := Lib.hid hb2.size
    clear hs2 hb2
    go_wp2_with fail
    refine (new_I _ [] (fun _ => True) w2 (RdC.nil _ _) (by simp) (by simp)).mono ?_
    rintro e w3 ⟨st, mt, rfl, hs3, hb3⟩
    rw [onceL_nil] at hs3
    have HS3 := Lib.hid hs3
    have HB3 := Lib.hid (HB2.out.trans (hb3.mono HB2.out.size))
    have HA3 := Lib.hid (HS2.out.bel hb3)
    have hmt : mb ≠ mt ∧ sb ≠ mt ∧ w.heap.size ≤ mt := ⟨by have := HS2.out.lt; have := hs3.2.1; omega, by have := HS2.out.lt; have := hs3.2.1; omega, by have := hs3.2.1; have := HB2.out.size; omega⟩
    have HM := Lib.hid hmt
    clear hs3 hb3 hmt HR1 HB1 HB2 HW2 HS2
    have hw23 : w3.heap.size = w3.heap.size := rfl
    go_wp2_with fail
    go_loopw [7] (fun v wr => ∃ (i : Nat) (L : List Int), v = .int .i64 (i : Int) ∧ i ≤ xs.length ∧ Hid (StI wr w2.heap.size st mt L) ∧ Hid (∀ y, y ∈ L ↔ ∃ k, k < i ∧ xs[(k + turn) % xs.length]? = some y) ∧ L.length ≤ i ∧ Hid (Kpt [mt] w3 wr)) (fun v _ => xs.length - (intOf v).toNat)
    case atStart => exact ⟨0, [], rfl, by omega, HS3, Lib.hid (fun y => by simp), by simp, Lib.hid (Kpt.refl _ _)⟩
    case round =>
      clear HS3 hw23
      obtain ⟨i, L, rfl, hi, HS, HL, hLl, HK⟩ := hrel
      have HBr : Hid (Below w.heap.size w wr) := Lib.hid (HB3.out.trans (HK.out.below (fun y hy => by rw [List.mem_singleton.1 hy]; exact HM.out.2.2) HB3.out.size))
      have HR := Lib.hid (HI.out.low rfl HBr.out)
      by_cases hlt : i < xs.length
      · have hlt' : (i : Int) < (xs.length : Int) := by omega
        obtain ⟨j, hj⟩ : ∃ j, (i + turn) % xs.length = j := ⟨_, rfl⟩
        have hjl : j < xs.length := by rw [← hj]; exact Nat.mod_lt _ (by omega)
        have hjl' : (j : Int) < (xs.length : Int) := by omega
        have hrem : ((i : Int) + (turn : Int)).tmod (xs.length : Int) = (j : Int) := by
          rw [Int.tmod_eq_emod_of_nonneg (by omega), ← hj]
          simp
        have hne : xs ≠ [] := by rintro rfl; simp at hlt
        obtain ⟨b, off, rfl, hb, hbl, hc⟩ := HR.out.at hne
        have hg := List.getElem?_eq_getElem hjl
        have ci : wr.cell? ⟨b, off + j, none⟩ = some (.int .i64 xs[j]) := hc j _ hg
        have hox := hok _ (List.getElem_mem hjl)
        obtain ⟨x, hx⟩ : ∃ x, xs[j] = x := ⟨_, rfl⟩
        rw [hx] at ci hox hg
        have HG := Lib.hid hg
        have HJ := Lib.hid hj
        have hn0 : ((xs.length : Int) == 0) = false := beq_eq_false_iff_ne.2 (by omega)
        clear hc hx hg hj
        go_wp2_with fail
        refine (add_I _ st mt L x wr HS.out hox (by omega)).mono ?_
        rintro e w4 ⟨rfl, hs4, hk4⟩
        have HS4 := Lib.hid hs4
        have HK4 := Lib.hid hk4
        clear hs4 hk4 ci
        go_wp2_with fail
        go_roundw
        case rel => exact ⟨i + 1, addS L x, by go_num, by omega, HS4, Lib.hid (fun y => by
          rw [addS_mem, HL.out y]
          constructor
          · rintro (⟨k, hk, e⟩ | rfl)
            · exact ⟨k, by omega, e⟩
            · exact ⟨i, by omega, by rw [HJ.out]; exact HG.out⟩
          · rintro ⟨k, hk, e⟩
            by_cases e2 : k = i
            · subst e2
              rw [HJ.out, HG.out] at e
              exact .inr (by cases e; rfl)
            · exact .inl ⟨k, by omega, e⟩), by have := addS_len L x; omega, Lib.hid (HK.out.trans HK4.out (fun y hy => .inl hy))⟩
        case measure => simp [intOf]; omega
      · obtain rfl : i = xs.length := by omega
        have HLx : Hid (∀ y, y ∈ L ↔ y ∈ xs) := Lib.hid (fun y => by
          rw [HL.out y]
          constructor
          · rintro ⟨k, hk, e⟩
            exact List.mem_of_getElem? e
          · intro hy
            obtain ⟨j, hj, rfl⟩ := List.mem_iff_getElem.1 hy
            obtain ⟨k, hk, e⟩ := turned (T := turn) hj
            exact ⟨k, hk, by rw [e, List.getElem?_eq_getElem hj]⟩)
        have HA := Lib.hid (HA3.out.kpt HK.out (by simp; exact HM.out.2.1) (by simp; exact HM.out.1))
        clear hlt hi HL HA3 HB3 HK HR
        have hol := onceL_len xs
        go_wp2_with fail
        refine (list_I _ sb mb (onceL xs) wr HA.out (by omega)).mono ?_
        rintro e w4 ⟨v1, R1, rfl, ho1, hsr1, hm1, hb4⟩
        have HA4 := Lib.hid (HA.out.bel hb4)
        have HS4 := Lib.hid (HS.out.bel hb4)
        have HB4 := Lib.hid (HBr.out.trans (hb4.mono HBr.out.size))
        clear hb4 HA HS HBr
        go_wp2_with fail
        refine (list_I _ st mt L w4 HS4.out (by omega)).mono ?_
        rintro e w5 ⟨v2, R2, rfl, ho2, hsr2, hm2, hb5⟩
        have hRR : R2 = R1 := srt_eq toI hsr2 hsr1 (fun y => by rw [hm2, hm1, onceL_mem, HLx.out])
        subst hRR
        have hl1 : (onceL xs).length = R2.length := nodup_len_eq (onceL_nodup xs) (hsr1.nodup toI) (fun y => (hm1 y).symm)
        have hl2 : L.length = R2.length := nodup_len_eq HS4.out.2.2.2.nodup (hsr1.nodup toI) (fun y => (hm2 y).symm)
        have HA5 := Lib.hid (HA4.out.bel hb5)
        have HS5 := Lib.hid (HS4.out.bel hb5)
        have HB5 := Lib.hid (HB4.out.trans (hb5.mono HB4.out.size))
        have HR1 : Hid (RdC cI (fun _ => True) w5 v1 R2) := Lib.hid (ho1.rd.keep (fun b _ hl => hb5.block b hl) (fun _ _ _ => trivial) hb5.size)
        have HR2 : Hid (RdC cI (fun _ => True) w5 v2 R2) := Lib.hid (ho2.rd.keep (fun b _ _ => rfl) (fun _ _ _ => trivial) (Nat.le_refl _))
        have HSR := Lib.hid hsr1
        obtain ⟨p1, cap1, rfl, hn1, hn1'⟩ := HR1.out.form
        obtain ⟨p2, cap2, rfl, hn2, hn2'⟩ := HR2.out.form
        clear hb5 hm1 hm2 hsr1 hsr2 ho1 ho2 HA4 HS4 HB4 HLx
        have HL1 := Lib.hid hl1
        have HL2 := Lib.hid hl2
        have hRl : R2.length ≤ 30 := by omega
        clear hl1 hl2 hol hLl
        go_wp2_with fail
        go_loopw [10] (fun v wr => ∃ i n : Nat, v = .int .i64 (i : Int) ∧ 1 ≤ i ∧ wr = w5.drewN n) (fun v _ => R2.length - (intOf v).toNat)
        case atStart => exact ⟨1, 0, rfl, Nat.le_refl _, rfl⟩
        case round =>
          obtain ⟨i, n, rfl, hi1, rfl⟩ := hrel
          by_cases hlt : i < R2.length
          · have hlt' : (i : Int) < (R2.length : Int) := by omega
            obtain ⟨k, rfl⟩ : ∃ k, i = k + 1 := ⟨i - 1, by omega⟩
            have hk : k < R2.length := by omega
            have hne : R2 ≠ [] := by rintro rfl; simp at hlt
            obtain ⟨b, off, rfl, hb, hbl, hc⟩ := HR1.out.at hne
            have ci : w5.cell? ⟨b, off + (k + 1), none⟩ = some (.int .i64 R2[k + 1]) := hc (k + 1) _ (List.getElem?_eq_getElem hlt)
            have ck : w5.cell? ⟨b, off + k, none⟩ = some (.int .i64 R2[k]) := hc k _ (List.getElem?_eq_getElem hk)
            have hcmp : R2[k] < R2[k + 1] := by
              have := List.pairwise_iff_getElem.1 HSR.out k (k + 1) hk hlt (by omega)
              simpa [ltI] using this
            obtain ⟨x, hx⟩ : ∃ x, R2[k + 1] = x := ⟨_, rfl⟩
            obtain ⟨y, hy⟩ : ∃ y, R2[k] = y := ⟨_, rfl⟩
            rw [hx] at ci hcmp
            rw [hy] at ck hcmp
            have hki : (((k + 1 : Nat) : Int)) - 1 = (k : Int) := by omega
            have hkl : (k : Int) < (R2.length : Int) := by omega
            have hdec : decide (x ≤ y) = false := decide_eq_false (by omega)
            clear hc hx hy
            go_wp2_with fail
            go_quiet (fail)
            go_wp2_with fail
            go_roundw
            case rel => exact ⟨k + 2, _, by go_num, by omega, rfl⟩
            case measure => simp [intOf]; omega
          · have hlt' : (R2.length : Int) ≤ (i : Int) := by omega
            clear hlt
            have HB6 : Hid (Below w.heap.size w (w5.drewN n)) := Lib.hid (HB5.out.trans (below_drewN _ _ _))
            go_wp2_with fail
            refine (same_I _ _ R2 R2 (fun _ => True) (fun _ => True) (w5.drewN n) HR1.out HR2.out (by omega) (by omega)).mono ?_
            rintro e w7 ⟨rfl, n7, hw7⟩
            rw [eqB_iff.2 rfl]
            have HA7 : Hid (StI w7 w1.heap.size sb mb (onceL xs)) := Lib.hid (by rw [hw7]; exact HA5.out)
            have HS7 : Hid (StI w7 w2.heap.size st mt L) := Lib.hid (by rw [hw7]; exact HS5.out)
            have HB7 : Hid (Below w.heap.size w w7) := Lib.hid (by rw [hw7]; exact HB6.out.trans (below_drewN _ _ n7))
            clear hw7
            go_wp2_with fail
            refine (len_I _ sb mb (onceL xs) w7 HA7.out (by rw [HL1.out]; omega)).mono ?_
            rintro e w8 ⟨rfl, hb8⟩
            rw [HL1.out]
            have HS8 := Lib.hid (HS7.out.bel hb8)
            have HB8 := Lib.hid (HB7.out.trans (hb8.mono HB7.out.size))
            clear hb8
            go_wp2_with fail
            refine (len_I _ st mt L w8 HS8.out (by rw [HL2.out]; omega)).mono ?_
            rintro e w9 ⟨rfl, hb9⟩
            rw [HL2.out]
            have HB9 := Lib.hid (HB8.out.trans (hb9.mono HB8.out.size))
            clear hb9
            go_wp2
            go_ret
            exact ⟨rfl, HB9.out⟩
end Go.Proofs.Ytejjmbfbjagifaa.S
