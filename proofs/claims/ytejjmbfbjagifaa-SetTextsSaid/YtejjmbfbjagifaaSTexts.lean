/- SetTexts' walk. -/
import Derived.Test.YtejjmbfbjagifaaSKnown
import Derived.Test.YtejjmbfbjagifaaSSorted
import Derived.Test.YtejjmbfbjagifaaSDrains
namespace Go.Proofs.Ytejjmbfbjagifaa.S
open Go.RowKit Go.Maps

set_option maxHeartbeats 4000000 in
set_option maxRecDepth 100000 in
theorem texts_l (a : Option Addr) (len cap : Nat) (xs : List ByteArray) (w : World) (h : InC cS okS w a len cap xs) :
    Calls Try.prog 7 #[.slice a len cap] w fun e w' => e = .returned (.bool true) ∧ Below w.heap.size w w' := by
  obtain ⟨hle, hcm⟩ := h.le
  have hxl := h.1
  have hok := h.2.2
  have HI := Lib.hid h
  clear h
  unfold maxLen at hcm
  subst hxl
  go_enter Try.func7, Try.ntmps7
  go_wp2_with fail
  refine (known_s w).mono ?_
  rintro e w1 ⟨rfl, hb1⟩
  have HR1 := Lib.hid (HI.out.low rfl hb1)
  have HB1 := Lib.hid hb1
  clear hb1
  by_cases hbig : 20 < xs.length
  · have hbig' : (20 : Int) < (xs.length : Int) := by omega
    go_wp2
    go_ret
    exact ⟨rfl, HB1.out⟩
  · have hsm : (xs.length : Int) ≤ 20 := by omega
    have hx20 : xs.length ≤ 20 := by omega
    clear hbig
    go_wp2_with fail
    refine (new_S _ xs _ w1 HR1.out hok (by omega)).mono ?_
    rintro e w2 ⟨sb, mb, rfl, hs2, hb2⟩
    have HS2 := Lib.hid hs2
    have HB2 := Lib.hid (HB1.out.trans (hb2.mono HB1.out.size))
    have hz2 := Lib.hid hb2.size
    clear hs2 hb2 HR1
    have HR2 := Lib.hid (HI.out.low rfl HB2.out)
    go_wp2_with fail
    refine (newwork_S _ xs _ w2 HR2.out hok (by omega)).mono ?_
    rintro e w3 ⟨wb, rfl, hw3, hb3⟩
    have HW3 := Lib.hid hw3
    have HS3 := Lib.hid (HS2.out.bel hb3)
    have HB3 := Lib.hid (HB2.out.trans (hb3.mono HB2.out.size))
    have hl2 := HS2.out.lt
    have hmb : Hid (w1.heap.size ≤ mb ∧ mb < w2.heap.size ∧ w1.heap.size ≤ sb ∧ sb < w2.heap.size ∧ w2.heap.size ≤ w3.heap.size) := Lib.hid ⟨HS2.out.2.1, hl2.2.1, HS2.out.1, hl2.1, hb3.size⟩
    clear hw3 hb3 HS2 HR2 HB2 hl2
    have hol := onceL_len xs
    go_wp2_with fail
    refine (list_S _ sb mb (onceL xs) w3 HS3.out (by omega)).mono ?_
    rintro e w4 ⟨v, R, rfl, ho, hsr, hm, hb4⟩
    have HW4 : Hid (WqS (fun b => w2.heap.size ≤ b ∧ ¬ (w3.heap.size ≤ b ∧ b < w4.heap.size)) w4 wb (onceL xs) (onceL xs)) := Lib.hid ((HW3.out.mono (fun b hb hl => ⟨hb, by omega⟩)).bel hb4)
    have HS4 := Lib.hid (HS3.out.bel hb4)
    have HB4 := Lib.hid (HB3.out.trans (hb4.mono HB3.out.size))
    have HR4 : Hid (RdC cS (fun b => w3.heap.size ≤ b ∧ b < w4.heap.size) w4 v R) := Lib.hid (ho.rd.keep (fun b _ _ => rfl) (fun b h1 h2 => ⟨h1, h2⟩) (Nat.le_refl _))
    have HSR := Lib.hid hsr
    have HMM := Lib.hid (show ∀ y, y ∈ R ↔ y ∈ xs from fun y => (hm y).trans (onceL_mem xs y))
    have HM2 := hmb
    have HM : Hid (∀ y, y ∈ onceL xs ↔ y ∈ R.drop 0) := Lib.hid (fun y => (hm y).symm)
    have hRl : R.length = (onceL xs).length := nodup_len_eq (hsr.nodup toS) (onceL_nodup xs) hm
    have hR20 : R.length ≤ 20 := by omega
    have hz4 := Lib.hid hb4.size
    obtain ⟨p, cp, rfl, hn1, hn2⟩ := HR4.out.form
    clear ho hsr hm hb4 HW3 HS3 HB3 hRl
    go_wp2_with fail
    go_loopw [6] (fun v wr => ∃ (i : Nat) (N : List ByteArray), v = .int .i64 (i : Int) ∧ i ≤ R.length ∧ N.length ≤ 20 ∧ Hid (WqS (fun b => w2.heap.size ≤ b ∧ ¬ (w3.heap.size ≤ b ∧ b < w4.heap.size)) wr wb (onceL xs) N) ∧ Hid (∀ y, y ∈ N ↔ y ∈ R.drop i) ∧ Hid (StS wr w1.heap.size sb mb (onceL xs)) ∧ Hid (Kp (fun b => w1.heap.size ≤ b ∧ ¬ (w3.heap.size ≤ b ∧ b < w4.heap.size)) w4 wr)) (fun v _ => R.length - (intOf v).toNat)
    case atStart => exact ⟨0, onceL xs, rfl, by omega, by omega, HW4, HM, HS4, Lib.hid (Kp.refl _ _)⟩
    case round =>
      clear HW4 HM HS4
      obtain ⟨i, N, rfl, hi, hNl, HW, HN, HS, HK⟩ := hrel
      by_cases hlt : i < R.length
      · have hlt' : (i : Int) < (R.length : Int) := by omega
        have hne : R ≠ [] := by rintro rfl; simp at hlt
        have HRr : Hid (RdC cS (fun b => w3.heap.size ≤ b ∧ b < w4.heap.size) wr (.slice p R.length cp) R) := Lib.hid (HR4.out.keep (fun b hb hl => HK.out.2 b hl (fun h => h.2 hb)) (fun _ h _ => h) HK.out.size)
        have hNn : N ≠ [] := by
          rintro rfl
          have := (HN.out R[i]).2 (by rw [List.drop_eq_getElem_cons hlt]; exact List.mem_cons_self)
          cases this
        have hxR := Lib.hid ((HMM.out _).1 (List.getElem_mem hlt))
        obtain ⟨b, off, rfl, hb, hbl, hc⟩ := HRr.out.at hne
        have ci : wr.cell? ⟨b, off + i, none⟩ = some (.string R[i]) := hc i _ (List.getElem?_eq_getElem hlt)
        have HC : Hid (∀ w' : World, (∀ b, b < wr.heap.size → w3.heap.size ≤ b ∧ b < w4.heap.size → w'.heap[b]? = wr.heap[b]?) → w'.cell? ⟨b, off + i, none⟩ = some (.string R[i])) := Lib.hid (fun w' hw => by
          rw [World.cell?_of_block (w := wr) (a := ⟨b, off + i, none⟩) (hw b hbl hb)]
          exact ci)
        have HPREV : Hid (∀ k, i = k + 1 → ∃ y, wr.cell? ⟨b, off + k, none⟩ = some (.string y) ∧ ltS y R[i] = true) := Lib.hid (fun k hk => by
          have hkl : k < R.length := by omega
          exact ⟨R[k], hc k _ (List.getElem?_eq_getElem hkl), List.pairwise_iff_getElem.1 HSR.out k i hkl hlt (by omega)⟩)
        have HD : Hid (∀ x, x ∈ N → (∀ y ∈ N, ltS y x = false) → x = R[i] ∧ ∀ y, y ∈ delS N x ↔ y ∈ R.drop (i + 1)) := Lib.hid (fun x => drain_step toS HSR.out hlt HN.out)
        obtain ⟨z, hz⟩ : ∃ z, R[i] = z := ⟨_, rfl⟩
        rw [hz] at ci HC HPREV hxR HD
        have hzo := hok _ hxR.out
        have hzm := (onceL_mem xs z).2 hxR.out
        clear hc hz HN hb hbl HRr hxR
        by_cases hi0 : i = 0
        · subst hi0
          clear HPREV
          have ci0 : wr.cell? ⟨b, off, none⟩ = some (.string z) := by simpa using ci
          go_wp2_with fail
          go_quiet (fail)
          clear ci0
          generalize hwq : World.drewN wr _ = wq
          have HWq : Hid (WqS (fun b => w2.heap.size ≤ b ∧ ¬ (w3.heap.size ≤ b ∧ b < w4.heap.size)) wq wb (onceL xs) N) := Lib.hid (by rw [← hwq]; exact HW.out)
          have HSq : Hid (StS wq w1.heap.size sb mb (onceL xs)) := Lib.hid (by rw [← hwq]; exact HS.out)
          have HKq : Hid (Kp (fun b => w1.heap.size ≤ b ∧ ¬ (w3.heap.size ≤ b ∧ b < w4.heap.size)) w4 wq) := Lib.hid (by rw [← hwq]; exact HK.out.trans (Kp.of_kpt (.of_below (S := []) (below_drewN _ _ _)) (by simp)))
          have HCq : Hid (∀ w' : World, (∀ b, b < wq.heap.size → w3.heap.size ≤ b ∧ b < w4.heap.size → w'.heap[b]? = wq.heap[b]?) → w'.cell? ⟨b, off, none⟩ = some (.string z)) := Lib.hid (by rw [← hwq]; have := HC.out; simpa using this)
          clear hwq HW HS HK HC ci
          go_wp2_with fail
          refine (take_S _ wb (onceL xs) N wq HWq.out hNn (by omega)).mono ?_
          rintro e w5 ⟨x, rfl, hxN, hxl, hw5, hk5⟩
          obtain ⟨rfl, hN5⟩ := HD.out _ hxN hxl
          have ci5 := HCq.out w5 (fun b hb h => hk5.2 b hb (fun h2 => h2.2 h))
          have HW5 := Lib.hid hw5
          have hsb := HM2.out
          have hS5 : StS w5 w1.heap.size sb mb (onceL xs) := HSq.out.blk (hk5.2 sb HSq.out.lt.1 (fun h => by omega)) (hk5.2 mb HSq.out.lt.2.1 (fun h => by omega))
          have HS5 := Lib.hid hS5
          have HK5 : Hid (Kp (fun b => w1.heap.size ≤ b ∧ ¬ (w3.heap.size ≤ b ∧ b < w4.heap.size)) w4 w5) := Lib.hid (HKq.out.trans (hk5.mono (fun b _ h => ⟨by have := h.1; omega, h.2⟩)))
          have HN5 := Lib.hid hN5
          have hNl5 : (delS N x).length ≤ 20 := Nat.le_trans (List.length_filter_le _ _) hNl
          have HC5 : Hid (∀ w' : World, (∀ b, b < w5.heap.size → w3.heap.size ≤ b ∧ b < w4.heap.size → w'.heap[b]? = w5.heap[b]?) → w'.cell? ⟨b, off, none⟩ = some (.string x)) := Lib.hid (fun w' hw => HCq.out w' (fun b hb h => (hw b (Nat.lt_of_lt_of_le hb hk5.size) h).trans (hk5.2 b hb (fun h2 => h2.2 h))))
          clear hN5 hxN hxl hw5 hk5 HWq HKq HCq HSq hS5 hsb
          go_wp2_with fail
          refine (has_S _ sb mb (onceL xs) x w5 HS5.out hzo).mono ?_
          rintro e w6 ⟨rfl, hb6⟩
          rw [hasB_in hzm]
          have ci6 := HC5.out w6 (fun b hb _ => hb6.block b hb)
          have HW6 := Lib.hid (HW5.out.bel hb6)
          have HS6 := Lib.hid (HS5.out.bel hb6)
          have HK6 := Lib.hid (HK5.out.trans (Kp.of_kpt (.of_below (S := []) hb6) (by simp)))
          clear ci5 hb6 HW5 HS5 HK5 HC5
          go_wp2_with fail
          refine (add_S _ sb mb (onceL xs) x w6 HS6.out hzo (by omega)).mono ?_
          rintro e w7 ⟨rfl, hs7, hk7⟩
          rw [hasB_in hzm]
          rw [addS_in hzm] at hs7
          have HS7 := Lib.hid hs7
          have hsb := HM2.out
          have HW7 : Hid (WqS (fun b => w2.heap.size ≤ b ∧ ¬ (w3.heap.size ≤ b ∧ b < w4.heap.size)) w7 wb (onceL xs) (delS N x)) := Lib.hid (HW6.out.kpt hk7 (fun y hy h => by rw [List.mem_singleton.1 hy] at h; omega))
          have HK7 : Hid (Kp (fun b => w1.heap.size ≤ b ∧ ¬ (w3.heap.size ≤ b ∧ b < w4.heap.size)) w4 w7) := Lib.hid (HK6.out.trans (Kp.of_kpt hk7 (fun y hy _ => by rw [List.mem_singleton.1 hy]; omega)))
          clear ci6 hs7 hk7 HW6 HS6 HK6 hsb
          go_wp2_with fail
          go_roundw
          case rel => exact ⟨0 + 1, delS N x, by go_num, by omega, hNl5, HW7, HN5, HS7, HK7⟩
          case measure => simp [intOf]; omega
        · obtain ⟨k, hk⟩ : ∃ k, i = k + 1 := ⟨i - 1, by omega⟩
          obtain ⟨y, cy, hyz⟩ := HPREV.out k hk
          have hi0' : (0 : Int) < (i : Int) := by omega
          have hi0n : 0 < i := by omega
          have hki : (i : Int) - 1 = (k : Int) := by omega
          have hkl : (k : Int) < (R.length : Int) := by omega
          have hc1 : Op.bytesLess z.toList y.toList = false := toS.asym hyz
          have hc2 : (z.toList == y.toList) = false := txt_ne (fun e => toS.ne hyz e.symm)
          clear HPREV hi0 hk
          go_wp2_with fail
          go_quiet (fail)
          clear cy hc1 hc2 hyz
          generalize hwq : World.drewN wr _ = wq
          have HWq : Hid (WqS (fun b => w2.heap.size ≤ b ∧ ¬ (w3.heap.size ≤ b ∧ b < w4.heap.size)) wq wb (onceL xs) N) := Lib.hid (by rw [← hwq]; exact HW.out)
          have HSq : Hid (StS wq w1.heap.size sb mb (onceL xs)) := Lib.hid (by rw [← hwq]; exact HS.out)
          have HKq : Hid (Kp (fun b => w1.heap.size ≤ b ∧ ¬ (w3.heap.size ≤ b ∧ b < w4.heap.size)) w4 wq) := Lib.hid (by rw [← hwq]; exact HK.out.trans (Kp.of_kpt (.of_below (S := []) (below_drewN _ _ _)) (by simp)))
          have HCq : Hid (∀ w' : World, (∀ b, b < wq.heap.size → w3.heap.size ≤ b ∧ b < w4.heap.size → w'.heap[b]? = wq.heap[b]?) → w'.cell? ⟨b, off + i, none⟩ = some (.string z)) := Lib.hid (by rw [← hwq]; exact HC.out)
          clear hwq HW HS HK HC ci
          go_wp2_with fail
          refine (take_S _ wb (onceL xs) N wq HWq.out hNn (by omega)).mono ?_
          rintro e w5 ⟨x, rfl, hxN, hxl, hw5, hk5⟩
          obtain ⟨rfl, hN5⟩ := HD.out _ hxN hxl
          have ci5 := HCq.out w5 (fun b hb h => hk5.2 b hb (fun h2 => h2.2 h))
          have HW5 := Lib.hid hw5
          have hsb := HM2.out
          have hS5 : StS w5 w1.heap.size sb mb (onceL xs) := HSq.out.blk (hk5.2 sb HSq.out.lt.1 (fun h => by omega)) (hk5.2 mb HSq.out.lt.2.1 (fun h => by omega))
          have HS5 := Lib.hid hS5
          have HK5 : Hid (Kp (fun b => w1.heap.size ≤ b ∧ ¬ (w3.heap.size ≤ b ∧ b < w4.heap.size)) w4 w5) := Lib.hid (HKq.out.trans (hk5.mono (fun b _ h => ⟨by have := h.1; omega, h.2⟩)))
          have HN5 := Lib.hid hN5
          have hNl5 : (delS N x).length ≤ 20 := Nat.le_trans (List.length_filter_le _ _) hNl
          have HC5 : Hid (∀ w' : World, (∀ b, b < w5.heap.size → w3.heap.size ≤ b ∧ b < w4.heap.size → w'.heap[b]? = w5.heap[b]?) → w'.cell? ⟨b, off + i, none⟩ = some (.string x)) := Lib.hid (fun w' hw => HCq.out w' (fun b hb h => (hw b (Nat.lt_of_lt_of_le hb hk5.size) h).trans (hk5.2 b hb (fun h2 => h2.2 h))))
          clear hN5 hxN hxl hw5 hk5 HWq HKq HCq HSq hS5 hsb
          go_wp2_with fail
          refine (has_S _ sb mb (onceL xs) x w5 HS5.out hzo).mono ?_
          rintro e w6 ⟨rfl, hb6⟩
          rw [hasB_in hzm]
          have ci6 := HC5.out w6 (fun b hb _ => hb6.block b hb)
          have HW6 := Lib.hid (HW5.out.bel hb6)
          have HS6 := Lib.hid (HS5.out.bel hb6)
          have HK6 := Lib.hid (HK5.out.trans (Kp.of_kpt (.of_below (S := []) hb6) (by simp)))
          clear ci5 hb6 HW5 HS5 HK5 HC5
          go_wp2_with fail
          refine (add_S _ sb mb (onceL xs) x w6 HS6.out hzo (by omega)).mono ?_
          rintro e w7 ⟨rfl, hs7, hk7⟩
          rw [hasB_in hzm]
          rw [addS_in hzm] at hs7
          have HS7 := Lib.hid hs7
          have hsb := HM2.out
          have HW7 : Hid (WqS (fun b => w2.heap.size ≤ b ∧ ¬ (w3.heap.size ≤ b ∧ b < w4.heap.size)) w7 wb (onceL xs) (delS N x)) := Lib.hid (HW6.out.kpt hk7 (fun y hy h => by rw [List.mem_singleton.1 hy] at h; omega))
          have HK7 : Hid (Kp (fun b => w1.heap.size ≤ b ∧ ¬ (w3.heap.size ≤ b ∧ b < w4.heap.size)) w4 w7) := Lib.hid (HK6.out.trans (Kp.of_kpt hk7 (fun y hy _ => by rw [List.mem_singleton.1 hy]; omega)))
          clear ci6 hs7 hk7 HW6 HS6 HK6 hsb
          go_wp2_with fail
          go_roundw
          case rel => exact ⟨i + 1, delS N x, by go_num, by omega, hNl5, HW7, HN5, HS7, HK7⟩
          case measure => simp [intOf]; omega
      · obtain rfl : i = R.length := by omega
        obtain rfl : N = [] := by
          rw [List.eq_nil_iff_forall_not_mem]
          intro y hy
          have := (HN.out y).1 hy
          simp at this
        clear hlt hi HN hNl
        go_wp2_with fail
        refine (take0_S _ wb (onceL xs) wr HW.out).mono ?_
        rintro e w5 ⟨rfl, rfl⟩
        go_wp2_with fail
        refine (list_S _ sb mb (onceL xs) wr HS.out (by omega)).mono ?_
        rintro e w6 ⟨v6, R6, rfl, ho6, hsr6, hm6, hb6⟩
        have hRR : R6 = R := srt_eq toS hsr6 HSR.out (fun y => by rw [hm6, onceL_mem, HMM.out])
        subst hRR
        have HBr : Hid (Below w.heap.size w wr) := Lib.hid (HB4.out.trans (HK.out.below (fun b hb => Nat.le_trans HB1.out.size hb.1) HB4.out.size))
        have HB6 := Lib.hid (HBr.out.trans (hb6.mono HBr.out.size))
        have HR6 : Hid (RdC cS (fun _ => True) w6 v6 R6) := Lib.hid (ho6.rd.keep (fun b _ _ => rfl) (fun _ _ _ => trivial) (Nat.le_refl _))
        have HRx := Lib.hid (HI.out.low rfl HB6.out)
        obtain ⟨p6, cp6, rfl, q1, q2⟩ := HR6.out.form
        clear ho6 hsr6 hm6 hb6 HW HS HK HBr
        go_wp2_with fail
        refine (sorted_s _ xs w.heap.size w6 HRx.out (by omega) HB6.out.size).mono ?_
        rintro e w7 ⟨v7, R7, rfl, ho7, hsr7, hm7, hb7⟩
        have hRR7 : R7 = R6 := srt_eq toS hsr7 HSR.out (fun y => by rw [hm7, HMM.out])
        subst hRR7
        have HB7 := Lib.hid (HB6.out.trans (hb7.mono HB6.out.size))
        have HR7 : Hid (RdC cS (fun _ => True) w7 v7 R7) := Lib.hid (ho7.rd.keep (fun b _ _ => rfl) (fun _ _ _ => trivial) (Nat.le_refl _))
        have HR67 : Hid (RdC cS (fun _ => True) w7 (.slice p6 R7.length cp6) R7) := Lib.hid (HR6.out.keep (fun b _ hl => hb7.block b hl) (fun _ _ _ => trivial) hb7.size)
        obtain ⟨p7, cp7, rfl, q3, q4⟩ := HR7.out.form
        clear ho7 hsr7 hm7 hb7
        go_wp2_with fail
        refine (strs_S _ _ R7 R7 (fun _ => True) (fun _ => True) w7 HR67.out HR7.out (by omega) (by omega)).mono ?_
        rintro e w8 ⟨rfl, n8, hw8⟩
        rw [eqB_iff.2 rfl]
        have HB8 : Hid (Below w.heap.size w w8) := Lib.hid (by rw [hw8]; exact HB7.out.trans (below_drewN _ _ _))
        clear hw8
        go_wp2
        go_ret
        exact ⟨rfl, HB8.out⟩
end Go.Proofs.Ytejjmbfbjagifaa.S
