/- SetDrains' walk. -/
import Derived.Test.YtejjmbfbjagifaaSKnown
import Derived.Test.YtejjmbfbjagifaaSRef
import Derived.Test.YtejjmbfbjagifaaSOpen
namespace Go.Proofs.Ytejjmbfbjagifaa.S
open Go.RowKit Go.Maps

theorem drain_step {α : Type} [DecidableEq α] {lt : α → α → Bool} (T : TO lt) {R N : List α} {i : Nat} {x : α} (hR : Srt lt R) (hi : i < R.length) (hN : ∀ y, y ∈ N ↔ y ∈ R.drop i) (hx : x ∈ N) (hl : ∀ y ∈ N, lt y x = false) :
    x = R[i] ∧ ∀ y, y ∈ delS N x ↔ y ∈ R.drop (i + 1) := by
  have hd : R.drop i = R[i] :: R.drop (i + 1) := List.drop_eq_getElem_cons hi
  have hs : Srt lt (R.drop i) := List.Pairwise.sublist (List.drop_sublist _ _) hR
  rw [hd] at hs
  obtain ⟨h1, h2⟩ := List.pairwise_cons.1 hs
  have hx' := (hN x).1 hx
  rw [hd] at hx'
  have e : x = R[i] := by
    rcases List.mem_cons.1 hx' with e | hm
    · exact e
    · have h3 := h1 x hm
      have h4 := hl R[i] ((hN _).2 (by rw [hd]; exact List.mem_cons_self))
      rw [h3] at h4
      cases h4
  refine ⟨e, fun y => ?_⟩
  rw [delS_mem, hN y, hd, e]
  constructor
  · rintro ⟨h3, h4⟩
    exact (List.mem_cons.1 h3).resolve_left h4
  · intro h3
    exact ⟨List.mem_cons_of_mem _ h3, fun h4 => T.ne (h1 y h3) h4.symm⟩

set_option maxHeartbeats 4000000 in
set_option maxRecDepth 100000 in
theorem drains_l (a : Option Addr) (len cap : Nat) (a1 : Option Addr) (len1 cap1 : Nat) (xs ys : List Int) (w : World) (h : InC cI okI w a len cap xs) (h1 : InC c8 ok8 w a1 len1 cap1 ys) :
    Calls Try.prog 6 #[.slice a len cap, .slice a1 len1 cap1] w fun e w' => e = .returned (.bool true) ∧ Below w.heap.size w w' := by
  obtain ⟨hle, hcm⟩ := h.le
  obtain ⟨hle1, hcm1⟩ := h1.le
  have hxl := h.1
  have hyl := h1.1
  have hok := h.2.2
  have HI := Lib.hid h
  have HJ := Lib.hid h1
  have HY8 := Lib.hid h1.2.2
  clear h h1
  unfold maxLen at hcm hcm1
  subst hxl
  subst hyl
  go_enter Try.func6, Try.ntmps6
  go_wp2_with fail
  refine (known_s w).mono ?_
  rintro e w1 ⟨rfl, hb1⟩
  have HR1 := Lib.hid (HI.out.low rfl hb1)
  have HB1 := Lib.hid hb1
  clear hb1
  by_cases hbig : 30 < xs.length ∨ 10 < ys.length
  · by_cases hb1 : 30 < xs.length
    · have hb1' : (30 : Int) < (xs.length : Int) := by omega
      go_wp2
      go_ret
      exact ⟨rfl, HB1.out⟩
    · have hb1' : (xs.length : Int) ≤ 30 := by omega
      have hb2' : (10 : Int) < (ys.length : Int) := by omega
      go_wp2
      go_ret
      exact ⟨rfl, HB1.out⟩
  · have hsm : (xs.length : Int) ≤ 30 := by omega
    have hsm1 : (ys.length : Int) ≤ 10 := by omega
    have hx30 : xs.length ≤ 30 := by omega
    clear hbig
    go_wp2_with fail
    refine (newwork_I _ xs _ w1 HR1.out hok (by omega)).mono ?_
    rintro e w2 ⟨wb, rfl, hw2, hb2⟩
    have HW2 := Lib.hid hw2
    have HB2 := Lib.hid (HB1.out.trans (hb2.mono HB1.out.size))
    have hz2 := Lib.hid hb2.size
    clear hw2 hb2
    have HR2 := Lib.hid (HI.out.low rfl HB2.out)
    go_wp2_with fail
    refine (new_I _ xs _ w2 HR2.out hok (by omega)).mono ?_
    rintro e w3 ⟨sb, mb, rfl, hs3, hb3⟩
    have HS3 := Lib.hid hs3
    have HW3 := Lib.hid (HW2.out.bel hb3)
    have HB3 := Lib.hid (HB2.out.trans (hb3.mono HB2.out.size))
    have hz3 := Lib.hid (Nat.le_trans hz2.out hb3.size)
    clear hs3 hb3 HW2 HR2 HB2 hz2
    have hol := onceL_len xs
    go_wp2_with fail
    refine (list_I _ sb mb (onceL xs) w3 HS3.out (by omega)).mono ?_
    rintro e w4 ⟨v, R, rfl, ho, hsr, hm, hb4⟩
    have HW4 : Hid (WqI (fun b => w1.heap.size ≤ b ∧ ¬ (w3.heap.size ≤ b ∧ b < w4.heap.size)) w4 wb (onceL xs) (onceL xs)) := Lib.hid ((HW3.out.mono (fun b hb hl => ⟨hb, by omega⟩)).bel hb4)
    have HB4 := Lib.hid (HB3.out.trans (hb4.mono HB3.out.size))
    have HR4 : Hid (RdC cI (fun b => w3.heap.size ≤ b ∧ b < w4.heap.size) w4 v R) := Lib.hid (ho.rd.keep (fun b _ _ => rfl) (fun b h1 h2 => ⟨h1, h2⟩) (Nat.le_refl _))
    have HSR := Lib.hid hsr
    have HM : Hid (∀ y, y ∈ onceL xs ↔ y ∈ R.drop 0) := Lib.hid (fun y => (hm y).symm)
    have hRl : R.length = (onceL xs).length := nodup_len_eq (hsr.nodup toI) (onceL_nodup xs) hm
    have hz4 := Lib.hid hb4.size
    obtain ⟨p, cp, rfl, hn1, hn2⟩ := HR4.out.form
    clear ho hsr hm hb4 HW3 HS3 HB3
    go_wp2_with fail
    go_loopw [8] (fun v wr => ∃ (i : Nat) (N : List Int), v = .int .i64 (i : Int) ∧ i ≤ R.length ∧ N.length ≤ 30 ∧ Hid (WqI (fun b => w1.heap.size ≤ b ∧ ¬ (w3.heap.size ≤ b ∧ b < w4.heap.size)) wr wb (onceL xs) N) ∧ Hid (∀ y, y ∈ N ↔ y ∈ R.drop i) ∧ Hid (Kp (fun b => w1.heap.size ≤ b ∧ ¬ (w3.heap.size ≤ b ∧ b < w4.heap.size)) w4 wr)) (fun v _ => R.length - (intOf v).toNat)
    case atStart => exact ⟨0, onceL xs, rfl, by omega, by omega, HW4, HM, Lib.hid (Kp.refl _ _)⟩
    case round =>
      clear HW4 HM
      obtain ⟨i, N, rfl, hi, hNl, HW, HN, HK⟩ := hrel
      by_cases hlt : i < R.length
      · have hlt' : (i : Int) < (R.length : Int) := by omega
        have hne : R ≠ [] := by rintro rfl; simp at hlt
        have HRr : Hid (RdC cI (fun b => w3.heap.size ≤ b ∧ b < w4.heap.size) wr (.slice p R.length cp) R) := Lib.hid (HR4.out.keep (fun b hb hl => HK.out.2 b hl (fun h => h.2 hb)) (fun _ h _ => h) HK.out.size)
        have hNn : N ≠ [] := by
          rintro rfl
          have := (HN.out R[i]).2 (by rw [List.drop_eq_getElem_cons hlt]; exact List.mem_cons_self)
          cases this
        go_wp2_with fail
        refine (take_I _ wb (onceL xs) N wr HW.out hNn (by omega)).mono ?_
        rintro e w5 ⟨x, rfl, hxN, hxl, hw5, hk5⟩
        obtain ⟨hxe, hN5⟩ := drain_step toI HSR.out hlt HN.out hxN hxl
        have HR5 : Hid (RdC cI (fun b => w3.heap.size ≤ b ∧ b < w4.heap.size) w5 (.slice p R.length cp) R) := Lib.hid (HRr.out.keep (fun b hb hl => hk5.2 b hl (fun h => h.2 hb)) (fun _ h _ => h) hk5.size)
        obtain ⟨b, off, rfl, hb, hbl, hc⟩ := HR5.out.at hne
        have ci : w5.cell? ⟨b, off + i, none⟩ = some (.int .i64 R[i]) := hc i _ (List.getElem?_eq_getElem hlt)
        rw [← hxe] at ci
        have HW5 := Lib.hid hw5
        have HK5 := Lib.hid (HK.out.trans hk5)
        have HN5 := Lib.hid hN5
        have hNl5 : (delS N x).length ≤ 30 := Nat.le_trans (List.length_filter_le _ _) hNl
        clear hc hxe hN5 hxN hxl hw5 hk5 HW HK HN HRr
        go_wp2_with fail
        go_roundw
        case rel => exact ⟨i + 1, delS N x, by go_num, by omega, hNl5, HW5, HN5, HK5⟩
        case measure => simp [intOf]; omega
      · obtain rfl : i = R.length := by omega
        obtain rfl : N = [] := by
          rw [List.eq_nil_iff_forall_not_mem]
          intro y hy
          have := (HN.out y).1 hy
          simp at this
        clear hlt hi HN hNl
        go_wp2_with fail
        refine (take0_I _ wb (onceL xs) wr HW.out).mono ?_
        rintro e w5 ⟨rfl, rfl⟩
        have hnew : ∀ wz : World, Kp (fun b => w1.heap.size ≤ b ∧ ¬ (w3.heap.size ≤ b ∧ b < w4.heap.size)) w4 wz → ∀ b, wz.heap.size ≤ b → w1.heap.size ≤ b ∧ ¬ (w3.heap.size ≤ b ∧ b < w4.heap.size) := fun wz hk b hb => by
          have h1 := hk.size
          have h2 := hz3.out
          have h3 := hz4.out
          omega
        have HNEW := Lib.hid hnew
        clear hnew hz3 hz4 HR4 HSR hRl
        go_wp2_with fail
        go_loopw [13] (fun v wr => ∃ i : Nat, v = .int .i64 (i : Int) ∧ i ≤ ys.length ∧ Hid (WqI (fun b => w1.heap.size ≤ b ∧ ¬ (w3.heap.size ≤ b ∧ b < w4.heap.size)) wr wb (onceL xs) []) ∧ Hid (Kp (fun b => w1.heap.size ≤ b ∧ ¬ (w3.heap.size ≤ b ∧ b < w4.heap.size)) w4 wr)) (fun v _ => ys.length - (intOf v).toNat)
        case atStart => exact ⟨0, rfl, by omega, HW, HK⟩
        case round =>
          clear HW HK
          obtain ⟨i, rfl, hi, HW, HK⟩ := hrel
          by_cases hlt : i < ys.length ∧ 0 < xs.length
          · obtain ⟨hlt, hpos⟩ := hlt
            have hlt' : (i : Int) < (ys.length : Int) := by omega
            have hpos' : (0 : Int) < (xs.length : Int) := by omega
            have HBr : Hid (Below w.heap.size w _) := Lib.hid (HB4.out.trans (HK.out.below (fun b hb => Nat.le_trans HB1.out.size hb.1) HB4.out.size))
            have HRx := Lib.hid (HI.out.low rfl HBr.out)
            have HRy := Lib.hid (HJ.out.low rfl HBr.out)
            have hnx : xs ≠ [] := by rintro rfl; simp at hpos
            have hny : ys ≠ [] := by rintro rfl; simp at hlt
            obtain ⟨b, off, rfl, hb, hbl, hc⟩ := HRx.out.at hnx
            obtain ⟨b2, off2, rfl, hb2, hbl2, hc2⟩ := HRy.out.at hny
            obtain ⟨y, hy⟩ : ∃ y, ys[i] = y := ⟨_, rfl⟩
            have cy : World.cell? _ ⟨b2, off2 + i, none⟩ = some (.int .u8 ys[i]) := hc2 i _ (List.getElem?_eq_getElem hlt)
            have hy8 := HY8.out _ (List.getElem_mem hlt)
            rw [hy] at cy hy8
            obtain ⟨hy0, hy1⟩ := hy8
            obtain ⟨m, rfl⟩ : ∃ m : Nat, y = (m : Int) := ⟨y.toNat, by omega⟩
            obtain ⟨j, hj⟩ : ∃ j, m % xs.length = j := ⟨_, rfl⟩
            have hjl : j < xs.length := by rw [← hj]; exact Nat.mod_lt _ (by omega)
            have hjl' : (j : Int) < (xs.length : Int) := by omega
            have hrem : (m : Int).tmod (xs.length : Int) = (j : Int) := by
              rw [Int.tmod_eq_emod_of_nonneg (by omega), ← hj]
              simp
            have hn0 : ((xs.length : Int) == 0) = false := beq_eq_false_iff_ne.2 (by omega)
            have cx : World.cell? _ ⟨b, off + j, none⟩ = some (.int .i64 xs[j]) := hc j _ (List.getElem?_eq_getElem hjl)
            have hmem : xs[j] ∈ onceL xs := (onceL_mem xs _).2 (List.getElem_mem hjl)
            have hox := hok _ (List.getElem_mem hjl)
            obtain ⟨x, hx⟩ : ∃ x, xs[j] = x := ⟨_, rfl⟩
            rw [hx] at cx hmem hox
            have hE := Lib.hid (hasB_in hmem)
            have hP := Lib.hid (putN_in (N := []) hmem)
            have hA := Lib.hid (addS_in hmem)
            clear hc hc2 hy hj hx hmem
            go_wp2_with fail
            refine (put_I _ wb (onceL xs) [] x _ HW.out hox (by omega) (by simp) (HNEW.out _ HK.out)).mono ?_
            rintro e w5 ⟨rfl, hw5, hk5⟩
            rw [hE.out]
            rw [hP.out, hA.out] at hw5
            have HW5 := Lib.hid hw5
            have HK5 := Lib.hid (HK.out.trans hk5)
            clear hw5 hk5 HW HK cx cy HRx HRy
            go_wp2_with fail
            refine (again_I _ wb (onceL xs) [] x w5 HW5.out hox (by omega) (by simp) (HNEW.out _ HK5.out)).mono ?_
            rintro e w6 ⟨rfl, hw6, hk6⟩
            rw [hA.out, show addS ([] : List Int) x = [x] from rfl] at hw6
            have HW6 := Lib.hid hw6
            have HK6 := Lib.hid (HK5.out.trans hk6)
            clear hw6 hk6 HW5 HK5
            go_wp2_with fail
            refine (again_I _ wb (onceL xs) [x] x w6 HW6.out hox (by omega) (by simp) (HNEW.out _ HK6.out)).mono ?_
            rintro e w7 ⟨rfl, hw7, hk7⟩
            rw [hA.out, addS_in (show x ∈ [x] by simp)] at hw7
            have HW7 := Lib.hid hw7
            have HK7 := Lib.hid (HK6.out.trans hk7)
            clear hw7 hk7 HW6 HK6
            go_wp2_with fail
            refine (take_I _ wb (onceL xs) [x] w7 HW7.out (by simp) (by simp)).mono ?_
            rintro e w8 ⟨x2, rfl, hx2, _, hw8, hk8⟩
            obtain rfl : x2 = x := List.mem_singleton.1 hx2
            rw [show delS [x2] x2 = ([] : List Int) by simp [delS]] at hw8
            have HW8 := Lib.hid hw8
            have HK8 := Lib.hid (HK7.out.trans hk8)
            clear hw8 hk8 HW7 HK7 hx2
            go_wp2_with fail
            go_roundw
            case rel => exact ⟨i + 1, by go_num, by omega, HW8, HK8⟩
            case measure => simp [intOf]; omega
          · have HBr : Hid (Below w.heap.size w _) := Lib.hid (HB4.out.trans (HK.out.below (fun b hb => Nat.le_trans HB1.out.size hb.1) HB4.out.size))
            by_cases hlt2 : i < ys.length
            · have hlt' : (i : Int) < (ys.length : Int) := by omega
              have hz : xs.length = 0 := by omega
              have hz' : (xs.length : Int) = 0 := by omega
              have hd : decide (0 < (xs.length : Int)) = false := decide_eq_false (by omega)
              go_wp2_with fail
              refine (take0_I _ wb (onceL xs) _ HW.out).mono ?_
              rintro e w5 ⟨rfl, rfl⟩
              go_wp2
              go_ret
              exact ⟨rfl, HBr.out⟩
            · have hlt' : (ys.length : Int) ≤ (i : Int) := by omega
              have hd : decide ((i : Int) < (ys.length : Int)) = false := decide_eq_false (by omega)
              go_wp2_with fail
              refine (take0_I _ wb (onceL xs) _ HW.out).mono ?_
              rintro e w5 ⟨rfl, rfl⟩
              go_wp2
              go_ret
              exact ⟨rfl, HBr.out⟩
end Go.Proofs.Ytejjmbfbjagifaa.S
