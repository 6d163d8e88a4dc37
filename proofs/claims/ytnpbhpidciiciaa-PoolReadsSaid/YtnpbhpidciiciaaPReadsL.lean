/- PoolReads: which pool any bytes begin with. -/
import Derived.Test.YtnpbhpidciiciaaPReadsA
import Derived.Deep.RegionHeld3
namespace Go.Proofs.Ytnpbhpidciiciaa
open Go.RowKit Go.Maps

set_option maxHeartbeats 4000000 in
set_option maxRecDepth 100000 in
theorem preads_short (v0 : Value) (p1 : Option Addr) (n1 c1 : Nat) (a : Nat) (c : Int) (l : List UInt8) (Z : Nat → ByteArray) (w : World) (hr : Rd w v0 l) (hv : l = [] ∨ ∀ g, v0.ownBlock = some g → g < w.heap.size)
    (hz : 0 < n1 → ∃ b off, p1 = some ⟨b, off, none⟩ ∧ n1 ≤ c1 ∧ RowAt w b off n1 (fun i => .string (Z i))) (hzs : ∀ i, (Z i).size ≤ 9223372036854775807)
    (hl : l.length ≤ 60) (h1 : n1 ≤ 12) (ha : a ≤ 65535) (hc0 : 0 ≤ c) (hc1 : c ≤ 255) :
    Calls Try.prog 4 #[v0, .slice p1 n1 c1, .int .u16 a, .int .u8 c] w fun e w' => e = .returned (.bool true) ∧ Below w.heap.size w w' := by
  obtain ⟨p, c0, rfl, hrest⟩ := id hr
  clear hrest
  have h60b : decide (60 < (l.length : Int)) = false := decide_eq_false (by omega)
  have h12b : decide (12 < (n1 : Int)) = false := decide_eq_false (by omega)
  have hcu := u8_of hc0 hc1
  obtain ⟨cu, hcu2⟩ : ∃ cu : UInt8, u8 cu = .int .u8 c := ⟨_, hcu⟩
  have HR := Lib.hid hr
  have HV := Lib.hid hv
  have HCU := Lib.hid hcu2
  have hnb := nb_len10 (u64_of_le h1 (by decide)).out
  have hnp := nb_pos n1
  clear hr hv hcu hcu2
  go_enter Try.func4, Try.ntmps4
  go_wp2_with fail
  refine (known_any _).mono ?_
  rintro e w1 ⟨rfl, hB1⟩
  have hs1 := hB1.size
  go_wp2_with fail
  refine (fnum_any (.slice none 0 0) _ [] [(n1 : Int)] _ (rd_nil _) (by simp) (rdI_new1 w1 _ _ (by omega) (by omega)) (.inr fun g hg => by cases hg; simp) (by simp)).mono ?_
  rintro e w2 ⟨u1, rfl, o2, b2⟩
  have hB2 : Below w.heap.size w w2 := (hB1.alloc hs1 _).trans (b2.mono (by simp; omega))
  have o3 : Own w2 w.heap.size u1 (nb n1) := by
    rw [List.nil_append, nums_len] at o2
    exact o2.mono (by simp; omega)
  clear hB1 hs1 b2 o2
  go_wp2
  go_loopw [9, 10] (fun s i wr => ∃ (k : Nat) (bs : List UInt8), i = .int .i64 k ∧ k ≤ n1 ∧ Own wr w.heap.size s bs ∧ 0 < bs.length ∧ bs.length ≤ 10 + 70 * k ∧ Below w.heap.size w wr) (fun _ i _ => n1 - (intOf i).toNat)
  case atStart => exact ⟨0, nb n1, rfl, Nat.zero_le _, o3, hnp, by omega, hB2⟩
  case round =>
    clear o3 hB2 hnp hnb
    obtain ⟨k, bs, rfl, hk, ho, hb0, hb1, hB⟩ := hrel
    have hs := hB.size
    by_cases hlt : k < n1
    · obtain ⟨b, off, rfl, hlc, hrow⟩ := hz (by omega)
      have hcell : wr.cell? ⟨b, off + k, none⟩ = some (.string (Z k)) := hrow.below hB hlt
      have hzk := hzs k
      clear hrow hz hzs
      by_cases hbig : 60 < (Z k).size
      · go_wp2
        go_ret
        exact ⟨rfl, hB⟩
      · have hn2 := nb_len10 (u64_of_le (show (Z k).size ≤ 60 by omega) (by decide)).out
        go_wp2_with fail
        refine (ftext_any _ bs (Z k) _ ho.rd (.inr fun g hg => (ho.lt g hg).2) (by omega) (by omega)).mono ?_
        rintro e w3 ⟨u3, rfl, o3, b3⟩
        have hB3 : Below w.heap.size w w3 := hB.trans (b3.mono hs)
        have o4 := o3.mono hs
        have hlen : (bs ++ (nb (Z k).size ++ sb (Z k))).length = bs.length + (nb (Z k).size).length + (Z k).size := by rw [List.length_append, List.length_append, sb_len]; omega
        clear o3 b3 ho hB hs hcell
        obtain ⟨bs2, hbs2⟩ : ∃ bs2, bs2 = bs ++ (nb (Z k).size ++ sb (Z k)) := ⟨_, rfl⟩
        rw [← hbs2] at o4 hlen
        clear hbs2
        go_wp2
        go_roundw
        case rel => exact ⟨k + 1, bs2, by go_num, by omega, o4, by omega, by omega, hB3⟩
        case measure => simp [intOf]; omega
    · obtain rfl : k = n1 := by omega
      clear hz hzs hlt
      have hrb := ho.rd
      obtain ⟨ab, cb, rfl, _, _⟩ := ho.len
      obtain ⟨M0, hM0⟩ : ∃ M0, M0 = wr.heap.size := ⟨_, rfl⟩
      have hgb : ∀ g, (Value.slice ab bs.length cb).ownBlock = some g → g < M0 := fun g hg => by rw [hM0]; exact (ho.lt g hg).2
      have hs0 : w.heap.size ≤ M0 := by omega
      have hMr : M0 ≤ wr.heap.size := by omega
      have HM0 := Lib.hid hM0
      clear hM0
      go_wp2_with (at_builtin; refine wp_app rfl _ _ rfl M0 _ [] rfl (World.ownsRow_nil _ _ _ _) _ bs rfl hrb ?d1 ?d2 ?_)
      case d1 => simp; omega
      case d2 => exact hMr
      intro v4 w4 o4 hg4 _
      have o4' : Own w4 M0 v4 bs := o4
      have hb4 : Below M0 wr w4 := (Below.refl _ _).grown hg4 hMr (fun k h => by cases h)
      have hB4 : Below w.heap.size w w4 := hB.trans (hb4.mono hs0)
      have ob4 : Own w4 w.heap.size (.slice ab bs.length cb) bs := ho.below hb4 hgb
      have hM4 : M0 ≤ w4.heap.size := by have := hb4.size; omega
      clear o4 hg4 hb4 ho hB hs hrb
      obtain ⟨g, cap, rfl, hg, hput⟩ := o4'.put hb0
      obtain ⟨j, hj⟩ : ∃ j, j = a % bs.length := ⟨_, rfl⟩
      have hmod : j < bs.length := by rw [hj]; exact Nat.mod_lt _ hb0
      obtain ⟨⟨uo, hcell⟩, hfro, hst⟩ := hput j hmod
      have hst1 := hst cu
      rw [HCU.out] at hst1
      have hmI : ((a : Int) % (bs.length : Int)) = (j : Int) := by rw [hj]; simp
      have hbne : ((bs.length : Int) == 0) = false := beq_eq_false_iff_ne.2 (by omega)
      have hgne : ∀ x, (Value.slice ab bs.length cb).ownBlock = some x → x ≠ g := fun x hx => by have := hgb x hx; omega
      have hB5 : Below w.heap.size w (w4.setCell ⟨g, j, none⟩ (.int .u8 c)) := hB4.setCell (p := ⟨g, j, none⟩) (by show w.heap.size ≤ g; omega) _
      have ob5 : Own (w4.setCell ⟨g, j, none⟩ (.int .u8 c)) w.heap.size (.slice ab bs.length cb) bs := ob4.kept hst1.2 (by
        cases hx : (Value.slice ab bs.length cb).ownBlock with
        | none => exact .inl rfl
        | some x => exact .inr (by simp only [ne_eq, Option.some.injEq]; exact hgne x hx))
      have hM5 : M0 ≤ (w4.setCell ⟨g, j, none⟩ (.int .u8 c)).heap.size := by simpa using hM4
      have o5 := hst1.1
      clear hput hst hst1 o4' ob4 hB4 hj
      obtain ⟨w5, hw5⟩ : ∃ w5, w4.setCell ⟨g, j, none⟩ (.int .u8 c) = w5 := ⟨_, rfl⟩
      rw [hw5] at hB5 ob5 hM5 o5
      have hxl : (bs.set j cu).length = bs.length := List.length_set
      have HXL := Lib.hid hxl
      have o5' : Own w5 M0 (.slice (some ⟨g, 0, none⟩) (bs.set j cu).length cap) (bs.set j cu) := by rw [hxl]; exact o5
      have hs5 := hB5.size
      have hr5 : Rd w5 (.slice p l.length c0) l := HR.out.below hB5 HV.out
      have hle5 : (bs.set j cu).length + l.length ≤ 1000000 := by rw [hxl]; omega
      clear o5 hxl
      go_wp2_with (at_builtin; refine wp_app_keep rfl _ _ rfl M0 g cap (bs.set j cu) (by rw [HXL.out]; rfl) o5' _ l rfl hr5 hle5 hM5 ?_)
      intro v6 w6 o6 od6 hg6
      have hB6 : Below w.heap.size w w6 := hB5.grown hg6 hs5 (fun k h => by cases h; omega)
      have ob6 : Own w6 w.heap.size (.slice ab bs.length cb) bs := ob5.kept hg6 (by
        cases hx : (Value.slice ab bs.length cb).ownBlock with
        | none => exact .inl rfl
        | some x => exact .inr (by simp only [ne_eq, Option.some.injEq]; exact hgne x hx))
      have hr6 : Rd w6 (.slice p l.length c0) l := HR.out.below hB6 HV.out
      have hs6 := hB6.size
      clear hg6 o5' ob5 hB5 hr5 hle5 hs5 hw5 hcell hfro hmI hbne hgne hg hgb hM4 HM0 hM5
      obtain ⟨a6, c6, hv6, _, _⟩ := o6.len
      rw [show (bs.set j cu ++ l).length = bs.length + l.length by rw [List.length_append, HXL.out]] at hv6
      subst hv6
      have hfour : Four (w6.alloc (.cells #[.slice p l.length c0, .slice ab bs.length cb, .slice (some ⟨g, 0, none⟩) bs.length cap, .slice a6 (bs.length + l.length) c6] 23)) w6.heap.size (w6.heap.size + 1) := by
        have e6 : (bs.set j cu ++ l).length = bs.length + l.length := by rw [List.length_append, HXL.out]
        have o6' : Own w6 M0 (.slice a6 (bs.set j cu ++ l).length c6) (bs.set j cu ++ l) := by rw [e6]; exact o6
        have od6' : Own w6 M0 (.slice (some ⟨g, 0, none⟩) (bs.set j cu).length cap) (bs.set j cu) := by rw [HXL.out]; exact od6
        have := four_new w6 23 p ab (some ⟨g, 0, none⟩) a6 c0 cb cap c6 l bs (bs.set j cu) (bs.set j cu ++ l) hr6 ob6.rd od6'.rd o6'.rd
          (HV.out.imp id (fun h g hg => Nat.lt_of_lt_of_le (h g hg) hs6)) (.inr fun g hg => (ob6.lt g hg).2) (.inr fun g hg => (od6'.lt g hg).2) (.inr fun g hg => (o6'.lt g hg).2) (by omega) (by omega) (by rw [HXL.out]; omega) (by rw [e6]; omega)
        rw [e6, HXL.out] at this
        exact this
      have hB7 := hB6.alloc hs6 (.cells #[.slice p l.length c0, .slice ab bs.length cb, .slice (some ⟨g, 0, none⟩) bs.length cap, .slice a6 (bs.length + l.length) c6] 23)
      obtain ⟨tb, htb⟩ : ∃ tb, tb = w6.heap.size := ⟨_, rfl⟩
      rw [← htb] at hfour
      have HTB := Lib.hid htb
      clear ob6 od6 o6 hr6 hB6 htb
      go_wp2
      rw [← HTB.out]
      go_loopw [75] (fun i wr => ∃ j : Nat, i = .int .i64 j ∧ j ≤ 4 ∧ Four wr tb (tb + 1) ∧ tb + 1 ≤ wr.heap.size ∧ Below w.heap.size w wr) (fun i _ => 4 - (intOf i).toNat)
      case atStart => exact ⟨0, rfl, by omega, hfour, by rw [HTB.out]; simp, hB7⟩
      case round =>
        clear hfour hB7 h60b h12b hb0 hb1 hmod
        obtain ⟨j, rfl, hj, hfour, hts, hB⟩ := hrel
        have hs := hB.size
        by_cases hlt : j < 4
        · obtain ⟨p, c, xs, hcell, hrd, hlv, hxl⟩ := hfour.2 j hlt
          obtain ⟨M, hM⟩ : ∃ M, M = wr.heap.size := ⟨_, rfl⟩
          have hlvM : xs = [] ∨ ∀ g, (Value.slice p xs.length c).ownBlock = some g → g < M := hlv.imp id (fun h g hg => by have := h g hg; omega)
          have HM := Lib.hid hM
          have HTS : tb + 1 ≤ M := by omega
          have hsM : w.heap.size ≤ M := by omega
          rcases hP : poolR xs 0 0 with ⟨LF, kF, eF⟩
          have hPle := poolR_le (Nat.zero_le _) (by decide) hP
          have HP := Lib.hid hP
          have HLF := Lib.hid hPle.2.1
          have hLF := hPle.1
          clear hP hPle
          go_wp2_with fail
          refine (new_any _ xs _ hrd (hlv.imp id (fun h g hg => by have := h g hg; omega)) (by omega)).mono ?_
          rintro e w7 ⟨r, rfl, hr7, hb7⟩
          rw [← HM.out] at hr7 hb7
          have hB7 : Below w.heap.size w w7 := hB.trans (hb7.mono hsM)
          have hf7 : Four w7 tb (tb + 1) := hfour.below (hb7.mono HTS)
          have hd7 := hrd.below hb7 hlvM
          have hrM : M ≤ r := hr7.1
          have hrl := hr7.lt
          have hq7 : Ref (w7.alloc (.cells #[.slice p xs.length c, .int .i64 0, .int .i64 0] 44)) M w7.heap.size xs 0 0 :=
            ⟨by omega, Nat.zero_le _, p, c, heap_alloc_new w7 _, hd7.alloc _ (hlvM.imp id (fun h g hg => by have := h g hg; omega)), hlvM⟩
          have hb8 : Below w7.heap.size w7 (w7.alloc (.cells #[.slice p xs.length c, .int .i64 0, .int .i64 0] 44)) := (Below.refl _ _).alloc (Nat.le_refl _) _
          have hr8 := hr7.below hb8 (Nat.le_refl _)
          have hf8 := hf7.below (hb8.mono (by omega))
          have hB8 := hB7.trans (hb8.mono hB7.size)
          obtain ⟨qb, hqb⟩ : ∃ qb, qb = w7.heap.size := ⟨_, rfl⟩
          have hrq : r < qb := by omega
          have hs8 : qb + 1 ≤ (w7.alloc (.cells #[.slice p xs.length c, .int .i64 0, .int .i64 0] 44)).heap.size := by rw [hqb]; simp
          have HQB := Lib.hid hqb
          rw [← hqb] at hq7
          clear hb7 hr7 hf7 hd7 hb8 hB7 hrd hfour hB hcell hqb hM hlv hlvM hrl
          go_wp2_with fail
          rw [← HQB.out]
          have hql : qb < (w7.alloc (.cells #[.slice p xs.length c, .int .i64 0, .int .i64 0] 44)).heap.size := by omega
          clear HQB
          generalize w7.alloc (.cells #[.slice p xs.length c, .int .i64 0, .int .i64 0] 44) = w8 at *
          have hsb8 := hB8.size
          refine (pread_any M r xs 0 0 LF kF eF _ HP.out hr8 (by decide) (by omega)).mono ?_
          rintro e w9 ⟨hans, hr9, hk9⟩
          have hq9 : Ref w9 M qb xs 0 0 := hq7.kpt2 hk9 (by simp; omega) (fun g hg => by simp; omega)
          have hf9 : Four w9 tb (tb + 1) := hf8.kpt hk9 (by omega) (fun x hx => by simp at hx; omega)
          have hB9 : Below w.heap.size w w9 := hB8.trans (hk9.below (fun x hx => by simp at hx; omega) hsb8)
          have hsb9 := hB9.size
          have hs9 := hk9.size
          clear hk9 hq7 hf8 hB8 hr8
          by_cases he0 : eF = 0
          · subst he0
            unfold ReadAns at hans
            rw [if_pos rfl] at hans
            obtain ⟨pp, pm, psl, rfl, hp9⟩ := hans
            go_wp2_with fail
            refine (rpread_any M qb xs 0 0 LF kF 0 _ HP.out hq9 (by decide) (by omega)).mono ?_
            rintro e w10 ⟨hansF, hq10, hk10⟩
            have hr10 : Rdr w10 M r xs kF 0 := hr9.kpt hk10 (fun g _ hg => by simp; omega)
            have hp10 : Pl w10 w8.heap.size pp pm psl LF := hp9.kpt hk10 (fun x hx => by have := (hp9.lt x hx).1; simp; omega)
            have hf10 : Four w10 tb (tb + 1) := hf9.kpt hk10 (by omega) (fun x hx => by simp at hx; omega)
            have hB10 : Below w.heap.size w w10 := hB9.trans (hk10.below (fun x hx => by simp at hx; omega) hsb9)
            have hs10 := hk10.size
            unfold ReadAnsF at hansF
            rw [if_pos rfl] at hansF
            obtain ⟨fb, fsl, rfl, hfp10⟩ := hansF
            obtain ⟨_, _, _, _, _, _, _, hc2, _, _⟩ := hq10.cells
            have hr10D : Rdr w10.drew M r xs kF 0 := hr10
            have hq10D : Ref w10.drew M qb xs kF 0 := hq10
            have hKD : Kpt [] w10 w10.drew := (Kpt.refl _ _).drew
            have hx4 : xs.length ≤ 400000 := by omega
            clear hk10 hp9 hf9 hB9 hr9 hq9 hr10 hq10
            go_wp2_with fail
            go_region_held3 (fun w' => w'.cell? ⟨qb, 2, none⟩ = some (.int .i64 (0 : Nat))) (first | exact hc2 | exact hD12.cell hc2 | exact hD13.cell (hD12.cell hc2)) (first | (go_at_call 21; refine (rerr_any M r xs kF 0 _ hr10D).mono ?_; rintro ez w11 ⟨rfl, rfl⟩) | (go_at_call 22; refine (rdone_any M r xs kF 0 _ hr10D hx4).mono ?_; rintro ez w12 ⟨rfl, hD12⟩; have hq12 := hD12.ref hq10D) | (go_at_call 23; refine (fdone_any M qb xs kF 0 _ hq12 hx4).mono ?_; rintro ez w13 ⟨rfl, hD13⟩))
            all_goals
              have hK13 : Kpt [] w10 w13 := (hKD.trans (hD12.kpt []) (fun x h => .inl h)).trans (hD13.kpt []) (fun x h => .inl h)
              have hp13 : Pl w13 w8.heap.size pp pm psl LF := hp10.kpt hK13 (fun x _ => by simp)
              have hq13 : Rp w13 w9.heap.size fb fsl LF := hfp10.kpt hK13 (fun x _ => by simp)
              have hf13 : Four w13 tb (tb + 1) := hf10.kpt hK13 (by omega) (fun x hx => by simp at hx)
              have hB13 : Below w.heap.size w w13 := hB10.trans (hK13.below (fun x hx => by simp at hx) hB10.size)
              have ht13 : tb + 1 ≤ w13.heap.size := by have := hK13.size; omega
              obtain ⟨af, cf, hfs, hl1, hl2, hff⟩ := hq13.2.2.1.form
              subst hfs
              have cq13 := hq13.cells.2.1
              have cq13D : w13.drew.cell? ⟨fb, 0, none⟩ = some (.slice af LF.length cf) := cq13
              have hp13D : Pl w13.drew w8.heap.size pp pm psl LF := hp13
              clear hK13 hp10 hfp10 hf10 hB10 hc2 hr10D hq10D hKD hD12 hD13 hq12
              go_wp2_with fail
              go_region_held3 (fun w' => w'.cell? ⟨fb, 0, none⟩ = some (.slice af LF.length cf)) (first | exact cq13D | exact cq13) (first | (go_at_call 12; refine (plen_any _ pp pm psl LF _ hp13D).mono ?_; rintro ez w14 ⟨rfl, rfl⟩))
              all_goals
                have HP13 : Hid (Pl w13.drew w8.heap.size pp pm psl LF) := Lib.hid hp13D
                have HQ13 : Hid (Rp w13.drew w9.heap.size fb (.slice af LF.length cf) LF) := Lib.hid hq13
                have HF13 : Hid (Four w13.drew tb (tb + 1)) := Lib.hid hf13
                have HB13 : Hid (Below w.heap.size w w13.drew) := Lib.hid hB13.drew
                have HFF : Hid (0 < LF.length → ∃ g, af = some ⟨g, 0, none⟩ ∧ ∀ i (hi : i < LF.length), w13.drew.cell? ⟨g, i, none⟩ = some (.string LF[i])) := Lib.hid hff
                have ht14 : tb + 1 ≤ w13.drew.heap.size := ht13
                clear hp13D hp13 hq13 hf13 hB13 hff cq13 ht13
                generalize w13.drew = w14 at *
                clear hl1 hl2
                go_wp2_with fail
                go_loop [20] (fun v => ∃ m : Nat, v = .int .i64 m ∧ m ≤ LF.length) (fun v => LF.length - (intOf v).toNat)
                case atStart => exact ⟨0, rfl, Nat.zero_le _⟩
                case round =>
                  obtain ⟨m, rfl, hmL⟩ := hrel
                  by_cases hlt2 : m < LF.length
                  · obtain ⟨gq, rfl, hcq⟩ := HFF.out (by omega)
                    have hcell := hcq m hlt2
                    have hsz : LF[m].size ≤ 1000 := HLF.out _ (List.getElem_mem hlt2)
                    clear hcq
                    go_wp2_with fail
                    refine (pat_in _ pp pm psl LF m _ HP13.out hlt2).mono ?_
                    rintro e v ⟨rfl, rfl⟩
                    go_wp2_with fail
                    refine (pput_in _ pp pm psl LF LF[m] _ HP13.out (by omega) (List.getElem_mem hlt2)).mono ?_
                    rintro e v ⟨rfl, rfl⟩
                    go_wp2_with fail
                    refine (rput_in _ fb _ LF LF[m] _ HQ13.out (by omega) (List.getElem_mem hlt2)).mono ?_
                    rintro e v ⟨rfl, rfl⟩
                    go_wp2
                    go_round
                    case rel => exact ⟨m + 1, by go_num, by omega⟩
                    case measure => simp [intOf]; omega
                  · go_wp2_with fail
                    go_roundw
                    case rel => exact ⟨j + 1, by go_num, by omega, HF13.out, ht14, HB13.out⟩
                    case measure => simp [intOf]; omega
          · unfold ReadAns at hans
            rw [if_neg he0] at hans
            subst hans
            go_wp2_with fail
            refine (rpread_any M qb xs 0 0 LF kF eF _ HP.out hq9 (by decide) (by omega)).mono ?_
            rintro e w10 ⟨hansF, hq10, hk10⟩
            have hr10 : Rdr w10 M r xs kF eF := hr9.kpt hk10 (fun g _ hg => by simp; omega)
            have hf10 : Four w10 tb (tb + 1) := hf9.kpt hk10 (by omega) (fun x hx => by simp at hx; omega)
            have hB10 : Below w.heap.size w w10 := hB9.trans (hk10.below (fun x hx => by simp at hx; omega) hsb9)
            have hs10 := hk10.size
            unfold ReadAnsF at hansF
            rw [if_neg he0] at hansF
            subst hansF
            obtain ⟨_, _, _, _, _, _, _, hc2, _, _⟩ := hq10.cells
            have hr10D : Rdr w10.drew M r xs kF eF := hr10
            have hq10D : Ref w10.drew M qb xs kF eF := hq10
            have hKD : Kpt [] w10 w10.drew := (Kpt.refl _ _).drew
            have hx4 : xs.length ≤ 400000 := by omega
            clear hk10 hf9 hB9 hr9 hq9 hr10 hq10
            go_wp2_with fail
            go_region_held3 (fun w' => w'.cell? ⟨qb, 2, none⟩ = some (.int .i64 eF)) (first | exact hc2 | exact hD12.cell hc2 | exact hD13.cell (hD12.cell hc2)) (first | (go_at_call 21; refine (rerr_any M r xs kF eF _ hr10D).mono ?_; rintro ez w11 ⟨rfl, rfl⟩) | (go_at_call 22; refine (rdone_any M r xs kF eF _ hr10D hx4).mono ?_; rintro ez w12 ⟨rfl, hD12⟩; have hq12 := hD12.ref hq10D) | (go_at_call 23; refine (fdone_any M qb xs kF eF _ hq12 hx4).mono ?_; rintro ez w13 ⟨rfl, hD13⟩))
            all_goals
              have hK13 : Kpt [] w10 w13 := (hKD.trans (hD12.kpt []) (fun x h => .inl h)).trans (hD13.kpt []) (fun x h => .inl h)
              have hf13 : Four w13 tb (tb + 1) := hf10.kpt hK13 (by omega) (fun x hx => by simp at hx)
              have hB13 : Below w.heap.size w w13 := hB10.trans (hK13.below (fun x hx => by simp at hx) hB10.size)
              have ht13 : tb + 1 ≤ w13.heap.size := by have := hK13.size; omega
              clear hK13 hf10 hB10 hc2 hr10D hq10D hKD hD12 hD13 hq12
              go_wp2_with fail
              go_roundw
              case rel => exact ⟨j + 1, by go_num, by omega, hf13, ht13, hB13⟩
              case measure => simp [intOf]; omega
        · go_wp2_with fail
          refine (pread_nil _).mono ?_
          rintro e wl ⟨rfl, rfl⟩
          go_wp2
          go_ret
          exact ⟨rfl, hB⟩

end Go.Proofs.Ytnpbhpidciiciaa
