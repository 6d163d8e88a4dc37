/- WireReads: the walk. -/
import Derived.Test.YtpkkehgbnhjnaaaLawReads
namespace Go.Proofs.Ytpkkehgbnhjnaaa
open Go.RowKit

theorem u8_of {c : Int} (h0 : 0 ≤ c) (h1 : c ≤ 255) : u8 (UInt8.ofNat c.toNat) = .int .u8 c := by
  rw [u8_ofNat (by omega), Int.toNat_of_nonneg h0]

theorem numR_e {bs : List UInt8} {k e m v k' e' : Nat} (hk : k ≤ bs.length) (he : e < 100) (h : numR bs k e m = (v, k', e')) : e' < 100 := (numR_le hk he h).2.2

theorem textR_e {bs l : List UInt8} {k e m k' e' : Nat} (hk : k ≤ bs.length) (he : e < 100) (h : textR bs k e m = (l, k', e')) : e' < 100 := by
  rcases hn : numR bs k e m with ⟨v, k2, e2⟩
  have h2 := numR_e hk he hn
  rw [textR_num hn] at h
  by_cases h0 : e2 = 0
  · rw [if_pos h0] at h
    by_cases h1 : bs.length - k2 < v
    · rw [if_pos h1] at h
      simp only [Prod.mk.injEq] at h
      omega
    · rw [if_neg h1] at h
      simp only [Prod.mk.injEq] at h
      omega
  · rw [if_neg h0] at h
    simp only [Prod.mk.injEq] at h
    omega

theorem rtwoR_e {bs : List UInt8} {k e m v k' e' : Nat} (_hk : k ≤ bs.length) (he : e < 100) (h : rtwoR bs k e m = (v, k', e')) : e' < 100 := by
  rcases hL : lookTwoR bs k e m with ⟨a, x⟩
  have hf := lookTwoR_facts bs k e m a x he hL
  rw [rtwoR_look hL] at h
  by_cases hx : x = 0
  · rw [if_pos hx] at h
    simp only [Prod.mk.injEq] at h
    omega
  · rw [if_neg hx] at h
    simp only [Prod.mk.injEq] at h
    omega

theorem Drawn.rdr {w w' : World} {M r : Nat} {xs : List UInt8} {k e : Nat} (h : Drawn w w') (hr : Rdr w M r xs k e) : Rdr w' M r xs k e := by obtain ⟨n, rfl⟩ := h; exact hr
theorem Drawn.ref {w w' : World} {M r : Nat} {xs : List UInt8} {k e : Nat} (h : Drawn w w') (hr : Ref w M r xs k e) : Ref w' M r xs k e := by obtain ⟨n, rfl⟩ := h; exact hr
theorem Drawn.four {w w' : World} {tb M : Nat} (h : Drawn w w') (hr : Four w tb M) : Four w' tb M := by obtain ⟨n, rfl⟩ := h; exact hr
theorem Drawn.below {w0 w w' : World} {M : Nat} (h : Drawn w w') (hr : Below M w0 w) : Below M w0 w' := by obtain ⟨n, rfl⟩ := h; exact below_drewN' hr n
theorem Drawn.size {w w' : World} {M : Nat} (h : Drawn w w') (hr : M ≤ w.heap.size) : M ≤ w'.heap.size := by obtain ⟨n, rfl⟩ := h; exact hr
theorem Drawn.cell {w w' : World} {p : Addr} {v : Value} (h : Drawn w w') (hr : w.cell? p = some v) : w'.cell? p = some v := by obtain ⟨n, rfl⟩ := h; exact hr

/-- the values that the sizes may have -/
def InI64 (m : Int) : Prop := -9223372036854775808 ≤ m ∧ m ≤ 9223372036854775807

theorem four_new (w : World) (t : TypeId) (p0 p1 p2 p3 : Option Addr) (c0 c1 c2 c3 : Nat) (x0 x1 x2 x3 : List UInt8)
    (h0 : Rd w (.slice p0 x0.length c0) x0) (h1 : Rd w (.slice p1 x1.length c1) x1) (h2 : Rd w (.slice p2 x2.length c2) x2) (h3 : Rd w (.slice p3 x3.length c3) x3)
    (v0 : x0 = [] ∨ ∀ g, (Value.slice p0 x0.length c0).ownBlock = some g → g < w.heap.size) (v1 : x1 = [] ∨ ∀ g, (Value.slice p1 x1.length c1).ownBlock = some g → g < w.heap.size)
    (v2 : x2 = [] ∨ ∀ g, (Value.slice p2 x2.length c2).ownBlock = some g → g < w.heap.size) (v3 : x3 = [] ∨ ∀ g, (Value.slice p3 x3.length c3).ownBlock = some g → g < w.heap.size)
    (l0 : x0.length ≤ 1000) (l1 : x1.length ≤ 1000) (l2 : x2.length ≤ 1000) (l3 : x3.length ≤ 1000) :
    Four (w.alloc (.cells #[.slice p0 x0.length c0, .slice p1 x1.length c1, .slice p2 x2.length c2, .slice p3 x3.length c3] t)) w.heap.size (w.heap.size + 1) := by
  refine ⟨by omega, fun j hj => ?_⟩
  match j, hj with
  | 0, _ => exact ⟨p0, c0, x0, by simp, h0.alloc _ v0, v0.imp id (fun h g hg => by have := h g hg; omega), l0⟩
  | 1, _ => exact ⟨p1, c1, x1, by simp, h1.alloc _ v1, v1.imp id (fun h g hg => by have := h g hg; omega), l1⟩
  | 2, _ => exact ⟨p2, c2, x2, by simp, h2.alloc _ v2, v2.imp id (fun h g hg => by have := h g hg; omega), l2⟩
  | 3, _ => exact ⟨p3, c3, x3, by simp, h3.alloc _ v3, v3.imp id (fun h g hg => by have := h g hg; omega), l3⟩

set_option maxHeartbeats 4000000 in
set_option maxRecDepth 100000 in
theorem reads_short (v0 : Value) (p1 p2 : Option Addr) (n1 c1 n2 c2 : Nat) (a : Nat) (c : Int) (l : List UInt8) (zs : List Int) (A Mo : Nat → Int) (w : World) (hr : Rd w v0 l) (hv : l = [] ∨ ∀ g, v0.ownBlock = some g → g < w.heap.size)
    (hi : RdI w (.slice p1 n1 c1) zs) (hvi : zs = [] ∨ ∀ g, (Value.slice p1 n1 c1).ownBlock = some g → g < w.heap.size) (hzl : zs.length = n1) (hac : IsActs w p2 n2 c2 A Mo)
    (hl : l.length ≤ 60) (h1 : n1 ≤ 20) (h2 : n2 ≤ 30) (ha : a ≤ 65535) (hc0 : 0 ≤ c) (hc1 : c ≤ 255) :
    Calls Try.prog 4 #[v0, .slice p1 n1 c1, .slice p2 n2 c2, .int .u16 a, .int .u8 c] w fun e w' => e = .returned (.bool true) ∧ Below w.heap.size w w' := by
  obtain ⟨p, c0, rfl, hrest⟩ := id hr
  clear hrest
  have h60b : decide (60 < (l.length : Int)) = false := decide_eq_false (by omega)
  have h20b : decide (20 < (n1 : Int)) = false := decide_eq_false (by omega)
  have h30b : decide (30 < (n2 : Int)) = false := decide_eq_false (by omega)
  have hnl : (nums zs).length ≤ 200 := by
    obtain ⟨_, _, _, _, _, hz, _⟩ := hi
    have := nums_take_len zs hz zs.length
    rw [List.take_of_length_le (Nat.le_refl _)] at this
    omega
  have hlit : nb (ByteArray.size { data := #[116, 101, 120, 116] }) = [4] := nb_small (by decide)
  have hcu := u8_of hc0 hc1
  obtain ⟨cu, hcu2⟩ : ∃ cu : UInt8, u8 cu = .int .u8 c := ⟨_, hcu⟩
  have HR := Lib.hid hr
  have HV := Lib.hid hv
  have HI := Lib.hid hi
  have HVI := Lib.hid hvi
  have HAC := Lib.hid hac
  have HCU := Lib.hid hcu2
  have HLIT := Lib.hid hlit
  have HZL := Lib.hid hzl
  have hzl2 : zs.length ≤ 1000 := by omega
  clear hr hv hi hvi hac hcu hcu2 hlit hzl
  go_enter Try.func4, Try.ntmps4
  go_wp2_with fail
  refine (known_any _).mono ?_
  rintro e w1 ⟨rfl, hB1⟩
  have hs1 := hB1.size
  go_wp2_with fail
  refine (fnum_any (.slice none 0 0) _ [] zs _ (rd_nil _) (by simp) (HI.out.below hB1 HVI.out) (HVI.out.imp id (fun h g hg => Nat.lt_of_lt_of_le (h g hg) hs1)) hzl2).mono ?_
  rintro e w2 ⟨u1, rfl, o2, b2⟩
  have hB2 : Below w.heap.size w w2 := hB1.trans (b2.mono hs1)
  have hs2 := hB2.size
  rw [List.nil_append] at o2
  clear hB1 hs1 b2
  go_wp2_with fail
  refine (ftext_any u1 _ _ _ o2.rd (.inr fun g hg => (o2.lt g hg).2) (by omega) (by decide)).mono ?_
  rintro e w3 ⟨u2, rfl, o3, b3⟩
  have hB3 : Below w.heap.size w w3 := hB2.trans (b3.mono hs2)
  have hs3 := hB3.size
  rw [HLIT.out] at o3
  obtain ⟨b, hbn⟩ : ∃ b, b = nums zs ++ ([4] ++ sb { data := #[116, 101, 120, 116] }) := ⟨_, rfl⟩
  rw [← hbn] at o3
  have hb0 : 0 < b.length := by rw [hbn]; simp; omega
  have hb1 : b.length ≤ 300 := by rw [hbn]; simp [sb]; omega
  have o3' := o3.mono (B' := w.heap.size) hs2
  obtain ⟨g, cap, rfl, hg, hput⟩ := o3'.put hb0
  obtain ⟨j, hj⟩ : ∃ j, j = a % b.length := ⟨_, rfl⟩
  have hmod : j < b.length := by rw [hj]; exact Nat.mod_lt _ hb0
  obtain ⟨⟨uo, hcell⟩, hfro, hst⟩ := hput j hmod
  have hst1 := hst cu
  rw [HCU.out] at hst1
  have hmI : ((a : Int) % (b.length : Int)) = (j : Int) := by rw [hj]; omega
  have hbne : ((b.length : Int) == 0) = false := beq_eq_false_iff_ne.2 (by omega)
  clear hB2 hs2 o2 b3 o3 hput hst hbn hj
  go_wp2_with fail
  have hB4 := hB3.setCell (p := ⟨g, j, none⟩) hg (.int .u8 c)
  have o4 := hst1.1
  clear hst1 o3' hcell hfro hmI hbne hB3 hs3 hg
  generalize w3.setCell ⟨g, j, none⟩ (.int .u8 c) = w4 at *
  have hs4 := hB4.size
  have hxl : (b.set j cu).length = b.length := List.length_set
  refine (fnum_any (.slice none 0 0) _ [] zs _ (rd_nil _) (by simp) (HI.out.below hB4 HVI.out) (HVI.out.imp id (fun h g hg => Nat.lt_of_lt_of_le (h g hg) hs4)) hzl2).mono ?_
  rintro e w5 ⟨u5, rfl, o5, b5⟩
  rw [List.nil_append] at o5
  have hB5 : Below w.heap.size w w5 := hB4.trans (b5.mono hs4)
  have hs5 := hB5.size
  have o45 := o4.below b5 (fun g hg => (o4.lt g hg).2)
  have o55 := o5.mono (B' := w.heap.size) hs4
  have hm5 := HR.out.below (hB5.alloc hs5 (.cells #[.int .u8 255, .int .u8 255, .int .u8 255, .int .u8 255, .int .u8 255, .int .u8 255, .int .u8 255, .int .u8 255, .int .u8 c] 5)) HV.out
  have hlit9 : (#[.int .u8 255, .int .u8 255, .int .u8 255, .int .u8 255, .int .u8 255, .int .u8 255, .int .u8 255, .int .u8 255, .int .u8 c] : Array Value).toList = ([255, 255, 255, 255, 255, 255, 255, 255, cu] : List UInt8).map u8 := by
    rw [← HCU.out]
    rfl
  have HL9 := Lib.hid hlit9
  clear hlit9 o5 b5 o4 hB4 hs4
  go_wp2_with (at_builtin; refine wp_app rfl _ _ rfl w5.heap.size _ [255, 255, 255, 255, 255, 255, 255, 255, cu] rfl (Own.lit (w := w5) (B := w5.heap.size) _ [255, 255, 255, 255, 255, 255, 255, 255, cu] HL9.out (Nat.le_refl _) (by simp)) _ l rfl hm5 ?d5 ?d6 ?_)
  case d5 => simp; omega
  case d6 => simp
  intro v6 w6 o6 hg6 _
  have b6 : Below w5.heap.size w5 w6 := ((Below.refl _ w5).alloc (Nat.le_refl _) _).grown hg6 (by simp) (by intro k hk; simp [Value.ownBlock] at hk; omega)
  have hB6 : Below w.heap.size w w6 := hB5.trans (b6.mono hs5)
  have hs6 := hB6.size
  have o46 := o45.below b6 (fun g hg => (o45.lt g hg).2)
  have o56 := o55.below b6 (fun g hg => (o55.lt g hg).2)
  have hr6 := HR.out.below hB6 HV.out
  clear hg6 b6 o45 o55 hm5 hB5 hs5
  obtain ⟨a5, c5, rfl, _, _⟩ := o56.len
  obtain ⟨a6, c6, rfl, _, _⟩ := o6.len
  have hfour : Four (w6.alloc (.cells #[.slice p l.length c0, .slice (some ⟨g, 0, none⟩) b.length cap, .slice a5 (nums zs).length c5, .slice a6 (l.length + 1 + 1 + 1 + 1 + 1 + 1 + 1 + 1 + 1) c6] 22)) w6.heap.size (w6.heap.size + 1) := by
    have hx := o46.rd
    have hxlt := o46.lt
    have := four_new w6 22 p (some ⟨g, 0, none⟩) a5 a6 c0 cap c5 c6 l (b.set j cu) (nums zs) (255 :: 255 :: 255 :: 255 :: 255 :: 255 :: 255 :: 255 :: cu :: l) hr6 (by rw [hxl]; exact hx) o56.rd o6.rd
      (HV.out.imp id (fun h g hg => Nat.lt_of_lt_of_le (h g hg) hs6)) (.inr fun g hg => (hxlt g (by rw [hxl] at hg; exact hg)).2) (.inr fun g hg => (o56.lt g hg).2) (.inr fun g hg => (o6.lt g hg).2) (by omega) (by omega) (by omega) (by simp; omega)
    rw [hxl] at this
    exact this
  have hB7 := hB6.alloc hs6 (.cells #[.slice p l.length c0, .slice (some ⟨g, 0, none⟩) b.length cap, .slice a5 (nums zs).length c5, .slice a6 (l.length + 1 + 1 + 1 + 1 + 1 + 1 + 1 + 1 + 1) c6] 22)
  obtain ⟨tb, htb⟩ : ∃ tb, tb = w6.heap.size := ⟨_, rfl⟩
  rw [← htb] at hfour
  have HTB := Lib.hid htb
  have HX := Lib.hid hxl
  clear o46 o56 o6 hr6 hB6 htb hxl
  go_wp2
  rw [← HTB.out]
  go_loopw [57] (fun i wr => ∃ j : Nat, i = .int .i64 j ∧ j ≤ 4 ∧ Four wr tb (tb + 1) ∧ tb + 1 ≤ wr.heap.size ∧ Below w.heap.size w wr) (fun i _ => 4 - (intOf i).toNat)
  case atStart => exact ⟨0, rfl, by omega, hfour, by rw [HTB.out]; simp, hB7⟩
  case round =>
    clear hfour hB7
    obtain ⟨j, rfl, hj, hfour, hts, hB⟩ := hrel
    have hs := hB.size
    by_cases hlt : j < 4
    · obtain ⟨p, c, xs, hcell, hrd, hlv, hxl⟩ := hfour.2 j hlt
      obtain ⟨M, hM⟩ : ∃ M, M = wr.heap.size := ⟨_, rfl⟩
      have hlvM : xs = [] ∨ ∀ g, (Value.slice p xs.length c).ownBlock = some g → g < M := hlv.imp id (fun h g hg => by have := h g hg; omega)
      have hle : xs.length ≤ c := by
        obtain ⟨_, _, he, h1, _⟩ := id hrd
        simp only [Value.slice.injEq] at he
        omega
      have HM := Lib.hid hM
      have HTS : tb + 1 ≤ M := by omega
      have hsM : w.heap.size ≤ M := by omega
      go_wp2_with fail
      refine (new_any _ xs _ hrd (hlv.imp id (fun h g hg => by have := h g hg; omega)) (by omega)).mono ?_
      rintro e w7 ⟨r, rfl, hr7, hb7⟩
      rw [← HM.out] at hr7 hb7
      have hB7 : Below w.heap.size w w7 := hB.trans (hb7.mono hsM)
      have hf7 : Four w7 tb (tb + 1) := hfour.below (hb7.mono HTS)
      have hd7 := hrd.below hb7 hlvM
      have hrM : M ≤ r := hr7.1
      have hrl := hr7.lt
      have hq7 : Ref (w7.alloc (.cells #[.slice p xs.length c, .int .i64 0, .int .i64 0] 37)) M w7.heap.size xs 0 0 :=
        ⟨by omega, Nat.zero_le _, p, c, heap_alloc_new w7 _, hd7.alloc _ (hlvM.imp id (fun h g hg => by have := h g hg; omega)), hlvM⟩
      have hb8 : Below w7.heap.size w7 (w7.alloc (.cells #[.slice p xs.length c, .int .i64 0, .int .i64 0] 37)) := (Below.refl _ _).alloc (Nat.le_refl _) _
      have hr8 := hr7.below hb8 (Nat.le_refl _)
      have hf8 := hf7.below (hb8.mono (by omega))
      have hB8 := hB7.trans (hb8.mono hB7.size)
      obtain ⟨qb, hqb⟩ : ∃ qb, qb = w7.heap.size := ⟨_, rfl⟩
      have hrq : r < qb := by omega
      have HQB := Lib.hid hqb
      rw [← hqb] at hq7
      clear hb7 hr7 hf7 hd7 hb8 hB7 hrd hfour hB hcell hqb hM
      go_wp2
      rw [← HQB.out]
      go_loopw [16] (fun i wi => ∃ (j k e : Nat), i = .int .i64 j ∧ j ≤ n2 ∧ e < 100 ∧ Rdr wi M r xs k e ∧ Ref wi M qb xs k e ∧ Four wi tb (tb + 1) ∧ M ≤ wi.heap.size ∧ Below w.heap.size w wi) (fun i _ => n2 - (intOf i).toNat)
      case atStart => exact ⟨0, 0, 0, rfl, Nat.zero_le _, by decide, hr8, hq7, hf8, by rw [HQB.out] at hrq; simp; omega, hB8⟩
      case round =>
        clear hr8 hq7 hf8 hB8
        obtain ⟨i, k, e, rfl, hi, he, hr, hq, hf, hMi, hB⟩ := hrel
        have hs := hB.size
        by_cases hin : i < n2
        · obtain ⟨ab, off, rfl, hnc, hacts⟩ := acts_some HAC.out (by omega)
          obtain ⟨hact, hA0, hA1, hM1, hM2⟩ := hacts i hin
          have hca := hact.below hB
          have hca1 := hca.1
          have hca2 := hca.2
          have HACT := Lib.hid hact
          clear hacts hca hact
          have hBd := hB.drew
          have hsd : w.heap.size ≤ wr.drew.heap.size := hs
          clear h60b h20b h30b hnl hzl2 hb0 hb1 hmod hs6 hlv hlvM hle hrl hts
          have h80 : (0 : Int) ≤ A i / 8 := by omega
          have hrw : w.heap.size ≤ r := by omega
          have hTr : tb + 1 ≤ r := by omega
          have hTq : tb + 1 ≤ qb := by omega
          have hqw : w.heap.size ≤ qb := by omega
          have hqM : M ≤ qb := by omega
          have hx4 : xs.length ≤ 400000 := by omega
          have hk1 : k ≤ xs.length := hq.2.1
          go_upto_region 15 with fail
          go_cut [17] (fun s wx => ∃ m : Int, s = .int .i64 m ∧ -9223372036854775808 ≤ m ∧ m ≤ 9223372036854775807 ∧ Below wr.heap.size wr wx)
          case first =>
            have hbb := fun o => ((Below.refl wr.heap.size wr).alloc (Nat.le_refl _) o).drew
            have hw1 : (wr.alloc (.cells #[.int .i64 (Mo i), .int .i64 9223372036854775807, .int .i64 127, .int .i64 1000] 3)).cell? ⟨ab, off + i * 2, none⟩ = some (.int .u8 (A i)) := (HACT.out.below (hB.alloc hs _)).1
            clear hr hq hf hB hBd
            rcases (show A i / 8 % 4 = 0 ∨ A i / 8 % 4 = 1 ∨ A i / 8 % 4 = 2 ∨ A i / 8 % 4 = 3 by omega) with ht | ht | ht | ht
            all_goals
              go_region
              all_goals
                go_wp2_with fail
                go_meet
                first | exact ⟨_, rfl, hM1, hM2, hbb _⟩ | exact ⟨_, rfl, by decide, by decide, hbb _⟩
          case rest =>
            obtain ⟨m, rfl, hm1, hm2, hBw⟩ := hcut
            have hB1 := hB.trans (hBw.mono hs)
            have hs1 := hB1.size
            have hr1 := hr.below hBw (Nat.le_refl _)
            have hq1 := hq.below hBw (Nat.le_refl _)
            have hf1 := hf.below (hBw.mono (Nat.le_trans HTS hMi))
            have hMi1 : M ≤ wc.heap.size := Nat.le_trans hMi hBw.size
            have hTc : tb + 1 ≤ wc.heap.size := by omega
            have hca3 := (HACT.out.below hB1).1
            clear hca1 hca2 hr hq hf hB hs hBw hBd hsd hMi h80
            rcases (show A i % 6 = 0 ∨ A i % 6 = 1 ∨ A i % 6 = 2 ∨ A i % 6 = 3 ∨ A i % 6 = 4 ∨ A i % 6 = 5 by omega) with ht | ht | ht | ht | ht | ht
            · go_wp2_with fail
              refine (rnum_any M r xs k e m _ hr1 he hx4 hm1 hm2).mono ?_
              rintro ex w9 ⟨v, k9, e9, HN, rfl, hg9⟩
              have he9 : e9 < 100 := numR_e hk1 he HN.out
              have hB9 : Below w.heap.size w w9 := hB1.trans (hg9.below hs1 hrw)
              have hb9 : Below M wc w9 := hg9.below hMi1 hrM
              have hf9 : Four w9 tb (tb + 1) := hf1.below (hg9.below hTc hTr)
              have hM9 : M ≤ w9.heap.size := Nat.le_trans hMi1 hb9.size
              have hr9 := hg9.1
              have hq9 : Ref w9 M qb xs k e := hq1.other hg9 hrM (by omega)
              clear hg9 hb9 hr1 hq1 hf1 hB1 hs1 hMi1 hTc
              go_wp2_with fail
              refine (fnumr_at HN.out hq9 hx4 hm1 hm2).mono ?_
              rintro ey w10 ⟨rfl, hg10⟩
              have hB10 : Below w.heap.size w w10 := hB9.trans (hg10.below hB9.size hqw)
              have hb10 : Below M w9 w10 := hg10.below hM9 hqM
              have hf10 : Four w10 tb (tb + 1) := hf9.below (hg10.below (by omega) hTq)
              have hM10 : M ≤ w10.heap.size := Nat.le_trans hM9 hb10.size
              have hr10' : Rdr w10 M r xs k9 e9 := hr9.otherF hg10 hrq
              have hr10 : Rdr w10.drew M r xs k9 e9 := hr10'
              clear hr10'
              have hq10 : Ref w10.drew M qb xs k9 e9 := hg10.1
              have hBd10 := hB10.drew
              obtain ⟨_, _, _, _, _, _, _, hc2, _, _⟩ := hq10.cells
              clear hg10 hb10 hr9 hq9 hf9 hB9 hM9
              go_wp2_with fail
              go_region_held3 (fun w' => w'.cell? ⟨qb, 2, none⟩ = some (.int .i64 e9)) (first | exact hc2 | exact hD12.cell hc2 | exact hD13.cell (hD12.cell hc2)) (first | (go_at_call 27; refine (rerr_any M r xs k9 e9 _ hr10).mono ?_; rintro ez w11 ⟨rfl, rfl⟩) | (go_at_call 28; refine (rdone_any M r xs k9 e9 _ hr10 hx4).mono ?_; rintro ez w12 ⟨rfl, hD12⟩; have hq12 := hD12.ref hq10) | (go_at_call 29; refine (fdone_any M qb xs k9 e9 _ hq12 hx4).mono ?_; rintro ez w13 ⟨rfl, hD13⟩))
              all_goals
                have hr11 := hD13.rdr (hD12.rdr hr10)
                have hq11 := hD13.ref hq12
                have hB11 := hD13.below (hD12.below hBd10)
                have hf11 := hD13.four (hD12.four (w := w10.drew) hf10)
                have hM11 := hD13.size (hD12.size (w := w10.drew) hM10)
                clear hr10 hq10 hBd10 hf10 hM10 hq12 hc2 hD12 hD13
                go_wp2
                go_roundw
                case rel =>
                  exact ⟨i + 1, k9, e9, by go_num, by omega, he9, hr11, hq11, hf11, hM11, hB11⟩
                case measure => simp [intOf]; omega
            · go_wp2_with fail
              refine (rnum_any M r xs k e m _ hr1 he hx4 hm1 hm2).mono ?_
              rintro ex w9 ⟨v, k9, e9, HN, rfl, hg9⟩
              have he9 : e9 < 100 := numR_e hk1 he HN.out
              have hB9 : Below w.heap.size w w9 := hB1.trans (hg9.below hs1 hrw)
              have hb9 : Below M wc w9 := hg9.below hMi1 hrM
              have hf9 : Four w9 tb (tb + 1) := hf1.below (hg9.below hTc hTr)
              have hM9 : M ≤ w9.heap.size := Nat.le_trans hMi1 hb9.size
              have hr9 := hg9.1
              have hq9 : Ref w9 M qb xs k e := hq1.other hg9 hrM (by omega)
              clear hg9 hb9 hr1 hq1 hf1 hB1 hs1 hMi1 hTc
              go_wp2_with fail
              refine (fnumr_at HN.out hq9 hx4 hm1 hm2).mono ?_
              rintro ey w10 ⟨rfl, hg10⟩
              have hB10 : Below w.heap.size w w10 := hB9.trans (hg10.below hB9.size hqw)
              have hb10 : Below M w9 w10 := hg10.below hM9 hqM
              have hf10 : Four w10 tb (tb + 1) := hf9.below (hg10.below (by omega) hTq)
              have hM10 : M ≤ w10.heap.size := Nat.le_trans hM9 hb10.size
              have hr10' : Rdr w10 M r xs k9 e9 := hr9.otherF hg10 hrq
              have hr10 : Rdr w10.drew M r xs k9 e9 := hr10'
              clear hr10'
              have hq10 : Ref w10.drew M qb xs k9 e9 := hg10.1
              have hBd10 := hB10.drew
              obtain ⟨_, _, _, _, _, _, _, hc2, _, _⟩ := hq10.cells
              clear hg10 hb10 hr9 hq9 hf9 hB9 hM9
              go_wp2_with fail
              go_region_held3 (fun w' => w'.cell? ⟨qb, 2, none⟩ = some (.int .i64 e9)) (first | exact hc2 | exact hD12.cell hc2 | exact hD13.cell (hD12.cell hc2)) (first | (go_at_call 27; refine (rerr_any M r xs k9 e9 _ hr10).mono ?_; rintro ez w11 ⟨rfl, rfl⟩) | (go_at_call 28; refine (rdone_any M r xs k9 e9 _ hr10 hx4).mono ?_; rintro ez w12 ⟨rfl, hD12⟩; have hq12 := hD12.ref hq10) | (go_at_call 29; refine (fdone_any M qb xs k9 e9 _ hq12 hx4).mono ?_; rintro ez w13 ⟨rfl, hD13⟩))
              all_goals
                have hr11 := hD13.rdr (hD12.rdr hr10)
                have hq11 := hD13.ref hq12
                have hB11 := hD13.below (hD12.below hBd10)
                have hf11 := hD13.four (hD12.four (w := w10.drew) hf10)
                have hM11 := hD13.size (hD12.size (w := w10.drew) hM10)
                clear hr10 hq10 hBd10 hf10 hM10 hq12 hc2 hD12 hD13
                go_wp2
                go_roundw
                case rel =>
                  exact ⟨i + 1, k9, e9, by go_num, by omega, he9, hr11, hq11, hf11, hM11, hB11⟩
                case measure => simp [intOf]; omega
            · go_wp2_with fail
              refine (rnum_any M r xs k e m _ hr1 he hx4 hm1 hm2).mono ?_
              rintro ex w9 ⟨v, k9, e9, HN, rfl, hg9⟩
              have he9 : e9 < 100 := numR_e hk1 he HN.out
              have hB9 : Below w.heap.size w w9 := hB1.trans (hg9.below hs1 hrw)
              have hb9 : Below M wc w9 := hg9.below hMi1 hrM
              have hf9 : Four w9 tb (tb + 1) := hf1.below (hg9.below hTc hTr)
              have hM9 : M ≤ w9.heap.size := Nat.le_trans hMi1 hb9.size
              have hr9 := hg9.1
              have hq9 : Ref w9 M qb xs k e := hq1.other hg9 hrM (by omega)
              clear hg9 hb9 hr1 hq1 hf1 hB1 hs1 hMi1 hTc
              go_wp2_with fail
              refine (fnumr_at HN.out hq9 hx4 hm1 hm2).mono ?_
              rintro ey w10 ⟨rfl, hg10⟩
              have hB10 : Below w.heap.size w w10 := hB9.trans (hg10.below hB9.size hqw)
              have hb10 : Below M w9 w10 := hg10.below hM9 hqM
              have hf10 : Four w10 tb (tb + 1) := hf9.below (hg10.below (by omega) hTq)
              have hM10 : M ≤ w10.heap.size := Nat.le_trans hM9 hb10.size
              have hr10' : Rdr w10 M r xs k9 e9 := hr9.otherF hg10 hrq
              have hr10 : Rdr w10.drew M r xs k9 e9 := hr10'
              clear hr10'
              have hq10 : Ref w10.drew M qb xs k9 e9 := hg10.1
              have hBd10 := hB10.drew
              obtain ⟨_, _, _, _, _, _, _, hc2, _, _⟩ := hq10.cells
              clear hg10 hb10 hr9 hq9 hf9 hB9 hM9
              go_wp2_with fail
              go_region_held3 (fun w' => w'.cell? ⟨qb, 2, none⟩ = some (.int .i64 e9)) (first | exact hc2 | exact hD12.cell hc2 | exact hD13.cell (hD12.cell hc2)) (first | (go_at_call 27; refine (rerr_any M r xs k9 e9 _ hr10).mono ?_; rintro ez w11 ⟨rfl, rfl⟩) | (go_at_call 28; refine (rdone_any M r xs k9 e9 _ hr10 hx4).mono ?_; rintro ez w12 ⟨rfl, hD12⟩; have hq12 := hD12.ref hq10) | (go_at_call 29; refine (fdone_any M qb xs k9 e9 _ hq12 hx4).mono ?_; rintro ez w13 ⟨rfl, hD13⟩))
              all_goals
                have hr11 := hD13.rdr (hD12.rdr hr10)
                have hq11 := hD13.ref hq12
                have hB11 := hD13.below (hD12.below hBd10)
                have hf11 := hD13.four (hD12.four (w := w10.drew) hf10)
                have hM11 := hD13.size (hD12.size (w := w10.drew) hM10)
                clear hr10 hq10 hBd10 hf10 hM10 hq12 hc2 hD12 hD13
                go_wp2
                go_roundw
                case rel =>
                  exact ⟨i + 1, k9, e9, by go_num, by omega, he9, hr11, hq11, hf11, hM11, hB11⟩
                case measure => simp [intOf]; omega
            · go_wp2_with fail
              refine (rint_any M r xs k e _ hr1 he hx4).mono ?_
              rintro ex w9 ⟨v, k9, e9, HN, rfl, hg9⟩
              have he9 : e9 < 100 := numR_e hk1 he HN.out
              have hB9 : Below w.heap.size w w9 := hB1.trans (hg9.below hs1 hrw)
              have hb9 : Below M wc w9 := hg9.below hMi1 hrM
              have hf9 : Four w9 tb (tb + 1) := hf1.below (hg9.below hTc hTr)
              have hM9 : M ≤ w9.heap.size := Nat.le_trans hMi1 hb9.size
              have hr9 := hg9.1
              have hq9 : Ref w9 M qb xs k e := hq1.other hg9 hrM (by omega)
              clear hg9 hb9 hr1 hq1 hf1 hB1 hs1 hMi1 hTc
              go_wp2_with fail
              refine (fintr_at HN.out hq9 he hx4).mono ?_
              rintro ey w10 ⟨rfl, hg10⟩
              have hB10 : Below w.heap.size w w10 := hB9.trans (hg10.below hB9.size hqw)
              have hb10 : Below M w9 w10 := hg10.below hM9 hqM
              have hf10 : Four w10 tb (tb + 1) := hf9.below (hg10.below (by omega) hTq)
              have hM10 : M ≤ w10.heap.size := Nat.le_trans hM9 hb10.size
              have hr10' : Rdr w10 M r xs k9 e9 := hr9.otherF hg10 hrq
              have hr10 : Rdr w10.drew M r xs k9 e9 := hr10'
              clear hr10'
              have hq10 : Ref w10.drew M qb xs k9 e9 := hg10.1
              have hBd10 := hB10.drew
              obtain ⟨_, _, _, _, _, _, _, hc2, _, _⟩ := hq10.cells
              clear hg10 hb10 hr9 hq9 hf9 hB9 hM9
              go_wp2_with fail
              go_region_held3 (fun w' => w'.cell? ⟨qb, 2, none⟩ = some (.int .i64 e9)) (first | exact hc2 | exact hD12.cell hc2 | exact hD13.cell (hD12.cell hc2)) (first | (go_at_call 27; refine (rerr_any M r xs k9 e9 _ hr10).mono ?_; rintro ez w11 ⟨rfl, rfl⟩) | (go_at_call 28; refine (rdone_any M r xs k9 e9 _ hr10 hx4).mono ?_; rintro ez w12 ⟨rfl, hD12⟩; have hq12 := hD12.ref hq10) | (go_at_call 29; refine (fdone_any M qb xs k9 e9 _ hq12 hx4).mono ?_; rintro ez w13 ⟨rfl, hD13⟩))
              all_goals
                have hr11 := hD13.rdr (hD12.rdr hr10)
                have hq11 := hD13.ref hq12
                have hB11 := hD13.below (hD12.below hBd10)
                have hf11 := hD13.four (hD12.four (w := w10.drew) hf10)
                have hM11 := hD13.size (hD12.size (w := w10.drew) hM10)
                clear hr10 hq10 hBd10 hf10 hM10 hq12 hc2 hD12 hD13
                go_wp2
                go_roundw
                case rel =>
                  exact ⟨i + 1, k9, e9, by go_num, by omega, he9, hr11, hq11, hf11, hM11, hB11⟩
                case measure => simp [intOf]; omega
            · go_wp2_with fail
              refine (rtext_any M r xs k e m _ hr1 he hx4 hm1 hm2).mono ?_
              rintro ex w9 ⟨v, k9, e9, HN, rfl, hg9⟩
              have he9 : e9 < 100 := textR_e hk1 he HN.out
              have hB9 : Below w.heap.size w w9 := hB1.trans (hg9.below hs1 hrw)
              have hb9 : Below M wc w9 := hg9.below hMi1 hrM
              have hf9 : Four w9 tb (tb + 1) := hf1.below (hg9.below hTc hTr)
              have hM9 : M ≤ w9.heap.size := Nat.le_trans hMi1 hb9.size
              have hr9 := hg9.1
              have hq9 : Ref w9 M qb xs k e := hq1.other hg9 hrM (by omega)
              clear hg9 hb9 hr1 hq1 hf1 hB1 hs1 hMi1 hTc
              go_wp2_with fail
              refine (ftextr_at HN.out hq9 he hx4 hm1 hm2).mono ?_
              rintro ey w10 ⟨rfl, hg10⟩
              have hB10 : Below w.heap.size w w10 := hB9.trans (hg10.below hB9.size hqw)
              have hb10 : Below M w9 w10 := hg10.below hM9 hqM
              have hf10 : Four w10 tb (tb + 1) := hf9.below (hg10.below (by omega) hTq)
              have hM10 : M ≤ w10.heap.size := Nat.le_trans hM9 hb10.size
              have hr10' : Rdr w10 M r xs k9 e9 := hr9.otherF hg10 hrq
              have hr10 : Rdr w10.drew M r xs k9 e9 := hr10'
              clear hr10'
              have hq10 : Ref w10.drew M qb xs k9 e9 := hg10.1
              have hBd10 := hB10.drew
              obtain ⟨_, _, _, _, _, _, _, hc2, _, _⟩ := hq10.cells
              clear hg10 hb10 hr9 hq9 hf9 hB9 hM9
              go_wp2_with fail
              go_region_held3 (fun w' => w'.cell? ⟨qb, 2, none⟩ = some (.int .i64 e9)) (first | exact hc2 | exact hD12.cell hc2 | exact hD13.cell (hD12.cell hc2)) (first | (go_at_call 27; refine (rerr_any M r xs k9 e9 _ hr10).mono ?_; rintro ez w11 ⟨rfl, rfl⟩) | (go_at_call 28; refine (rdone_any M r xs k9 e9 _ hr10 hx4).mono ?_; rintro ez w12 ⟨rfl, hD12⟩; have hq12 := hD12.ref hq10) | (go_at_call 29; refine (fdone_any M qb xs k9 e9 _ hq12 hx4).mono ?_; rintro ez w13 ⟨rfl, hD13⟩))
              all_goals
                have hr11 := hD13.rdr (hD12.rdr hr10)
                have hq11 := hD13.ref hq12
                have hB11 := hD13.below (hD12.below hBd10)
                have hf11 := hD13.four (hD12.four (w := w10.drew) hf10)
                have hM11 := hD13.size (hD12.size (w := w10.drew) hM10)
                clear hr10 hq10 hBd10 hf10 hM10 hq12 hc2 hD12 hD13
                go_wp2
                go_roundw
                case rel =>
                  exact ⟨i + 1, k9, e9, by go_num, by omega, he9, hr11, hq11, hf11, hM11, hB11⟩
                case measure => simp [intOf]; omega
            · go_wp2_with fail
              refine (rtwo_any M r xs k e m _ hr1 he hx4 hm1 hm2).mono ?_
              rintro ex w9 ⟨v, k9, e9, HN, rfl, hg9⟩
              have he9 : e9 < 100 := rtwoR_e hk1 he HN.out
              have hB9 : Below w.heap.size w w9 := hB1.trans (hg9.below hs1 hrw)
              have hb9 : Below M wc w9 := hg9.below hMi1 hrM
              have hf9 : Four w9 tb (tb + 1) := hf1.below (hg9.below hTc hTr)
              have hM9 : M ≤ w9.heap.size := Nat.le_trans hMi1 hb9.size
              have hr9 := hg9.1
              have hq9 : Ref w9 M qb xs k e := hq1.other hg9 hrM (by omega)
              clear hg9 hb9 hr1 hq1 hf1 hB1 hs1 hMi1 hTc
              go_wp2_with fail
              refine (ftwor_at HN.out hq9 hx4).mono ?_
              rintro ey w10 ⟨rfl, hg10⟩
              have hB10 : Below w.heap.size w w10 := hB9.trans (hg10.below hB9.size hqw)
              have hb10 : Below M w9 w10 := hg10.below hM9 hqM
              have hf10 : Four w10 tb (tb + 1) := hf9.below (hg10.below (by omega) hTq)
              have hM10 : M ≤ w10.heap.size := Nat.le_trans hM9 hb10.size
              have hr10' : Rdr w10 M r xs k9 e9 := hr9.otherF hg10 hrq
              have hr10 : Rdr w10.drew M r xs k9 e9 := hr10'
              clear hr10'
              have hq10 : Ref w10.drew M qb xs k9 e9 := hg10.1
              have hBd10 := hB10.drew
              obtain ⟨_, _, _, _, _, _, _, hc2, _, _⟩ := hq10.cells
              clear hg10 hb10 hr9 hq9 hf9 hB9 hM9
              go_wp2_with fail
              go_region_held3 (fun w' => w'.cell? ⟨qb, 2, none⟩ = some (.int .i64 e9)) (first | exact hc2 | exact hD12.cell hc2 | exact hD13.cell (hD12.cell hc2)) (first | (go_at_call 27; refine (rerr_any M r xs k9 e9 _ hr10).mono ?_; rintro ez w11 ⟨rfl, rfl⟩) | (go_at_call 28; refine (rdone_any M r xs k9 e9 _ hr10 hx4).mono ?_; rintro ez w12 ⟨rfl, hD12⟩; have hq12 := hD12.ref hq10) | (go_at_call 29; refine (fdone_any M qb xs k9 e9 _ hq12 hx4).mono ?_; rintro ez w13 ⟨rfl, hD13⟩))
              all_goals
                have hr11 := hD13.rdr (hD12.rdr hr10)
                have hq11 := hD13.ref hq12
                have hB11 := hD13.below (hD12.below hBd10)
                have hf11 := hD13.four (hD12.four (w := w10.drew) hf10)
                have hM11 := hD13.size (hD12.size (w := w10.drew) hM10)
                clear hr10 hq10 hBd10 hf10 hM10 hq12 hc2 hD12 hD13
                go_wp2
                go_roundw
                case rel =>
                  exact ⟨i + 1, k9, e9, by go_num, by omega, he9, hr11, hq11, hf11, hM11, hB11⟩
                case measure => simp [intOf]; omega
        · have hf' := hf
          go_wp2
          go_roundw
          case rel =>
            (repeat apply Exists.intro)
            refine ⟨⟨j + 1, by go_num, by omega, hf, by omega, hB⟩, ?_⟩
            rfl
          case measure => simp [intOf]; omega
    · go_wp2
      go_ret
      exact ⟨rfl, hB⟩

end Go.Proofs.Ytpkkehgbnhjnaaa
